/- Slices that came in, opened: numbers, texts, configurations; how long they are at most. -/
import Derived.Test.YtifogkacjfpipaaRows
import Derived.Test.YtifogkacjfpipaaConfigs
import Derived.Deep.Strs
import Derived.OpenShut
import Derived.ProofKit
namespace Go.Proofs.Ytifogkacjfpipaa
open Go.ChangeShapes Go.WideShapes Go.ChangeAt Go.RowKit Go.Deep
set_option linter.unusedVariables false

theorem one_le {H : Type} (d : DataW H) : 1 ≤ Rows.uptoBulk d := by
  cases d with
  | lit l => cases l <;> simp [Rows.uptoBulk]
  | nil => simp [Rows.uptoBulk]
  | ptr d => simp [Rows.uptoBulk]
  | slice elems spare => simp [Rows.uptoBulk]
  | agg parts => simp [Rows.uptoBulk]
  | iface t d => simp [Rows.uptoBulk]
  | map entries => simp [Rows.uptoBulk]
  | held h => simp [Rows.uptoBulk]
theorem length_le {H : Type} (l : List (DataW H)) : l.length ≤ Rows.uptoBulkAll l := by
  induction l with
  | nil => simp [Rows.uptoBulkAll]
  | cons x r ih => have := one_le x; simp only [Rows.uptoBulkAll, List.length_cons]; omega
theorem mem_le {H : Type} {d : DataW H} {l : List (DataW H)} (h : d ∈ l) : Rows.uptoBulk d ≤ Rows.uptoBulkAll l := by
  induction l with
  | nil => cases h
  | cons x r ih =>
    simp only [Rows.uptoBulkAll]
    rcases List.mem_cons.1 h with e | e
    · subst e; omega
    · have := ih e; omega
theorem elems_le {H : Type} (elems spare : List (DataW H)) : Rows.uptoBulkAll elems ≤ Rows.uptoBulk (.slice elems spare) := by
  simp only [Rows.uptoBulk]
  omega
theorem bound {H : Type} {l : List (DataW H)} (hk : Rows.uptoSmall H l = true) : Rows.uptoBulkAll l ≤ 1048576 := of_decide_eq_true hk
/-- An address at which something lies. -/
theorem addr_plain {w : World} {a : Addr} {i : Nat} {v : Value} (h0 : w.cell? (a.add 0) = some v) : ∃ b off, a = ⟨b, off, none⟩ ∧ b < w.heap.size ∧ ∀ j, a.add j = ⟨b, off + j, none⟩ := by
  obtain ⟨b, off, spot⟩ := a
  have hs : spot = none := by simpa [Addr.add] using World.cell?_spot h0
  subst hs
  have e0 : (⟨b, off, none⟩ : Addr).add 0 = ⟨b, off, none⟩ := by simp [Addr.add]
  rw [e0] at h0
  exact ⟨b, off, rfl, World.block_lt_of_cell? w _ h0, fun j => Go.WideShapes.add_plain b off j⟩
section
variable {H : Type} {enc : TypeId × Value → H} {w : World}
theorem open_nums {t e : TypeId} {fuel len cap : Nat} {a : Option Addr} {d : DataW H} {p : List MemPlace} (ht : Try.prog.underlying t = some (.slice e)) (he : Try.prog.underlying e = some (.int .i64)) (hc : Try.prog.cellsOf e = 1)
    (h : DataW.trod enc Try.prog w 0 (fun _ => true) true fuel t [.slice a len cap] = some (d, p)) : ∃ l : List Int, l.length = len ∧ NumsAt w a l ∧ len ≤ Rows.uptoBulk d := by
  rcases open_ints ht he hc h with ⟨hcs, _⟩ | ⟨x, l, c, zs, hcs, _, hl, hm, hz, hx, hcell, hwz⟩
  · simp at hcs
    obtain ⟨rfl, rfl, rfl⟩ := hcs
    exact ⟨[], rfl, fun i n hi => by simp at hi, Nat.zero_le _⟩
  · simp at hcs
    obtain ⟨rfl, rfl, rfl⟩ := hcs
    have hz' : zs.length = cap := by simpa using hz
    refine ⟨zs.take len, by rw [List.length_take]; omega, fun i n hi => ?_, ?_⟩
    · have hil : i < (zs.take len).length := (List.getElem?_eq_some_iff.1 hi).1
      rw [List.length_take] at hil
      obtain ⟨b, off, rfl, hb, hadd⟩ := addr_plain (i := 0) (hcell 0 (by omega))
      refine ⟨b, off, rfl, hb, ?_⟩
      rw [← hadd, hcell i (by omega)]
      rw [List.getElem?_take, if_pos (by omega)] at hi
      rw [List.getD_eq_getElem?_getD, hi]
      rfl
    · have hd := congrArg Prod.fst hx
      simp only at hd
      rw [hd]
      refine Nat.le_trans ?_ (elems_le _ _)
      refine Nat.le_trans ?_ (length_le _)
      simp [lits]
      omega
theorem open_texts {t e : TypeId} {fuel len cap : Nat} {a : Option Addr} {d : DataW H} {p : List MemPlace} (ht : Try.prog.underlying t = some (.slice e)) (he : Try.prog.underlying e = some .string) (hc : Try.prog.cellsOf e = 1)
    (h : DataW.trod enc Try.prog w 0 (fun _ => true) true fuel t [.slice a len cap] = some (d, p)) : ∃ l : List ByteArray, l.length = len ∧ StrsAt w a l ∧ ∀ s ∈ l, s.size ≤ Rows.uptoBulk d := by
  rcases open_strs ht he hc h with ⟨hcs, _⟩ | ⟨x, l, c, m, Sx, hcs, _, hl, hm, hmm, hx, hcell⟩
  · simp at hcs
    obtain ⟨rfl, rfl, rfl⟩ := hcs
    exact ⟨[], rfl, fun i n hi => by simp at hi, by simp⟩
  · simp at hcs
    obtain ⟨rfl, rfl, rfl⟩ := hcs
    simp at hmm
    subst hmm
    refine ⟨(List.range len).map Sx, by simp, fun i s hi => ?_, fun s hs => ?_⟩
    · have hil : i < len := by simpa using (List.getElem?_eq_some_iff.1 hi).1
      obtain rfl : Sx i = s := by simpa [hil] using hi
      obtain ⟨b, off, rfl, hb, hadd⟩ := addr_plain (i := 0) (hcell 0 (by omega)).1
      refine ⟨b, off, rfl, hb, ?_⟩
      rw [← hadd, (hcell i (by omega)).1]
    · obtain ⟨i, hi, rfl⟩ := List.mem_map.1 hs
      have hd := congrArg Prod.fst hx
      simp only at hd
      rw [hd]
      refine Nat.le_trans ?_ (elems_le _ _)
      refine Nat.le_trans ?_ (mem_le (List.mem_map.2 ⟨i, hi, rfl⟩))
      simp only [Rows.uptoBulk]
      rw [← Lib.size_eq]
      omega
theorem open_confs {fuel len cap : Nat} {a : Option Addr} {d : DataW H} {p : List MemPlace}
    (h : DataW.trod enc Try.prog w 0 (fun _ => true) true fuel 28 [.slice a len cap] = some (d, p)) : ∃ l : List Cf, l.length = len ∧ ConfsAt w a l := by
  have hc4 : Try.prog.cellsOf 27 = 4 := by kernel_rfl
  have hc1 : Try.prog.cellsOf 3 = 1 := by kernel_rfl
  rcases open_slice Try.underlying28 h with ⟨hcs, _⟩ | ⟨x, l, c, m, n, D, Pl, hcs, _, hl, hm, hmm, hx, hcell⟩
  · simp at hcs
    obtain ⟨rfl, rfl, rfl⟩ := hcs
    exact ⟨[], rfl, fun i n hi => by simp at hi⟩
  · simp at hcs
    obtain ⟨rfl, rfl, rfl⟩ := hcs
    simp at hmm
    subst hmm
    have each : ∀ i, i < len → ∃ y : Cf, w.cell? (x.add (i * 4)) = some (.int .i64 y.a) ∧ w.cell? (x.add (i * 4 + 1)) = some (.int .i64 y.b) ∧ w.cell? (x.add (i * 4 + 2)) = some (.int .i64 y.c) ∧ w.cell? (x.add (i * 4 + 3)) = some (.int .i64 y.d) := by
      intro i hi
      obtain ⟨cs, hcs, htr⟩ := hcell i (by omega)
      rw [hc4] at hcs
      obtain ⟨ys, n', hn', hy, hlen, hyl, hf⟩ := DataW.trod_struct Try.underlying27 htr
      obtain ⟨_, hcl, hat⟩ := World.cells?_some hcs
      match cs, hcl, hat, hf with
      | [c0, c1, c2, c3], _, hat, hf =>
        match ys, hyl, hf with
        | [y0, y1, y2, y3], _, hf =>
          have f0 : DataW.trod enc Try.prog w 0 (fun _ => true) true n' 3 [c0] = some y0 := by have := hf 0 _ rfl; simpa [hc1] using this
          have f1 : DataW.trod enc Try.prog w 0 (fun _ => true) true n' 3 [c1] = some y1 := by have := hf 1 _ rfl; simpa [hc1] using this
          have f2 : DataW.trod enc Try.prog w 0 (fun _ => true) true n' 3 [c2] = some y2 := by have := hf 2 _ rfl; simpa [hc1] using this
          have f3 : DataW.trod enc Try.prog w 0 (fun _ => true) true n' 3 [c3] = some y3 := by have := hf 3 _ rfl; simpa [hc1] using this
          obtain ⟨i0, e0, _⟩ := DataW.trod_int Try.underlying3 f0
          obtain ⟨i1, e1, _⟩ := DataW.trod_int Try.underlying3 f1
          obtain ⟨i2, e2, _⟩ := DataW.trod_int Try.underlying3 f2
          obtain ⟨i3, e3, _⟩ := DataW.trod_int Try.underlying3 f3
          have g0 := hat 0 (by omega)
          have g1 := hat 1 (by omega)
          have g2 := hat 2 (by omega)
          have g3 := hat 3 (by omega)
          rw [add_add] at g0 g1 g2 g3
          simp at e0 e1 e2 e3
          subst e0 e1 e2 e3
          exact ⟨⟨i0, i1, i2, i3⟩, g0, g1, g2, g3⟩
    have inst : Inhabited Cf := ⟨Cf.zero⟩
    obtain ⟨Y, hY⟩ := choose_lt each
    refine ⟨(List.range len).map Y, by simp, fun i c hi => ?_⟩
    have hil : i < len := by simpa using (List.getElem?_eq_some_iff.1 hi).1
    obtain rfl : Y i = c := by simpa [hil] using hi
    obtain ⟨b, off, rfl, hb, hadd⟩ := addr_plain (i := 0) (by have := (hY 0 (by omega)).1; simpa using this)
    obtain ⟨q0, q1, q2, q3⟩ := hY i hil
    rw [hadd] at q0 q1 q2 q3
    exact ⟨b, off, rfl, hb, q0, q1, q2, q3⟩
end
end Go.Proofs.Ytifogkacjfpipaa
