/- 'append' of one element onto a row of the call's own, whatever the elements: strings, numbers. -/
import Derived.Test.YtifogkacjfpipaaConfigs
namespace Go.Proofs.Ytifogkacjfpipaa
open Go.RowKit
open Go.RuneMath
set_option linter.unusedVariables false

/-- The call's own row of elements of type e. -/
def Own {α : Type} (f : α → Value) (e : Nat) (w : World) (base : Nat) (v : Value) (l : List α) : Prop := w.ownsRow base e 1 v l.length (l.map f)
theorem own_nil {α : Type} (f : α → Value) (e : Nat) (w : World) (base : Nat) : Own f e w base (.slice none 0 0) [] := World.ownsRow_nil w base e 1
theorem Own.alloc {α : Type} {f : α → Value} {e : Nat} {w : World} {base : Nat} {v : Value} {l : List α} (h : Own f e w base v l) (o : Obj) : Own f e (w.alloc o) base v l := World.ownsRow.alloc h o
theorem Own.below {α : Type} {f : α → Value} {e : Nat} {w w' : World} {base : Nat} {v : Value} {l : List α} (h : Own f e w base v l) (hb : Below w.heap.size w w') : Own f e w' base v l := by
  refine ⟨h.1, ?_⟩
  rcases h.2 with hn | ⟨g, cap, cur, rfl, hbg, hh, r⟩
  · exact .inl hn
  · exact .inr ⟨g, cap, cur, rfl, hbg, (hb.block g (lt_of_block hh)).trans hh, r⟩
/-- What is owned, as a slice. -/
theorem Own.at {α : Type} {f : α → Value} {e : Nat} {w : World} {base : Nat} {v : Value} {l : List α} (h : Own f e w base v l) : ∃ ao cap, v = .slice ao l.length cap ∧ ∀ (i : Nat) x, l[i]? = some x → ∃ g, ao = some ⟨g, 0, none⟩ ∧ g < w.heap.size ∧ w.cell? ⟨g, i, none⟩ = some (f x) := by
  rcases h.2 with ⟨hv, hn⟩ | ⟨g, cap, cur, rfl, hg, hh, hc, hm, hsz, ht⟩
  · refine ⟨none, 0, by rw [hv, hn], fun i x hi => ?_⟩
    rw [List.eq_nil_of_length_eq_zero hn] at hi
    simp at hi
  · refine ⟨some ⟨g, 0, none⟩, cap, rfl, fun i x hi => ⟨g, rfl, lt_of_block hh, ?_⟩⟩
    have hil : i < l.length := (List.getElem?_eq_some_iff.1 hi).1
    rw [cell_of_row w g i _ _ _ hh]
    have h1 : (cur.toList.take (l.length * 1))[i]? = cur[i]? := by rw [List.getElem?_take, if_pos (by omega)]; simp
    rw [← h1, ht, List.getElem?_map, hi]
    rfl
theorem run_own_append {α : Type} (f : α → Value) (hone : ∀ x, (f x).oneCell' = true) (t e bytes : Nat) (z : Value) (ht : Try.prog.underlying t = some (.slice e)) (hinfo : (Try.prog.info? e).map (fun i => (i.zero, i.size, i.bytes)) = some (some z, 1, bytes)) (hz : z.cells.size = 1)
    (w : World) (base : Nat) (v : Value) (l : List α) (y : α) (ty : Nat) (hown : Own f e w base v l) (ad : Addr) (cap : Nat) (hr : w.cell? (ad.add 0) = some (f y)) (hn : l.length + 1 ≤ 8000000) (hby : bytes ≤ 16) (hbase : base ≤ w.heap.size) :
    ∃ v' w', (Builtin.append_ #[t, t] ty #[v, .slice (some ad) 1 cap]).run Try.prog w = .ok v' w' ∧ Own f e w' base v' (l ++ [y]) ∧ w.grownBy w' v.ownBlock := by
  obtain ⟨i0, hi, hz0, hz1, hz2⟩ := info_parts hinfo
  have hnews : ∀ j u, [f y][j]? = some u → w.cell? (ad.add j) = some u := by
    intro j u hj
    match j, hj with
    | 0, hj =>
      obtain rfl : f y = u := by simpa using hj
      exact hr
  have hb2 : (l.length + 1) * bytes ≤ 140737488355328 := by
    have := Nat.mul_le_mul hn hby
    omega
  obtain ⟨v', w', hrun, h2, h3, _⟩ := run_append_own (P := Try.prog) w base t ty e i0 z 1 bytes ht hi hz0 hz1 hz2 hz (by decide) v l.length (l.map f) hown ad 1 cap [f y] (by simp) hnews (by intro u hu; simp at hu; subst hu; exact hone y) (by unfold maxLen; omega) hb2 hbase
  refine ⟨v', w', hrun, ?_, h3⟩
  unfold Own
  rw [List.map_append, List.length_append]
  exact h2
theorem list_own {α : Type} (f : α → Value) (hone : ∀ x, (f x).oneCell' = true) (t e bytes : Nat) (z : Value) (ht : Try.prog.underlying t = some (.slice e)) (hinfo : (Try.prog.info? e).map (fun i => (i.zero, i.size, i.bytes)) = some (some z, 1, bytes)) (hz : z.cells.size = 1)
    {w : World} {ops : Array Oper} {rest : List Oper} {o : Oper} {a : Act} {Q : Exit → Act → World → Prop} (hw : Region.wanted o (yielded ops a.tmps) = true) (s x : Operand)
    (ho : o.op = .call { callee := .builtin .append, args := #[s, x], argTypes := #[t, t] })
    (base : Nat) (l : List α) (y : α) (v : Value) (hs : a.eval s = v) (hown : Own f e w base v l) (hbase : base ≤ w.heap.size)
    (ad : Addr) (cap : Nat) (hx : a.eval x = .slice (some ad) 1 cap) (hr : w.cell? (ad.add 0) = some (f y)) (hn : l.length + 1 ≤ 8000000) (hby : bytes ≤ 16)
    (h : ∀ v' w', Own f e w' base v' (l ++ [y]) → w.grownBy w' v.ownBlock → wpList Try.prog ops Q rest (a.put o.dst v') w') :
    wpList Try.prog ops Q (o :: rest) a w := by
  refine BigFrame.wpList_want hw fun K hK => ?_
  obtain ⟨v', w', hrun, h2, h3⟩ := run_own_append f hone t e bytes z ht hinfo hz w base v l y o.type hown ad cap hr hn hby hbase
  unfold Oper.wp execOp
  simp only [ho, resolve, invoke, builtin, Sem.run_bind, Sem.run_pure, Result.andThen_ok, List.map_toArray, List.map_cons, List.map_nil, hs, hx, hrun]
  exact hK _ _ (h v' w' h2 h3)
theorem Below.own {α : Type} {f : α → Value} {e : Nat} {w0 w w' : World} {base B : Nat} {v : Value} {l : List α} (h : Below B w0 w) (ho : Own f e w base v l) (hB : B ≤ base) (hs : B ≤ w.heap.size) (hg : w.grownBy w' v.ownBlock) : Below B w0 w' :=
  h.grown hg hs (fun k hk => by have := (ho.lt k hk).1; omega)
theorem info9 : (Try.prog.info? 9).map (fun i => (i.zero, i.size, i.bytes)) = some (some (.string ⟨#[]⟩), 1, 16) := by kernel_rfl
theorem info2 : (Try.prog.info? 2).map (fun i => (i.zero, i.size, i.bytes)) = some (some (.int .i64 0), 1, 8) := by kernel_rfl
theorem StrsAt.below {w w' : World} {ao : Option Addr} {l : List ByteArray} (h : StrsAt w ao l) (hb : Below w.heap.size w w') : StrsAt w' ao l := by
  intro i s hi
  obtain ⟨b, off, e, hlt, hc⟩ := h i s hi
  exact ⟨b, off, e, Nat.lt_of_lt_of_le hlt hb.size, (hb.cell (p := ⟨b, off + i, none⟩) hlt).trans hc⟩
theorem NumsAt.below {w w' : World} {ao : Option Addr} {l : List Int} (h : NumsAt w ao l) (hb : Below w.heap.size w w') : NumsAt w' ao l := by
  intro i s hi
  obtain ⟨b, off, e, hlt, hc⟩ := h i s hi
  exact ⟨b, off, e, Nat.lt_of_lt_of_le hlt hb.size, (hb.cell (p := ⟨b, off + i, none⟩) hlt).trans hc⟩
theorem ConfsAt.below {w w' : World} {ao : Option Addr} {l : List Cf} (h : ConfsAt w ao l) (hb : Below w.heap.size w w') : ConfsAt w' ao l := by
  intro i c hi
  obtain ⟨b, off, e, hlt, h0, h1, h2, h3⟩ := h i c hi
  exact ⟨b, off, e, Nat.lt_of_lt_of_le hlt hb.size, (hb.cell (p := ⟨b, _, none⟩) hlt).trans h0, (hb.cell (p := ⟨b, _, none⟩) hlt).trans h1, (hb.cell (p := ⟨b, _, none⟩) hlt).trans h2, (hb.cell (p := ⟨b, _, none⟩) hlt).trans h3⟩
theorem Own.strs {e : Nat} {w : World} {base : Nat} {v : Value} {l : List ByteArray} (h : Own Value.string e w base v l) : ∃ ao cap, v = .slice ao l.length cap ∧ StrsAt w ao l := by
  obtain ⟨ao, cap, hv, hc⟩ := h.at
  refine ⟨ao, cap, hv, fun i s hi => ?_⟩
  obtain ⟨g, hg, hlt, hcell⟩ := hc i s hi
  exact ⟨g, 0, hg, hlt, by rw [Nat.zero_add]; exact hcell⟩
theorem Own.nums {e : Nat} {w : World} {base : Nat} {v : Value} {l : List Int} (h : Own (Value.int .i64) e w base v l) : ∃ ao cap, v = .slice ao l.length cap ∧ NumsAt w ao l := by
  obtain ⟨ao, cap, hv, hc⟩ := h.at
  refine ⟨ao, cap, hv, fun i s hi => ?_⟩
  obtain ⟨g, hg, hlt, hcell⟩ := hc i s hi
  exact ⟨g, 0, hg, hlt, by rw [Nat.zero_add]; exact hcell⟩
theorem no_confs (w : World) : ConfsAt w none [] := fun i c hi => by simp at hi
end Go.Proofs.Ytifogkacjfpipaa
