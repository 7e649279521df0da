/- 'append' onto a row of the call's own that is read again, behind a guard or in a region that draws its order; and onto a slice that has no room. -/
import Derived.Test.YtlpmfhccfihnfaaKeep
import Derived.Deep.RegionHeld3
namespace Go.Proofs.Ytlpmfhccfihnfaa
open Go.RowKit Go.OpenShut
set_option linter.unusedVariables false

theorem row_news {w : World} {ad : Addr} {len cap : Nat} {ys : List Nat} (hr : Row w (some ad) len cap ys) : ∀ j u, (vals ys)[j]? = some u → w.cell? (ad.add j) = some u := by
  intro j u hj
  have hjl : j < ys.length := by
    have := (List.getElem?_eq_some_iff.1 hj).1
    rwa [length_vals] at this
  obtain ⟨a', ha', hs'⟩ := hr.1.source (by have := hr.1.length; omega)
  obtain rfl := Option.some.inj ha'
  exact hs' j u hj
theorem run_keep_any (w : World) (base n : Nat) (v : Value) (xs ys : List Nat) (ty : TypeId) (hown : w.ownsRow base 5 1 v n (vals xs)) (ad : Addr) (len cap' : Nat) (hr : Row w (some ad) len cap' ys) (hlen : 0 < len) (hn : n + len ≤ 140737488355328) (hbase : base ≤ w.heap.size) :
    ∃ g' cp w', (Builtin.append_ #[34, 34] ty #[v, .slice (some ad) len cap']).run Try.prog w = .ok (.slice (some ⟨g', 0, none⟩) (n + len) cp) w' ∧ w'.ownsRow base 5 1 (.slice (some ⟨g', 0, none⟩) (n + len) cp) (n + len) (vals (xs ++ ys)) ∧
      w'.ownsRow base 5 1 v n (vals xs) ∧ w.grownBy w' v.ownBlock := by
  obtain ⟨i0, hi, hz0, hz1, hz2⟩ := info_parts info5
  have hcount : (vals ys).length = len * 1 := by rw [length_vals, hr.1.length]; simp
  rcases hown.2 with ⟨rfl, rfl⟩ | ⟨g, cap, cur, rfl, _⟩
  · obtain ⟨v', w', hrun, h2, h3, h4⟩ := run_append_own (P := Try.prog) w base 34 ty 5 i0 (.int .u8 0) 1 1 Try.underlying34 hi hz0 hz1 hz2 rfl (by decide) (.slice none 0 0) 0 (vals xs) hown ad len cap' (vals ys) hcount (row_news hr) (vals_one ys) (by unfold maxLen; omega) (by omega) hbase
    rw [← vals_append] at h2
    rcases h2.2 with ⟨h', h0⟩ | ⟨g', cp, cur, rfl, _⟩
    · omega
    · exact ⟨g', cp, w', hrun, h2, ⟨hown.1, .inl ⟨rfl, rfl⟩⟩, h3⟩
  · obtain ⟨v', w', hrun, h2, h3, h4, h5⟩ := run_append_keep (P := Try.prog) w base 34 ty 5 i0 (.int .u8 0) 1 1 Try.underlying34 hi hz0 hz1 hz2 rfl (by decide) g cap n (vals xs) hown ad len cap' (vals ys) hcount (row_news hr) (vals_one ys) (by unfold maxLen; omega) (by omega) hbase
    rw [← vals_append] at h2
    rcases h2.2 with ⟨h', _⟩ | ⟨g', cp, cur, rfl, _⟩
    · exact absurd h' h4
    · exact ⟨g', cp, w', hrun, h2, h5, h3⟩
/-- The operation, behind a guard that says yes or with none, in a region that draws its order. -/
theorem held_append {w : World} {ops : Array Oper} {o : Oper} {a : Act} {K : Act → World → Prop} {Q : Exit → Act → World → Prop} {Z : Prop} [Decidable (Region.wanted o (yielded ops a.tmps) = true)] (hw : Region.wanted o (yielded ops a.tmps) = true) (s x : Operand)
    (ho : o.op = .call { callee := .builtin .append, args := #[s, x], argTypes := #[34, 34] })
    (base n : Nat) (xs ys : List Nat) (v : Value) (hs : a.eval s = v) (hown : w.ownsRow base 5 1 v n (vals xs)) (hbase : base ≤ w.heap.size)
    (ad : Addr) (len cap' : Nat) (hx : a.eval x = .slice (some ad) len cap') (hr : Row w (some ad) len cap' ys) (hlen : 0 < len) (hn : n + len ≤ 140737488355328)
    (w0 : World) (hb0 : Below base w0 w)
    (h : ∀ g' cp w', w'.ownsRow base 5 1 (.slice (some ⟨g', 0, none⟩) (n + len) cp) (n + len) (vals (xs ++ ys)) → w'.ownsRow base 5 1 v n (vals xs) → Below base w0 w' → K (a.put o.dst (.slice (some ⟨g', 0, none⟩) (n + len) cp)) w') :
    if Region.wanted o (yielded ops a.tmps) = true then Oper.wp Try.prog o a w K Q else Z := by
  rw [if_pos hw]
  obtain ⟨g', cp, w', hrun, h2, h3, h4⟩ := run_keep_any w base n v xs ys o.type hown ad len cap' hr hlen hn hbase
  have hb : Below base w0 w' := hb0.grown h4 hbase (fun k hk => (hown.lt k hk).1)
  unfold Oper.wp execOp
  simp only [ho, resolve, invoke, builtin, Sem.run_bind, Sem.run_pure, Result.andThen_ok, List.map_toArray, List.map_cons, List.map_nil, hs, hx, hrun]
  exact h g' cp w' h2 h3 hb
/-- The same for a plain list of operations. -/
theorem guarded_append {w : World} {ops : Array Oper} {rest : List Oper} {o : Oper} {a : Act} {Q : Exit → Act → World → Prop} (hw : Region.wanted o (yielded ops a.tmps) = true) (s x : Operand)
    (ho : o.op = .call { callee := .builtin .append, args := #[s, x], argTypes := #[34, 34] })
    (base n : Nat) (xs ys : List Nat) (v : Value) (hs : a.eval s = v) (hown : w.ownsRow base 5 1 v n (vals xs)) (hbase : base ≤ w.heap.size)
    (ad : Addr) (len cap' : Nat) (hx : a.eval x = .slice (some ad) len cap') (hr : Row w (some ad) len cap' ys) (hlen : 0 < len) (hn : n + len ≤ 140737488355328)
    (w0 : World) (hb0 : Below base w0 w)
    (h : ∀ g' cp w', w'.ownsRow base 5 1 (.slice (some ⟨g', 0, none⟩) (n + len) cp) (n + len) (vals (xs ++ ys)) → w'.ownsRow base 5 1 v n (vals xs) → Below base w0 w' → wpList Try.prog ops Q rest (a.put o.dst (.slice (some ⟨g', 0, none⟩) (n + len) cp)) w') :
    wpList Try.prog ops Q (o :: rest) a w := by
  refine BigFrame.wpList_want hw fun K hK => ?_
  have := held_append (K := K) (Q := Q) (Z := True) hw s x ho base n xs ys v hs hown hbase ad len cap' hx hr hlen hn w0 hb0 (fun g' cp w' h2 h3 h4 => hK _ _ (h g' cp w' h2 h3 h4))
  rw [if_pos hw] at this
  exact this
/-- 'append(s, ys...)', s a slice without room: a new row. -/
theorem held_append_grow {w : World} {ops : Array Oper} {o : Oper} {a : Act} {K : Act → World → Prop} {Q : Exit → Act → World → Prop} {Z : Prop} [Decidable (Region.wanted o (yielded ops a.tmps) = true)] (hw : Region.wanted o (yielded ops a.tmps) = true) (s x : Operand)
    (ho : o.op = .call { callee := .builtin .append, args := #[s, x], argTypes := #[34, 34] })
    (g n : Nat) (xs ys : List Nat) (hs : a.eval s = .slice (some ⟨g, 0, none⟩) n n) (hrs : Row w (some ⟨g, 0, none⟩) n n xs)
    (ad : Addr) (len cap' : Nat) (hx : a.eval x = .slice (some ad) len cap') (hr : Row w (some ad) len cap' ys) (hlen : 0 < len) (hn : n + len ≤ 140737488355328)
    (h : ∀ g' n' cp w', n' = n + len → Byt w' (some ⟨g', 0, none⟩) n' cp (xs ++ ys) → Below w.heap.size w w' → K (a.put o.dst (.slice (some ⟨g', 0, none⟩) n' cp)) w') :
    if Region.wanted o (yielded ops a.tmps) = true then Oper.wp Try.prog o a w K Q else Z := by
  rw [if_pos hw]
  obtain ⟨i0, hi, hz0, hz1, hz2⟩ := info_parts info5
  have hrun := run_append_grow (P := Try.prog) w 34 o.type 5 i0 (.int .u8 0) Try.underlying34 hi hz0 ⟨g, 0, none⟩ n n (vals xs) (by rw [length_vals, hrs.1.length, hz1]; simp) (row_news hrs) ad len cap' (vals ys) (by rw [length_vals, hr.1.length, hz1]; simp) (row_news hr) (by omega) (by omega)
    (growslice_fits (by omega) (by rw [hz2]; omega))
  have hge := grownCap_ge w (n + len) n 5
  have hb : Below w.heap.size w (w.drew.alloc (.cells ((vals xs).toArray ++ (vals ys).toArray ++ Builtin.zeroCells (Value.int .u8 0).cells (grownCap w (n + len) n 5 - (n + len))) 5)) := ((Below.refl _ _).drew).alloc (Nat.le_refl _) _
  have hlx := hrs.1.length
  have hly := hr.1.length
  have hy : Byt (w.drew.alloc (.cells ((vals xs).toArray ++ (vals ys).toArray ++ Builtin.zeroCells (Value.int .u8 0).cells (grownCap w (n + len) n 5 - (n + len))) 5)) (some ⟨w.heap.size, 0, none⟩) (n + len) (grownCap w (n + len) n 5) (xs ++ ys) := by
    refine ⟨by rw [List.length_append]; omega, hge, all_append hrs.1.all hr.1.all, .inr ⟨w.heap.size, 0, rfl, fun i hi2 => ?_⟩⟩
    have hg : (w.drew.alloc (.cells ((vals xs).toArray ++ (vals ys).toArray ++ Builtin.zeroCells (Value.int .u8 0).cells (grownCap w (n + len) n 5 - (n + len))) 5)).heap[w.heap.size]? = some (.cells ((vals xs).toArray ++ (vals ys).toArray ++ Builtin.zeroCells (Value.int .u8 0).cells (grownCap w (n + len) n 5 - (n + len))) 5 (0, 0)) := heap_alloc_new w.drew _
    rw [Nat.zero_add, cell_of_row _ _ _ _ _ _ hg]
    have hlen2 : i < (vals (xs ++ ys)).length := by rw [length_vals, List.length_append]; omega
    have e : ((vals xs).toArray ++ (vals ys).toArray) = (vals (xs ++ ys)).toArray := by rw [vals_append]; simp
    rw [e, Array.getElem?_append_left (by simpa using hlen2)]
    have hi3 : i < (xs ++ ys).length := by rw [List.length_append]; omega
    rw [List.getElem?_toArray]
    unfold vals
    rw [List.getElem?_map, List.getD_eq_getElem?_getD, List.getElem?_eq_getElem hi3]
    rfl
  unfold Oper.wp execOp
  simp only [ho, resolve, invoke, builtin, Sem.run_bind, Sem.run_pure, Result.andThen_ok, List.map_toArray, List.map_cons, List.map_nil, hs, hx, hrun]
  exact h _ _ _ _ rfl hy hb
end Go.Proofs.Ytlpmfhccfihnfaa
