/- The call's own rows of records: what they read as; append of one record, or of a whole list. -/
import Derived.Test.YtlpmfhccfihnfaaBatBits
import Derived.OwnWalk
import Derived.Deep.RegionHeld3
namespace Go.Proofs.Ytlpmfhccfihnfaa
open Go.RowKit
open Go.BatMath hiding AllB getD_lt take_all
set_option linter.unusedVariables false

def recVals (l : List Rc) : List Value := l.flatMap fun r => [.string r.key, .string r.val]
theorem recVals_len : ∀ l : List Rc, (recVals l).length = l.length * 2
  | [] => rfl
  | r :: l => by rw [recVals, List.flatMap_cons, List.length_append]; have := recVals_len l; unfold recVals at this; rw [this]; simp; omega
theorem recVals_app (a b : List Rc) : recVals (a ++ b) = recVals a ++ recVals b := by simp [recVals]
theorem recVals_at : ∀ (l : List Rc) (i : Nat) (r : Rc), l[i]? = some r → (recVals l)[i * 2]? = some (.string r.key) ∧ (recVals l)[i * 2 + 1]? = some (.string r.val)
  | [], i, r, h => by cases h
  | x :: l, 0, r, h => by
    cases h
    exact ⟨rfl, rfl⟩
  | x :: l, i + 1, r, h => by
    have ih := recVals_at l i r h
    have e : recVals (x :: l) = .string x.key :: .string x.val :: recVals l := rfl
    rw [e, show (i + 1) * 2 = i * 2 + 1 + 1 by omega]
    exact ih
theorem recVals_one (l : List Rc) : ∀ u ∈ recVals l, u.oneCell' = true := by
  intro u hu
  obtain ⟨r, _, h⟩ := List.mem_flatMap.1 hu
  rcases List.mem_cons.1 h with rfl | h
  · rfl
  · rcases List.mem_cons.1 h with rfl | h
    · rfl
    · cases h
def OwnRecs (w : World) (base : Nat) (v : Value) (l : List Rc) : Prop := w.ownsRow base 58 2 v l.length (recVals l)
theorem ownRecs_nil (w : World) (base : Nat) : OwnRecs w base (.slice none 0 0) [] := World.ownsRow_nil w base 58 2
theorem OwnRecs.low {w : World} {base base' : Nat} {v : Value} {l : List Rc} (h : OwnRecs w base v l) (hb : base' ≤ base) : OwnRecs w base' v l := by
  refine ⟨h.1, ?_⟩
  rcases h.2 with hn | ⟨g, cap, cur, rfl, hbg, hh, r⟩
  · exact .inl hn
  · exact .inr ⟨g, cap, cur, rfl, Nat.le_trans hb hbg, hh, r⟩
theorem OwnRecs.on {w w' : World} {base : Nat} {v : Value} {l : List Rc} (h : OwnRecs w base v l) (hb : Below w.heap.size w w') : OwnRecs w' base v l := by
  refine ⟨h.1, ?_⟩
  rcases h.2 with hn | ⟨g, cap, cur, rfl, hbg, hh, r⟩
  · exact .inl hn
  · exact .inr ⟨g, cap, cur, rfl, hbg, (hb.block g (lt_of_block hh)).trans hh, r⟩
/-- A cell of a block below the row is written. -/
theorem OwnRecs.set {w : World} {base k j : Nat} {u v : Value} {l : List Rc} (h : OwnRecs w base v l) (hk : k < base) : OwnRecs (w.setCell ⟨k, j, none⟩ u) base v l := by
  refine ⟨h.1, ?_⟩
  rcases h.2 with hn | ⟨g, cap, cur, rfl, hbg, hh, r⟩
  · exact .inl hn
  · exact .inr ⟨g, cap, cur, rfl, hbg, box_off hh (by omega) u, r⟩
theorem OwnRecs.at {w : World} {base : Nat} {v : Value} {l : List Rc} (h : OwnRecs w base v l) : ∃ ad cap, v = .slice ad l.length cap ∧ RecsAt w ad l.length cap l ∧ (∀ a, ad = some a → base ≤ a.block) := by
  rcases h.2 with ⟨hn, h0⟩ | ⟨g, cap, cur, rfl, hbg, hh, hc, _, _, ht⟩
  · have hl := List.eq_nil_of_length_eq_zero h0
    subst hl
    exact ⟨none, 0, hn, recsAt_nil w, fun a h => by cases h⟩
  · refine ⟨_, _, rfl, ⟨rfl, hc, (fun h => by cases h), .inr ⟨g, 0, rfl, lt_of_block hh, fun i r hi => ?_⟩⟩, fun a h => by cases h; exact hbg⟩
    have hil : i < l.length := (List.getElem?_eq_some_iff.1 hi).1
    obtain ⟨h1, h2⟩ := recVals_at l i r hi
    rw [← ht, List.getElem?_take, if_pos (by omega)] at h1 h2
    rw [Nat.zero_add]
    refine ⟨?_, ?_⟩
    · rw [cell_of_row w g _ _ _ _ hh]; simpa using h1
    · rw [cell_of_row w g _ _ _ _ hh]; simpa using h2
theorem infoRec : (Try.prog.info? 58).map (fun i => (i.zero, i.size, i.bytes)) = some (some (.agg #[.string ⟨#[]⟩, .string ⟨#[]⟩]), 2, 32) := by kernel_rfl
/-- What a block of records reads as, record by record. -/
def RecNews (w : World) (a : Addr) (l : List Rc) : Prop := ∀ j u, (recVals l)[j]? = some u → w.cell? (a.add j) = some u
theorem recNews_of {w : World} {b off len cap : Nat} {l : List Rc} (h : RecsAt w (some ⟨b, off, none⟩) len cap l) : RecNews w ⟨b, off, none⟩ l := by
  intro j u hj
  have hjl : j < l.length * 2 := by
    have := (List.getElem?_eq_some_iff.1 hj).1
    rwa [recVals_len] at this
  have hil : j / 2 < l.length := by omega
  have hi : l[j / 2]? = some (l[j / 2]'hil) := List.getElem?_eq_getElem hil
  obtain ⟨h1, h2⟩ := recVals_at l _ _ hi
  rw [add_at]
  rcases h.cells with h0 | ⟨b', off', e, _, hc⟩
  · have := h.length; omega
  · cases e
    obtain ⟨c1, c2⟩ := hc _ _ hi
    by_cases he : j % 2 = 0
    · have e2 : j = j / 2 * 2 := by omega
      rw [← e2] at h1 c1
      rw [h1] at hj
      cases hj
      exact c1
    · have e2 : j = j / 2 * 2 + 1 := by omega
      rw [← e2] at h2
      rw [Nat.add_assoc, ← e2] at c2
      rw [h2] at hj
      cases hj
      exact c2
theorem recNews_lit (w : World) (k s : ByteArray) (g : Nat) (hg : g = w.heap.size) : RecNews (w.alloc (.cells #[.string k, .string s] 58)) ⟨g, 0, none⟩ [⟨k, s⟩] := by
  subst hg
  intro j u hj
  rw [add_at, Nat.zero_add]
  have hh : (w.alloc (.cells #[.string k, .string s] 58)).heap[w.heap.size]? = some (.cells #[.string k, .string s] 58 (0, 0)) := heap_alloc_new w _
  rw [cell_of_row _ _ _ _ _ _ hh]
  simpa [recVals] using hj
theorem run_recs_append (w : World) (base : Nat) (v : Value) (l m : List Rc) (ty : Nat) (hown : OwnRecs w base v l) (ad : Addr) (cap : Nat) (hr : RecNews w ad m) (hn : l.length + m.length ≤ 1000000) (hbase : base ≤ w.heap.size) :
    ∃ v' w', (Builtin.append_ #[22, 22] ty #[v, .slice (some ad) m.length cap]).run Try.prog w = .ok v' w' ∧ OwnRecs w' base v' (l ++ m) ∧ w.grownBy w' v.ownBlock := by
  obtain ⟨i0, hi, hz0, hz1, hz2⟩ := info_parts infoRec
  obtain ⟨v', w', hrun, h2, h3, _⟩ := run_append_own (P := Try.prog) w base 22 ty 58 i0 (.agg #[.string ⟨#[]⟩, .string ⟨#[]⟩]) 2 32 Try.underlying22 hi hz0 hz1 hz2 rfl (by decide) v l.length (recVals l) hown ad m.length cap (recVals m) (recVals_len m) hr (recVals_one m) (by unfold maxLen; omega) (by omega) hbase
  refine ⟨v', w', hrun, ?_, h3⟩
  unfold OwnRecs
  rw [recVals_app, List.length_append]
  exact h2
theorem list_recs {w : World} {ops : Array Oper} {rest : List Oper} {o : Oper} {a : Act} {Q : Exit → Act → World → Prop} (hw : Region.wanted o (yielded ops a.tmps) = true) (s x : Operand)
    (ho : o.op = .call { callee := .builtin .append, args := #[s, x], argTypes := #[22, 22] })
    (base : Nat) (l m : List Rc) (v : Value) (hs : a.eval s = v) (hown : OwnRecs w base v l) (hbase : base ≤ w.heap.size)
    (ad : Addr) (n cap : Nat) (hnm : m.length = n) (hx : a.eval x = .slice (some ad) n cap) (hr : RecNews w ad m) (hn : l.length + n ≤ 1000000)
    (h : ∀ v' w', OwnRecs w' base v' (l ++ m) → w.grownBy w' v.ownBlock → wpList Try.prog ops Q rest (a.put o.dst v') w') :
    wpList Try.prog ops Q (o :: rest) a w := by
  subst hnm
  refine BigFrame.wpList_want hw fun K hK => ?_
  obtain ⟨v', w', hrun, h2, h3⟩ := run_recs_append w base v l m o.type hown ad cap hr hn hbase
  unfold Oper.wp execOp
  simp only [ho, resolve, invoke, builtin, Sem.run_bind, Sem.run_pure, Result.andThen_ok, List.map_toArray, List.map_cons, List.map_nil, hs, hx, hrun]
  exact hK _ _ (h v' w' h2 h3)
theorem BoxAt.grown {w w' : World} {k base : Nat} {b0 b1 b2 b3 : Int} {b4 : Bool} {b5 : Int} {u v : Value} {l : List Rc} (h : BoxAt w k b0 b1 b2 b3 b4 b5 u) (ho : OwnRecs w base v l) (hk : k < base) (hg : w.grownBy w' v.ownBlock) : BoxAt w' k b0 b1 b2 b3 b4 b5 u := by
  unfold BoxAt at *
  rw [hg.block k (lt_of_block h) (fun e => by have := (ho.lt k e.symm).1; omega)]
  exact h
theorem Below.recs {w0 w w' : World} {base B : Nat} {v : Value} {l : List Rc} (h : Below B w0 w) (ho : OwnRecs w base v l) (hB : B ≤ base) (hs : B ≤ w.heap.size) (hg : w.grownBy w' v.ownBlock) : Below B w0 w' :=
  h.grown hg hs (fun k hk => by have := (ho.lt k hk).1; omega)
/-- A cell of another block than the records' is written. -/
theorem RecsAt.put {w : World} {base j len cap : Nat} {ad : Option Addr} {l : List Rc} {u : Value} (h : RecsAt w ad len cap l) (hb : ∀ a, ad = some a → base < a.block) : RecsAt (w.setCell ⟨base, j, none⟩ u) ad len cap l := by
  refine ⟨h.length, h.fits, h.room, ?_⟩
  rcases h.cells with h0 | ⟨b, off, e, hlt, hc⟩
  · exact .inl h0
  · have hne : b ≠ base := by have := hb _ e; simp only at this; omega
    have hx : ∀ i, (w.setCell ⟨base, j, none⟩ u).cell? ⟨b, i, none⟩ = w.cell? ⟨b, i, none⟩ := fun i => World.cell?_of_block (a := ⟨b, i, none⟩) (by
      show (w.heap.modify base _)[b]? = _
      rw [Array.getElem?_modify, if_neg (Ne.symm hne)])
    refine .inr ⟨b, off, e, by simpa using hlt, fun i r hi => ?_⟩
    rw [hx, hx]
    exact hc i r hi
end Go.Proofs.Ytlpmfhccfihnfaa
