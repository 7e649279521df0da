/- Rows of runes that the call makes. -/
import Derived.Test.YtjocfkkcnkpjdaaDoorNameIt
import Derived.Test.YtjocfkkcnkpjdaaDoorBytes
namespace Go.Proofs.YtjocfkkcnkpjdaaDoor
open Go.RowKit
open Go.RuneMath
set_option linter.unusedVariables false

def rval (r : Nat) : Value := .int .i32 (r : Int)
def rvals (l : List Nat) : List Value := l.map rval
theorem rvals_len (l : List Nat) : (rvals l).length = l.length := by simp [rvals]
theorem rvals_snoc (l : List Nat) (r : Nat) : rvals (l ++ [r]) = rvals l ++ [.int .i32 (r : Int)] := by simp [rvals, rval]
theorem info21 : (Tryd.prog.info? 21).map (fun i => (i.zero, i.size, i.bytes)) = some (some (.int .i32 0), 1, 4) := by kernel_rfl
theorem owns_base {w : World} {b b' e size n : Nat} {v : Value} {xs : List Value} (h : w.ownsRow b e size v n xs) (hb : b' ≤ b) : w.ownsRow b' e size v n xs := by
  refine ⟨h.1, ?_⟩
  rcases h.2 with h0 | ⟨g, cap, cur, hv, hg, r⟩
  · exact .inl h0
  · exact .inr ⟨g, cap, cur, hv, Nat.le_trans hb hg, r⟩
theorem owns_alloc {w : World} {b e size n : Nat} {v : Value} {xs : List Value} (h : w.ownsRow b e size v n xs) (o : Obj) : (w.alloc o).ownsRow b e size v n xs := by
  refine ⟨h.1, ?_⟩
  rcases h.2 with h0 | ⟨g, cap, cur, hv, hg, hh, r⟩
  · exact .inl h0
  · exact .inr ⟨g, cap, cur, hv, hg, by rw [Below.heap_alloc w o g (Array.getElem?_eq_some_iff.1 hh).1]; exact hh, r⟩
theorem owns_iter {w : World} {b e size n : Nat} {v : Value} {xs : List Value} (h : w.ownsRow b e size v n xs) {k : Nat} (hk : k < b) (s : ByteArray) (pos : Nat) : (w.iterAt k s pos).ownsRow b e size v n xs := by
  refine ⟨h.1, ?_⟩
  rcases h.2 with h0 | ⟨g, cap, cur, hv, hg, hh, r⟩
  · exact .inl h0
  · exact .inr ⟨g, cap, cur, hv, hg, by rw [Lib.iterAt_other w k g s pos (by omega)]; exact hh, r⟩
/-- The iterator behind an append onto a row that lies above it. -/
theorem it_grown {w w' : World} {k : Nat} {s : ByteArray} {pos : Nat} (h : ItAt w k s pos) {row : Option Nat} (hg : w.grownBy w' row) {b : Nat} (hk : k < b) (hr : ∀ j, row = some j → b ≤ j) : ItAt w' k s pos := by
  unfold ItAt at *
  rw [hg.block k (Array.getElem?_eq_some_iff.1 h).1 (fun e => by have := hr k e.symm; omega)]
  exact h
theorem it_alloc {w : World} {k : Nat} {s : ByteArray} {pos : Nat} (h : ItAt w k s pos) (o : Obj) : ItAt (w.alloc o) k s pos := by
  unfold ItAt at *
  rw [Below.heap_alloc w o k (Array.getElem?_eq_some_iff.1 h).1]
  exact h
/-- The row that a range over a string has collected so far. -/
def Coll (s : ByteArray) (w wr : World) (v : Value) (pos : Nat) : Prop := ∃ pre : List Nat, wr.ownsRow (w.heap.size + 1) 21 1 v pre.length (rvals pre) ∧ ItAt wr w.heap.size s pos ∧ Below w.heap.size w wr ∧ runes s.data.toList = pre ++ rs s pos
theorem coll_start (s : ByteArray) (w : World) : Coll s w (w.alloc (.stringIter s 0)) (.slice none 0 0) 0 :=
  ⟨[], ⟨rfl, .inl ⟨rfl, rfl⟩⟩, it_start w s, (Below.refl _ w).alloc (Nat.le_refl _) _, by rw [rs_zero]; rfl⟩
theorem coll_end {s : ByteArray} {w wr : World} {v : Value} {pos : Nat} (h : Coll s w wr v pos) (hp : ¬ pos < s.size) : wr.ownsRow w.heap.size 21 1 v (runes s.data.toList).length (rvals (runes s.data.toList)) ∧ Below w.heap.size w wr := by
  obtain ⟨pre, ho, hi, hb, he⟩ := h
  rw [rs_end hp, List.append_nil] at he
  rw [he]
  exact ⟨owns_base ho (by omega), hb⟩
theorem coll_it {s : ByteArray} {w wr : World} {v : Value} {pos : Nat} (h : Coll s w wr v pos) : ItAt wr w.heap.size s pos := by
  obtain ⟨pre, ho, hi, hb, he⟩ := h
  exact hi
/-- One more rune: the law for the walk, at any place of the code that has these operands. -/
theorem coll_append {ops : Array Oper} {rest : List Oper} {o : Oper} {a : Act} {Q : Exit → Act → World → Prop} (hgd : o.guard = none) (x y : Operand)
    (ho : o.op = .call { callee := .builtin .append, args := #[x, y], argTypes := #[107, 107] })
    (s : ByteArray) (w wr : World) (v : Value) (pos r k : Nat) (hs : s.size ≤ 1073741824) (hx : a.eval x = v) (h : Coll s w wr v pos) (hp : pos < s.size) (hr : r = (Utf8.decode s pos).1) (hk : k = (Utf8.decode s pos).2)
    (hy : a.eval y = .slice (some ⟨(wr.iterAt w.heap.size s (pos + k)).heap.size, 0, none⟩) 1 1)
    (hpost : ∀ v' w', Coll s w w' v' (pos + k) → wpList Tryd.prog ops Q rest (a.put o.dst v') w') :
    wpList Tryd.prog ops Q (o :: rest) a ((wr.iterAt w.heap.size s (pos + k)).alloc (.cells #[.int .i32 (r : Int)] 21)) := by
  obtain ⟨pre, hown, hit, hb, he⟩ := h
  obtain ⟨i0, hi, hz0, hz1, hz2⟩ := info_parts info21
  have hst := he
  rw [rs_step hp, ← hr, ← hk] at hst
  have hl := runes_len s.data.toList
  rw [hst, ← Lib.size_eq, List.length_append, List.length_cons] at hl
  have hk0 := it_lt hit
  have hown2 := owns_alloc (owns_iter hown (k := w.heap.size) (by omega) s (pos + k)) (.cells #[.int .i32 (r : Int)] 21)
  have hit2 := it_alloc (it_next hit (pos + k)) (.cells #[.int .i32 (r : Int)] 21)
  have hb2 := (Lib.below_iterAt hb (Nat.le_refl _) s (pos + k)).alloc (by rw [Lib.iterAt_size]; omega) (.cells #[.int .i32 (r : Int)] 21)
  refine wpList_append_own _ hgd x y 107 ho (w.heap.size + 1) 21 i0 (.int .i32 0) 1 4 Tryd.underlying107 hi hz0 hz1 hz2 rfl (by decide) v pre.length _ hx hown2 ⟨_, 0, none⟩ 1 1 [.int .i32 (r : Int)] hy rfl ?_ ?_ ?_ ?_ ?_ ?_
  · intro j u hj
    match j, hj with
    | 0, hj => simp at hj; subst hj; simp [Addr.add]
    | (j + 1), hj => simp at hj
  · intro u hu; simp at hu; subst hu; rfl
  · unfold maxLen; omega
  · omega
  · simp [Lib.iterAt_size]; omega
  · intro v' w' ho' hg hn
    refine hpost v' w' ⟨pre ++ [r], ?_, ?_, ?_, ?_⟩
    · rw [rvals_snoc, List.length_append]
      exact ho'
    · exact it_grown hit2 hg (b := w.heap.size + 1) (by omega) (fun j hj => (hown2.lt j hj).1)
    · exact hb2.grown hg (by simp [Lib.iterAt_size]; omega) (fun j hj => by have := (hown2.lt j hj).1; omega)
    · rw [hst]; simp
end Go.Proofs.YtjocfkkcnkpjdaaDoor
