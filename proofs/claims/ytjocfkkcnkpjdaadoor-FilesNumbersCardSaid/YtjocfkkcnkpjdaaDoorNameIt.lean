/- Names by runes: what every text over them shares: an iterator over a string, what the functions give. No function. -/
import Derived.WalkKit
import Derived.BigCall
import Derived.Below
import Derived.Lib.Hide
import Derived.Deep.Light
import Derived.Lib.OthersKept
import Derived.BigQuiet
import Derived.Deep.QuietTactic
import Derived.Test.YtjocfkkcnkpjdaaDoorProg
import Derived.Test.YtjocfkkcnkpjdaaDoorRunes
namespace Go.Proofs.YtjocfkkcnkpjdaaDoor
open Go.RowKit
open Go.RuneMath
set_option linter.unusedVariables false

theorem ret_bool {a b : Bool} (h : a = b) : Ending.returned (.bool a) = .returned (.bool b) := by rw [h]
/-- The iterator of a string in block k stands at pos. -/
def ItAt (w : World) (k : Nat) (s : ByteArray) (pos : Nat) : Prop := w.heap[k]? = some (.stringIter s pos)
theorem it_start (w : World) (s : ByteArray) : ItAt (w.alloc (.stringIter s 0)) w.heap.size s 0 := by
  unfold ItAt
  exact heap_alloc_new w _
theorem it_pos {w : World} {k : Nat} {s : ByteArray} {pos : Nat} (h : ItAt w k s pos) : w.iterPos k = pos := by
  unfold ItAt at h
  simp [World.iterPos, h]
theorem it_next {w : World} {k : Nat} {s : ByteArray} {pos : Nat} (h : ItAt w k s pos) (pos' : Nat) : ItAt (w.iterAt k s pos') k s pos' := Lib.iterAt_heap w k s pos pos' h
theorem it_below {w w' : World} {k b : Nat} {s : ByteArray} {pos : Nat} (h : ItAt w k s pos) (hb : Below b w w') (hk : k < b) : ItAt w' k s pos := by
  unfold ItAt at *
  rw [hb.block k hk]
  exact h
theorem it_lt {w : World} {k : Nat} {s : ByteArray} {pos : Nat} (h : ItAt w k s pos) : k < w.heap.size := (Array.getElem?_eq_some_iff.1 h).1

theorem step {w a b : World} (h : Below w.heap.size w a) (k : Below a.heap.size a b) : Below w.heap.size w b := h.trans (k.mono h.size)

def Counts (s : ByteArray) (w : World) (e : Ending) (w' : World) : Prop := e = .returned (.int .i64 (countB s.data.toList : Nat)) ∧ Below w.heap.size w w'
theorem counts_mk {s : ByteArray} {w w' : World} {m : Nat} (h : m = countB s.data.toList) (hb : Below w.heap.size w w') : Counts s w (.returned (.int .i64 (m : Int))) w' := ⟨by rw [h], hb⟩
/-! ### Right -/
def Rights (s : ByteArray) (w : World) (e : Ending) (w' : World) : Prop := e = .returned (.bool (rightB s.data.toList)) ∧ Below w.heap.size w w'
theorem rights_mk {s : ByteArray} {w w' : World} {b : Bool} (h : b = rightB s.data.toList) (hb : Below w.heap.size w w') : Rights s w (.returned (.bool b)) w' := ⟨by rw [h], hb⟩
theorem right_many {l pre tl : List Nat} {r : Nat} (h : l = pre ++ r :: tl) (h40 : pre.length = 40) : rightR l = false := by
  subst h
  unfold rightR
  simp
  omega
theorem right_bad {l pre tl : List Nat} {r : Nat} (h : l = pre ++ r :: tl) (hr : okR r = false) : rightR l = false := by
  subst h
  unfold rightR
  simp [hr]
theorem all_snoc {pre : List Nat} {r : Nat} (h : pre.all okR = true) (hr : okR r = true) : (pre ++ [r]).all okR = true := by simp [h, hr]
theorem split_snoc {l pre tl : List Nat} {r : Nat} (h : l = pre ++ r :: tl) : l = (pre ++ [r]) ++ tl := by rw [h]; simp
def Lesses (a b : ByteArray) (w : World) (e : Ending) (w' : World) : Prop := e = .returned (.bool (lessB a.data.toList b.data.toList)) ∧ Below w.heap.size w w'
theorem lesses_mk {a b : ByteArray} {w w' : World} {x : Bool} (h : x = lessB a.data.toList b.data.toList) (hb : Below w.heap.size w w') : Lesses a b w (.returned (.bool x)) w' := ⟨by rw [h], hb⟩
theorem below_drewN (w : World) (n : Nat) : Below w.heap.size w (w.drewN n) := by
  induction n with
  | zero => exact Below.refl _ _
  | succ n ih => exact ih.drew
end Go.Proofs.YtjocfkkcnkpjdaaDoor
