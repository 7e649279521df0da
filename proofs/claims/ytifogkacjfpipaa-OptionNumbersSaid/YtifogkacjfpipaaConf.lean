/- Plain mathematics: configurations, what may stand in a list of options, and what a list of options makes of a configuration. -/
import Derived.Test.YtifogkacjfpipaaNameUpperOne
namespace Go.Proofs.Ytifogkacjfpipaa
open Go.RowKit
open Go.RuneMath
set_option linter.unusedVariables false

/-- A configuration: its four numbers. -/
structure Cf where
  a : Int
  b : Int
  c : Int
  d : Int
def Cf.val (x : Cf) : Value := .agg #[.int .i64 x.a, .int .i64 x.b, .int .i64 x.c, .int .i64 x.d]
def Cf.zero : Cf := ⟨0, 0, 0, 0⟩
def Cf.dflt : Cf := ⟨1024, 128, 4, 1048576⟩
/-- What the statements put into a list of options. -/
inductive El where
  | conf (x : Cf)
  | str (s : ByteArray)
  | i64 (n : Int)
  | int (n : Int)
  | i32 (n : Int)
def El.val : El → Value
  | .conf x => .iface 27 x.val
  | .str s => .iface 9 (.string s)
  | .i64 n => .iface 2 (.int .i64 n)
  | .int n => .iface 3 (.int .i64 n)
  | .i32 n => .iface 21 (.int .i32 n)
def El.num : El → Option Int
  | .conf _ => none
  | .str s => some (countB s.data.toList : Nat)
  | .i64 n => some n
  | .int n => some n
  | .i32 n => some n
/-- Texts are no longer than 2^30 bytes, numbers are such. -/
def El.ok : El → Prop
  | .conf _ => True
  | .str s => s.size ≤ 1073741824
  | .i64 n => True
  | .int n => True
  | .i32 n => True
def within (n : Int) : Bool := decide (1 ≤ n ∧ n ≤ 1073741824)
def narrow (n : Int) : Int := if within n then n else 0
/-- The field that a word names: 0 to 3, else 4. -/
def word (s : ByteArray) : Nat :=
  if upperB s.data.toList = [83, 69, 71, 77, 69, 78, 84] then 0
  else if upperB s.data.toList = [73, 78, 68, 69, 88] then 1
  else if upperB s.data.toList = [83, 78, 65, 80, 83, 72, 79, 84] then 2
  else if upperB s.data.toList = [67, 65, 80] then 3
  else 4
def Cf.put (x : Cf) (k : Nat) (n : Int) : Cf :=
  if k = 0 then { x with a := n } else if k = 1 then { x with b := n } else if k = 2 then { x with c := n } else if k = 3 then { x with d := n } else x
def Cf.valid (x : Cf) : Bool := within x.a && within x.b && within x.c && within x.d
/-- What a text and the element behind it make of a configuration. -/
def setC (x : Cf) (s : ByteArray) (v : El) : Cf := match v.num with
  | some n => x.put (word s) (narrow n)
  | none => x
def setK (s : ByteArray) (v : El) : Bool := v.num.isSome && decide (word s < 4)
/-- How many elements the first one takes, and what it makes of a configuration. -/
def chN : List El → Nat
  | .conf _ :: _ => 1
  | .str s :: v :: _ => if setK s v then 2 else 0
  | _ => 0
def chC (x : Cf) : List El → Cf
  | .conf y :: _ => y
  | .str s :: v :: _ => setC x s v
  | _ => x
theorem chN_le (l : List El) : chN l ≤ l.length := by
  unfold chN
  split
  · simp
  · split <;> simp
  · omega
def runF : Nat → Cf → List El → Option Cf
  | 0, x, _ => some x
  | f + 1, x, l => if l = [] then some x else if chN l = 0 then none else runF f (chC x l) (l.drop (chN l))
theorem runF_more : ∀ (f g : Nat) (x : Cf) (l : List El), l.length ≤ f → l.length ≤ g → runF f x l = runF g x l
  | 0, 0, x, l, _, _ => rfl
  | 0, g + 1, x, l, h, _ => by
    have : l = [] := List.eq_nil_of_length_eq_zero (by omega)
    simp [runF, this]
  | f + 1, 0, x, l, _, h => by
    have : l = [] := List.eq_nil_of_length_eq_zero (by omega)
    simp [runF, this]
  | f + 1, g + 1, x, l, h1, h2 => by
    unfold runF
    split
    · rfl
    · split
      · rfl
      · have := List.length_drop (l := l) (i := chN l)
        exact runF_more f g _ _ (by omega) (by omega)
theorem runF_succ (f : Nat) (x : Cf) (l : List El) : runF (f + 1) x l = if l = [] then some x else if chN l = 0 then none else runF f (chC x l) (l.drop (chN l)) := rfl
def run (x : Cf) (l : List El) : Option Cf := runF l.length x l
theorem run_nil (x : Cf) : run x [] = some x := rfl
theorem run_step (x : Cf) {l : List El} (h : l ≠ []) : run x l = if chN l = 0 then none else run (chC x l) (l.drop (chN l)) := by
  unfold run
  have hl : 0 < l.length := List.length_pos_iff.2 h
  obtain ⟨f, hf⟩ : ∃ f, l.length = f + 1 := ⟨l.length - 1, by omega⟩
  rw [hf, runF_succ]
  rw [if_neg h]
  by_cases h0 : chN l = 0
  · rw [if_pos h0, if_pos h0]
  · rw [if_neg h0, if_neg h0]
    have e := List.length_drop (l := l) (i := chN l)
    exact runF_more f _ _ _ (by omega) (Nat.le_refl _)
/-- What Config answers. -/
def cfgC (l : List El) : Cf := match run Cf.dflt l with
  | none => Cf.zero
  | some c => if c.valid then c else Cf.zero
def cfgE (l : List El) : Int := match run Cf.dflt l with
  | none => 1
  | some c => if c.valid then 0 else 3
end Go.Proofs.Ytifogkacjfpipaa
