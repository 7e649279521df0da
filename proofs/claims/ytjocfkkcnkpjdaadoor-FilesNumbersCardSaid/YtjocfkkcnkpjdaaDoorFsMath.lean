/- Plain mathematics of chapter 7, as the document's own answer has it: files by name, what each call makes of them. No condition on any program. -/
import Derived.Test.YtjocfkkcnkpjdaaDoorRunes
namespace Go.FsMath
open Go.RuneMath
set_option linter.unusedVariables false

structure Fl where
  name : ByteArray
  b : List Nat
  lasts : Nat
def lessS (a b : ByteArray) : Bool := lessB a.data.toList b.data.toList
def atF : List Fl → ByteArray → Nat
  | [], _ => 0
  | f :: l, n => if lessS f.name n = true then atF l n + 1 else 0
theorem atF_le : ∀ (l : List Fl) (n : ByteArray), atF l n ≤ l.length
  | [], _ => Nat.le_refl _
  | f :: l, n => by
    unfold atF
    split
    · have := atF_le l n; simp; omega
    · exact Nat.zero_le _
theorem atF_step : ∀ (l : List Fl) (n : ByteArray) (i : Nat) (f : Fl), i ≤ atF l n → l[i]? = some f → (lessS f.name n = true ↔ i + 1 ≤ atF l n)
  | q :: l, n, 0, f, _, h => by
    cases h
    unfold atF
    split <;> simp_all
  | q :: l, n, i + 1, f, hi, h => by
    unfold atF at hi ⊢
    by_cases hq : lessS q.name n = true
    · rw [if_pos hq] at hi ⊢
      have := atF_step l n i f (by omega) h
      rw [this]
      omega
    · rw [if_neg hq] at hi
      omega
  | [], n, i, f, _, h => by cases h
/-- Two texts are the same. -/
def eqS (a b : ByteArray) : Bool := decide (a.data.toList = b.data.toList)
theorem eqS_iff {a b : ByteArray} : eqS a b = true ↔ a = b := by
  unfold eqS
  rw [decide_eq_true_iff]
  constructor
  · intro h
    cases a with | mk x => cases b with | mk y =>
    simp only at h
    rw [Array.toList_inj.1 h]
  · rintro rfl; rfl
def hasF (l : List Fl) (n : ByteArray) : Bool := match l[atF l n]? with | some f => eqS f.name n | none => false
theorem has_fl {l : List Fl} {n : ByteArray} {i : Nat} {f : Fl} (hi : atF l n = i) (hf : l[i]? = some f) : hasF l n = eqS f.name n := by unfold hasF; rw [hi, hf]
theorem has_out {l : List Fl} {n : ByteArray} {i : Nat} (hi : atF l n = i) (hp : l.length ≤ i) : hasF l n = false := by unfold hasF; rw [hi, List.getElem?_eq_none hp]
theorem has_some {l : List Fl} {n : ByteArray} (h : hasF l n = true) : ∃ f, l[atF l n]? = some f ∧ f.name = n := by
  unfold hasF at h
  split at h
  · rename_i f hf; exact ⟨f, hf, eqS_iff.1 h⟩
  · cases h
/-- A list of files, how many deeds are let be done, how many were. -/
structure Fs where
  l : List Fl
  left : Int
  done : Int
def deedF (s : Fs) : Fs := if s.left = 0 then s else ⟨s.l, if 0 < s.left then s.left - 1 else s.left, s.done + 1⟩
def mayF (s : Fs) : Bool := decide (s.left ≠ 0)
def dropF (l : List Fl) (i : Nat) : List Fl := l.take i ++ l.drop (i + 1)
def insF (l : List Fl) (n : ByteArray) : List Fl := if hasF l n = true then l else l.take (atF l n) ++ ⟨n, [], 0⟩ :: l.drop (atF l n)
def turnF (l : List Fl) (i : Nat) (g : Fl → Fl) : List Fl := match l[i]? with | some f => l.set i (g f) | none => l
def appendF (s : Fs) (n : ByteArray) (b : List Nat) : Int × Fs :=
  if rightB n.data.toList = false then (1, s)
  else if hasF s.l n = false ∧ 64 ≤ s.l.length then (17, s)
  else if mayF s = false then (0, s)
  else (0, ⟨turnF (insF s.l n) (atF s.l n) fun f => { f with b := f.b ++ b }, (deedF s).left, (deedF s).done⟩)
def truncF (s : Fs) (n : ByteArray) (k : Int) : Int × Fs :=
  match s.l[atF s.l n]? with
  | some f =>
    if f.name ≠ n then (22, s)
    else if k < 0 ∨ (f.b.length : Int) < k then (1, s)
    else if mayF s = false then (0, s)
    else (0, ⟨s.l.set (atF s.l n) { f with b := f.b.take k.toNat, lasts := k.toNat }, (deedF s).left, (deedF s).done⟩)
  | none => (22, s)
def removeF (s : Fs) (n : ByteArray) : Int × Fs :=
  if hasF s.l n = false then (22, s) else if mayF s = false then (0, s) else (0, ⟨dropF s.l (atF s.l n), (deedF s).left, (deedF s).done⟩)
def syncF (s : Fs) (n : ByteArray) : Int × Fs :=
  if hasF s.l n = false then (22, s) else if mayF s = false then (0, s) else (0, ⟨turnF s.l (atF s.l n) fun f => { f with lasts := f.b.length }, (deedF s).left, (deedF s).done⟩)
def moveF (l : List Fl) (a b : ByteArray) : List Fl :=
  match l[atF l a]? with
  | some x =>
    let l1 := dropF l (atF l a)
    let l2 := if hasF l1 b = true then dropF l1 (atF l1 b) else l1
    l2.take (atF l2 b) ++ { x with name := b } :: l2.drop (atF l2 b)
  | none => l
def renameF (s : Fs) (a b : ByteArray) : Int × Fs :=
  if hasF s.l a = false then (22, s) else if rightB b.data.toList = false then (1, s) else if mayF s = false then (0, s)
  else if a = b then (0, deedF s) else (0, ⟨moveF s.l a b, (deedF s).left, (deedF s).done⟩)
/-- What a crash leaves of one. -/
def xorAt (l : List Nat) (i : Nat) (g : Nat) : List Nat := l.mapIdx fun j x => if i ≤ j then x ^^^ g else x
def keepN (f : Fl) (k : Int) : Nat := (max (min k ((f.b.length - f.lasts : Nat) : Int)) 0).toNat
def crashOne (f : Fl) (k : Int) (g : Option Nat) : Fl :=
  let b := f.b.take (f.lasts + keepN f k)
  let c := match g with | some g => xorAt b (max f.lasts (b.length - 64)) g | none => b
  ⟨f.name, c, c.length⟩
def crashF (l : List Fl) (ks : List Int) (gs : List Nat) : List Fl := l.mapIdx fun i f => crashOne f (ks[i]?.getD 0) gs[i]?
end Go.FsMath
