/- Parts of a proof, merged: VarMath, CrcMath, SeqMath, BatMath, ProdMath, PrMath, Bytes, Rows2, KindBytes, Bats, BatPlain, BatPlain2, VarBase, VarSmall, VarRoomy, VarPut, VarScan, VarGet, VarRefPut, VarBack, VarRefGet, VarCut, VarLong, Keep, Keep2, VarUse, Grow, BatBits, BatRecs, Kinds, BatSame, BatInner, CrcCommon, CrcOf, CrcSeal, SeqRight, CrcRef, CrcSealed, BatWrite, BatUse. -/
import Derived.Test.YtinilkkpocnnpaaRows
import Derived.WalkKit
import Derived.IntWalk
import Derived.Lib.Hide
import Derived.Lib.SlBytesConst
import Derived.Laws.BitsAllLaws
import Derived.Laws.CopyOwn
import Derived.Laws.AppendOwnNone
import Derived.Laws.BytesString
import Derived.BigFrame
import Derived.OpenShut
import Derived.WalkSmall
import Derived.Deep.RegionHeld3
import Derived.OwnWalk
import Derived.BigQuiet
import Derived.Deep.QuietTactic
import Derived.Outline
import Derived.Deep.Cut
import Derived.Deep.CutRange
import Derived.Lib.AppendStr
import Derived.Deep.RegionWith
import Derived.Below
import Derived.Laws.ResultCell
namespace Go.VarMath

abbrev AllB (bs : List Nat) : Prop := ∀ x ∈ bs, x < 256
/-- Groups of seven bits, no more than f + 1 of them. -/
def gr : Nat → Nat → List Nat
  | 0, u => [u]
  | f + 1, u => if u < 128 then [u] else (u % 128 + 128) :: gr f (u / 128)
def encU (u : Nat) : List Nat := gr 9 u
def val : List Nat → Nat
  | [] => 0
  | b :: r => b % 128 + 128 * val r
def AllHi (p : List Nat) : Prop := ∀ x ∈ p, 128 ≤ x ∧ x < 256
theorem AllHi.nil : AllHi [] := fun x h => by cases h
theorem AllHi.cons {b : Nat} {p : List Nat} (hb : 128 ≤ b ∧ b < 256) (hp : AllHi p) : AllHi (b :: p) := by
  intro x hx
  rcases List.mem_cons.1 hx with h | h
  · rw [h]; exact hb
  · exact hp x h
theorem AllHi.snoc {b : Nat} {p : List Nat} (hp : AllHi p) (hb : 128 ≤ b ∧ b < 256) : AllHi (p ++ [b]) := by
  intro x hx
  rcases List.mem_append.1 hx with h | h
  · exact hp x h
  · simp at h; rw [h]; exact hb
theorem AllHi.all {p : List Nat} (hp : AllHi p) : AllB p := fun x hx => (hp x hx).2
/-! texts -/
def textB (s : List Nat) : List Nat := encU (2 * s.length) ++ s
/-! eight bytes -/
def beB : Nat → Nat → List Nat
  | 0, _ => []
  | k + 1, u => (u / 256 ^ k % 256) :: beB k u
def unbe (bs : List Nat) : Nat := bs.foldl (fun a b => a * 256 + b) 0
def low64 (n : Int) : Nat := (n % 18446744073709551616).toNat
def longB (n : Int) : List Nat := beB 8 (low64 n)
theorem length_beB : ∀ k u, (beB k u).length = k
  | 0, _ => rfl
  | k + 1, u => by simp [beB, length_beB k u]
theorem beB_take : ∀ i k u, i < k → (beB k u).take (i + 1) = (beB k u).take i ++ [u / 256 ^ (k - 1 - i) % 256]
  | i, 0, u, h => by omega
  | 0, k + 1, u, _ => by simp [beB]
  | i + 1, k + 1, u, h => by
    have ih := beB_take i k u (by omega)
    rw [beB, List.take_succ_cons, ih, List.take_succ_cons, List.cons_append]
    congr 3
    have : k + 1 - 1 - (i + 1) = k - 1 - i := by omega
    rw [this]
end Go.VarMath
namespace Go.CrcMath

def poly : Nat := 2197175160
/-- One bit: shifted right, and, if the lowest bit was 1, exclusive or the polynomial. -/
def bstep (c : Nat) : Nat := if c % 2 = 1 then c / 2 ^^^ poly else c / 2
def bsteps : Nat → Nat → Nat
  | 0, c => c
  | n + 1, c => bstep (bsteps n c)
def nxt (c b : Nat) : Nat := bsteps 8 (c ^^^ b)
def run (c : Nat) (bs : List Nat) : Nat := bs.foldl nxt c
def full : Nat := 4294967295
def cpl (c : Nat) : Nat := full ^^^ c
def ofB (bs : List Nat) : Nat := cpl (run full bs)
def leB (c : Nat) : List Nat := [c % 256, c / 256 % 256, c / 65536 % 256, c / 16777216 % 256]
def sealB (bs : List Nat) : List Nat := leB (ofB bs) ++ bs
abbrev AllB (bs : List Nat) : Prop := ∀ x ∈ bs, x < 256

/-! the bstep is linear, and only 0 goes to 0 -/
theorem xor_div2 (x y : Nat) : (x ^^^ y) / 2 = x / 2 ^^^ y / 2 := by
  have := Nat.shiftRight_xor_distrib (a := x) (b := y) (i := 1)
  simpa [Nat.shiftRight_eq_div_pow] using this
theorem xor_mod2 (x y : Nat) : (x ^^^ y) % 2 = (x % 2 + y % 2) % 2 := by
  have h : (x ^^^ y) % 2 ^ 1 = x % 2 ^ 1 ^^^ y % 2 ^ 1 := Nat.xor_mod_two_pow
  simp only [Nat.pow_one] at h
  rw [h]
  rcases Nat.mod_two_eq_zero_or_one x with hx | hx <;> rcases Nat.mod_two_eq_zero_or_one y with hy | hy <;> simp [hx, hy]
theorem bstep_xor (x y : Nat) : bstep (x ^^^ y) = bstep x ^^^ bstep y := by
  unfold bstep
  rw [xor_mod2, xor_div2]
  rcases Nat.mod_two_eq_zero_or_one x with hx | hx <;> rcases Nat.mod_two_eq_zero_or_one y with hy | hy
  · simp [hx, hy]
  · simp [hx, hy, Nat.xor_assoc]
  · simp only [hx, hy]; simp [Nat.xor_assoc, Nat.xor_comm poly]
  · simp only [hx, hy]; simp [Nat.xor_assoc]; rw [Nat.xor_comm poly, Nat.xor_assoc, Nat.xor_self, Nat.xor_zero]
theorem bsteps_xor (x y : Nat) : ∀ n, bsteps n (x ^^^ y) = bsteps n x ^^^ bsteps n y
  | 0 => rfl
  | n + 1 => by unfold bsteps; rw [bsteps_xor x y n, bstep_xor]
theorem bsteps_add (m x : Nat) : ∀ n, bsteps (m + n) x = bsteps n (bsteps m x)
  | 0 => rfl
  | n + 1 => by show bstep (bsteps (m + n) x) = bstep (bsteps n (bsteps m x)); rw [bsteps_add m x n]
theorem bstep_double (u : Nat) : bstep (2 * u) = u := by unfold bstep; rw [if_neg (by omega)]; omega
theorem steps8_256 (u : Nat) : bsteps 8 (256 * u) = u := by
  have e : 256 * u = 2 * (2 * (2 * (2 * (2 * (2 * (2 * (2 * u))))))) := by omega
  rw [e]
  simp only [bsteps, bstep_double]
theorem low_xor (t u : Nat) (h : t < 256) : t ^^^ 256 * u = t + 256 * u := by
  have h1 : 2 ^ 8 * u + t = 2 ^ 8 * u ||| t := Nat.two_pow_add_eq_or_of_lt (i := 8) (b := t) (by simpa using h) u
  have e2 : 2 ^ 8 * u ||| t = t ^^^ 2 ^ 8 * u := by
    apply Nat.eq_of_testBit_eq
    intro i
    rw [Nat.testBit_or, Nat.testBit_xor]
    by_cases hi : i < 8
    · have h2 : Nat.testBit (2 ^ 8 * u) i = false := by rw [Nat.testBit_two_pow_mul]; simp; omega
      rw [h2]; simp
    · have h3 : Nat.testBit t i = false := Nat.testBit_lt_two_pow (Nat.lt_of_lt_of_le h (Nat.pow_le_pow_right (n := 2) (i := 8) (by decide) (by omega)))
      rw [h3]; simp
  have h4 : 2 ^ 8 * u = 256 * u := rfl
  rw [h4] at h1 e2
  omega
/-- The difference of two sums behind one byte more, the bytes' own difference t. -/
theorem nxt_xor (c d b t : Nat) : nxt (c ^^^ d) (b ^^^ t) = nxt c b ^^^ bsteps 8 (d ^^^ t) := by
  unfold nxt
  rw [← bsteps_xor]
  congr 1
  rw [Nat.xor_assoc, Nat.xor_assoc, ← Nat.xor_assoc d b t, Nat.xor_comm d b, Nat.xor_assoc]
theorem peel (d t u : Nat) (h : t < 256) : bsteps 8 (d ^^^ (t + 256 * u)) = bsteps 8 (d ^^^ t) ^^^ u := by
  rw [← low_xor t u h, ← Nat.xor_assoc, bsteps_xor, steps8_256]
theorem four (c a0 a1 a2 a3 t0 t1 t2 t3 : Nat) (h0 : t0 < 256) (h1 : t1 < 256) (h2 : t2 < 256) :
    run c [a0 ^^^ t0, a1 ^^^ t1, a2 ^^^ t2, a3 ^^^ t3] = run c [a0, a1, a2, a3] ^^^ bsteps 32 (t0 + 256 * (t1 + 256 * (t2 + 256 * t3))) := by
  have e : bsteps 32 (t0 + 256 * (t1 + 256 * (t2 + 256 * t3))) = bsteps 8 (bsteps 8 (bsteps 8 (bsteps 8 t0 ^^^ t1) ^^^ t2) ^^^ t3) := by
    have p0 := peel 0 t0 (t1 + 256 * (t2 + 256 * t3)) h0
    simp only [Nat.zero_xor] at p0
    rw [show (32 : Nat) = 8 + (8 + (8 + 8)) from rfl, bsteps_add, p0, bsteps_add, peel _ _ _ h1, bsteps_add, peel _ _ _ h2]
  rw [e]
  have q0 : nxt c (a0 ^^^ t0) = nxt c a0 ^^^ bsteps 8 t0 := by have := nxt_xor c 0 a0 t0; simpa using this
  simp only [run, List.foldl_cons, List.foldl_nil]
  rw [q0, nxt_xor, nxt_xor, nxt_xor]
/-! four bytes and their number -/
theorem four_of {bs : List Nat} (h : 4 ≤ bs.length) : ∃ b0 b1 b2 b3 r, bs = b0 :: b1 :: b2 :: b3 :: r := by
  match bs, h with
  | b0 :: b1 :: b2 :: b3 :: r, _ => exact ⟨b0, b1, b2, b3, r, rfl⟩
end Go.CrcMath
namespace Go.SeqMath

def rightB (n : Int) : Bool := decide (0 ≤ n) && decide (n ≤ 2147483647)
def addI (n k : Int) : Int := if rightB n = true then (n + k) % 2147483648 else -1
def lastI (n c : Int) : Int := if 1 ≤ c ∧ c ≤ 16 then addI n (c - 1) else -1
def followsB (l f : Int) : Bool := if l = -1 then decide (f = 0) else rightB l && decide (f = addI l 1)
def gapI (a b : Int) : Int := if rightB a = true ∧ rightB b = true then (b - a) % 2147483648 else -1
theorem right_yes {n : Int} (h0 : 0 ≤ n) (h1 : n ≤ 2147483647) : rightB n = true := by unfold rightB; simp [h0, h1]
theorem right_no {n : Int} (h : n < 0 ∨ 2147483647 < n) : rightB n = false := by
  unfold rightB
  rcases h with h | h
  · rw [decide_eq_false (by omega)]; rfl
  · rw [decide_eq_false (p := n ≤ 2147483647) (by omega), Bool.and_false]
theorem of_right {n : Int} (h : rightB n = true) : 0 ≤ n ∧ n ≤ 2147483647 := by unfold rightB at h; simpa using h
theorem add_yes {n : Int} (h0 : 0 ≤ n) (h1 : n ≤ 2147483647) (k : Int) : addI n k = (n + k) % 2147483648 := by unfold addI; rw [if_pos (right_yes h0 h1)]
theorem add_no {n : Int} (h : rightB n = false) (k : Int) : addI n k = -1 := by unfold addI; rw [if_neg (by rw [h]; decide)]
theorem last_yes {c : Int} (h0 : 1 ≤ c) (h1 : c ≤ 16) (n : Int) : lastI n c = addI n (c - 1) := by unfold lastI; rw [if_pos ⟨h0, h1⟩]
theorem last_no {c : Int} (h : c < 1 ∨ 16 < c) (n : Int) : lastI n c = -1 := by unfold lastI; rw [if_neg (by omega)]
theorem gap_yes {a b : Int} (a0 : 0 ≤ a) (a1 : a ≤ 2147483647) (b0 : 0 ≤ b) (b1 : b ≤ 2147483647) : gapI a b = (b - a) % 2147483648 := by
  unfold gapI; rw [if_pos ⟨right_yes a0 a1, right_yes b0 b1⟩]
theorem gap_no {a b : Int} (h : rightB a = false ∨ rightB b = false) : gapI a b = -1 := by
  unfold gapI; rw [if_neg]
  rintro ⟨h1, h2⟩
  rcases h with h | h
  · rw [h1] at h; cases h
  · rw [h2] at h; cases h
theorem follows_none (f : Int) : followsB (-1) f = decide (f = 0) := by unfold followsB; rw [if_pos rfl]
theorem follows_yes {l : Int} (h0 : 0 ≤ l) (h1 : l ≤ 2147483647) (f : Int) : followsB l f = decide (f = addI l 1) := by
  unfold followsB; rw [if_neg (by omega), right_yes h0 h1, Bool.true_and]
theorem follows_no {l : Int} (h : l ≠ -1) (h2 : rightB l = false) (f : Int) : followsB l f = false := by
  unfold followsB; rw [if_neg h, h2, Bool.false_and]
/- What the two laws say, of the plain functions. -/
end Go.SeqMath
namespace Go.BatMath
open Go.SeqMath
open Go.VarMath (textB encU longB beB unbe low64)
open Go.CrcMath (sealB)

abbrev AllB (bs : List Nat) : Prop := ∀ x ∈ bs, x < 256
def bl (s : ByteArray) : List Nat := s.data.toList.map UInt8.toNat
/-- A record, and a batch. -/
structure Rc where
  key : ByteArray
  val : ByteArray
structure Bat where
  base : Int
  prod : Int
  epoch : Int
  seq : Int
  txn : Bool
  marker : Int
  recs : List Rc
def Bat.zero : Bat := ⟨0, 0, 0, 0, false, 0, []⟩
def Bat.at (b : Bat) (n : Int) : Bat := { b with base := n }
abbrev In64 (n : Int) : Prop := -9223372036854775808 ≤ n ∧ n ≤ 9223372036854775807
/-- Its numbers are such. -/
structure Bat.wf (b : Bat) : Prop where
  base : In64 b.base
  prod : In64 b.prod
  epoch : In64 b.epoch
  seq : In64 b.seq
  marker : In64 b.marker
/-! which errors it has -/
def headB (b : Bat) : Bool := decide (0 ≤ b.prod) && (decide (0 ≤ b.epoch) && decide (b.epoch ≤ 32767))
def noneB (b : Bat) : Bool := decide (b.prod = -1) && (decide (b.epoch = -1) && (decide (b.seq = -1) && !b.txn))
def longRec (r : Rc) : Prop := 64 < r.key.size ∨ 64 < r.val.size
noncomputable def rightE (b : Bat) : Int :=
  if b.base < 0 ∨ 1099511627776 < b.base then 18
  else if b.marker ≠ 0 then
    if (b.marker = 1 ∨ b.marker = 2) ∧ headB b = true ∧ b.seq = -1 ∧ b.txn = true ∧ b.recs = [] then 0 else 12
  else if (noneB b = true ∨ headB b = true ∧ rightB b.seq = true) ∧ b.recs ≠ [] then
    open Classical in if 16 < b.recs.length ∨ ∃ r ∈ b.recs, longRec r then 13 else 0
  else 12
/-- What a batch that is right is. -/
structure Ok (b : Bat) : Prop where
  base0 : 0 ≤ b.base
  base1 : b.base ≤ 1099511627776
  prod : -1 ≤ b.prod
  epoch0 : -1 ≤ b.epoch
  epoch1 : b.epoch ≤ 32767
  seq0 : -1 ≤ b.seq
  seq1 : b.seq ≤ 2147483647
  marker0 : 0 ≤ b.marker
  marker1 : b.marker ≤ 2
  recs : b.recs.length ≤ 16
  texts : ∀ r ∈ b.recs, r.key.size ≤ 64 ∧ r.val.size ≤ 64
/-! bytes -/
def flagN (b : Bat) : Nat := (2 * b.marker + (if b.txn = true then 1 else 0)).toNat % 256
def epochN (b : Bat) : Nat := (b.epoch % 65536).toNat
def recB (r : Rc) : List Nat := textB (bl r.key) ++ textB (bl r.val)
def recsB (l : List Rc) : List Nat := l.flatMap recB
def frontB (b : Bat) : List Nat := flagN b :: (longB b.prod ++ (epochN b / 256 :: epochN b % 256 :: (longB b.seq ++ [b.recs.length % 256])))
def bodyB (b : Bat) : List Nat := frontB b ++ recsB b.recs
def bytesB (b : Bat) : List Nat := longB b.base ++ (beB 4 (sealB (bodyB b)).length ++ sealB (bodyB b))
theorem all_app {a b : List Nat} (ha : AllB a) (hb : AllB b) : AllB (a ++ b) := by
  intro x hx
  rcases List.mem_append.1 hx with h | h
  · exact ha x h
  · exact hb x h
/-! reading -/
/-- p begins with what Bytes gives of b. -/
structure Good (p : List Nat) (b : Bat) : Prop where
  right : rightE b = 0
  wf : b.wf
  pre : bytesB b <+: p
/-- What a reader gives: a batch, how many bytes it takes, an error. -/
structure Out where
  b : Bat
  n : Nat
  e : Int
def lenD (p : List Nat) : Nat := unbe ((p.drop 8).take 4)
def fellD (p : List Nat) : Int := if p.length < 12 then 12 else if 4096 < lenD p + 12 then 13 else 12
/-- What is asked of a reader. -/
structure Reads (p : List Nat) (o : Out) : Prop where
  fine : o.e = 0 → Good p o.b ∧ o.n = (bytesB o.b).length
  fell : o.e ≠ 0 → o.b = Bat.zero ∧ o.n = 0 ∧ o.e = fellD p
  all : ∀ b, Good p b → o.e = 0 ∧ o.b = b
theorem getD_lt {p : List Nat} (h : AllB p) (k : Nat) : p.getD k 0 < 256 := by
  rw [List.getD_eq_getElem?_getD]
  rcases hk : p[k]? with _ | x
  · decide
  · exact h x (List.mem_of_getElem? hk)
theorem take_all {p : List Nat} (h : AllB p) (k : Nat) : AllB (p.take k) := fun x hx => h x (List.mem_of_mem_take hx)
end Go.BatMath
namespace Go.ProdMath
open Go.SeqMath
open Go.BatMath
set_option linter.unusedVariables false

structure Tr where
  f : Int
  l : Int
  b : Int
structure Pd where
  id : Int
  epoch : Int
  last : List Tr
  opn : Int
def Pd.zero : Pd := ⟨0, 0, [], 0⟩
structure Dr where
  prod : Int
  first : Int
  last : Int
def Dr.zero : Dr := ⟨0, 0, 0⟩
/-- This element is the batch of these numbers. -/
def hitB (x : Tr) (s : Int) (n : Nat) : Bool := decide (x.f = s) && decide (x.l = lastI s n)
def dupL (l : List Tr) (s : Int) (n : Nat) : Option Int := (l.find? fun x => hitB x s n).map (·.b)
theorem dup_none (s : Int) (n : Nat) : dupL [] s n = none := rfl
theorem dup_hit {x : Tr} {l : List Tr} {s : Int} {n : Nat} (h : hitB x s n = true) : dupL (x :: l) s n = some x.b := by simp [dupL, h]
theorem dup_miss {x : Tr} {l : List Tr} {s : Int} {n : Nat} (h : hitB x s n = false) : dupL (x :: l) s n = dupL l s n := by simp [dupL, h]
def lastSeq (l : List Tr) : Int := match l.getLast? with | some x => x.l | none => 0
def checkD (p : Pd) (known : Bool) (b : Bat) : Int × Int :=
  if b.marker ≠ 0 then
    if known = false then (-1, 16) else if b.epoch < p.epoch then (-1, 14) else if p.opn < 0 then (-1, 16) else (-1, 0)
  else if known = false then (-1, 0)
  else if b.epoch < p.epoch then (-1, 14)
  else if p.epoch < b.epoch then
    if 0 ≤ p.opn then (-1, 16) else if b.seq ≠ 0 then (-1, 15) else (-1, 0)
  else match dupL p.last b.seq b.recs.length with
    | some n => (n, 0)
    | none =>
      if p.last ≠ [] ∧ followsB (lastSeq p.last) b.seq = false then (-1, 15)
      else if 0 ≤ p.opn ∧ b.txn = false then (-1, 16) else (-1, 0)
def oldLast (p : Pd) (known : Bool) (b : Bat) : List Tr := if known = true ∧ p.epoch = b.epoch then p.last else []
def oldOpen (p : Pd) (known : Bool) : Int := if known = true then p.opn else -1
def newLast (l : List Tr) (x : Tr) : List Tr := (l ++ [x]).drop (l.length + 1 - 5)
def applyD (p : Pd) (known : Bool) (b : Bat) : Pd :=
  if b.marker ≠ 0 then ⟨b.prod, b.epoch, oldLast p known b, -1⟩
  else ⟨b.prod, b.epoch, newLast (oldLast p known b) ⟨b.seq, lastI b.seq b.recs.length, b.base⟩, if b.txn = true ∧ oldOpen p known < 0 then b.base else oldOpen p known⟩
/-! tables -/
def atD : List Pd → Int → Nat
  | [], _ => 0
  | p :: l, id => if p.id < id then atD l id + 1 else 0
def hasD (l : List Pd) (id : Int) : Bool := match l[atD l id]? with | some p => decide (p.id = id) | none => false
def getD (l : List Pd) (id : Int) : Pd := if hasD l id = true then (match l[atD l id]? with | some p => p | none => Pd.zero) else Pd.zero
/-! rows -/
end Go.ProdMath
namespace Go.ProdMath
open Go.SeqMath
open Go.BatMath
set_option linter.unusedVariables false

def TrOk (x : Tr) : Prop := 0 ≤ gapI x.f x.l ∧ gapI x.f x.l < 16 ∧ 0 ≤ x.b ∧ x.b ≤ 1099511627776
def TrNext (y x : Tr) : Prop := y.b < x.b ∧ followsB y.l x.f = true
def StepOk (l : List Tr) (j : Nat) : Prop := ∀ x, l[j]? = some x → TrOk x ∧ ∀ y, 0 < j → l[j - 1]? = some y → TrNext y x
def RightP (p : Pd) : Prop := (0 ≤ p.id ∧ 0 ≤ p.epoch ∧ p.epoch ≤ 32767 ∧ -1 ≤ p.opn ∧ p.opn ≤ 1099511627776 ∧ p.last.length ≤ 5) ∧ ∀ j, StepOk p.last j
theorem right_bad {p : Pd} {r : Bool} (hr : r = true ↔ RightP p) (h : ¬ (0 ≤ p.id ∧ 0 ≤ p.epoch ∧ p.epoch ≤ 32767 ∧ -1 ≤ p.opn ∧ p.opn ≤ 1099511627776 ∧ p.last.length ≤ 5)) : r = false := by
  cases hb : r
  · rfl
  · exact absurd (hr.1 hb).1 h
theorem right_step {p : Pd} {r : Bool} (hr : r = true ↔ RightP p) {j : Nat} (h : ¬ StepOk p.last j) : r = false := by
  cases hb : r
  · rfl
  · exact absurd ((hr.1 hb).2 j) h
theorem right_end {p : Pd} {r : Bool} (hr : r = true ↔ RightP p) (h : 0 ≤ p.id ∧ 0 ≤ p.epoch ∧ p.epoch ≤ 32767 ∧ -1 ≤ p.opn ∧ p.opn ≤ 1099511627776 ∧ p.last.length ≤ 5) (hs : ∀ j, j < p.last.length → StepOk p.last j) : r = true :=
  hr.2 ⟨h, fun j => if hj : j < p.last.length then hs j hj else fun x hx => by rw [List.getElem?_eq_none (by omega)] at hx; cases hx⟩
theorem step_of {l : List Tr} {j : Nat} {x : Tr} (hx : l[j]? = some x) (h : TrOk x) (hn : ∀ y, 0 < j → l[j - 1]? = some y → TrNext y x) : StepOk l j := fun x' hx' => by
  rw [hx] at hx'
  cases hx'
  exact ⟨h, hn⟩
theorem step_bad {l : List Tr} {j : Nat} {x : Tr} (hx : l[j]? = some x) (h : ¬ TrOk x) : ¬ StepOk l j := fun hs => h (hs x hx).1
theorem step_bad2 {l : List Tr} {j : Nat} {x y : Tr} (hj : 0 < j) (hx : l[j]? = some x) (hy : l[j - 1]? = some y) (h : ¬ TrNext y x) : ¬ StepOk l j := fun hs => h ((hs x hx).2 y hj hy)
/-! rows of batches that follow one another -/
/-- The batch with this base and so many records; f is the first number of one with the base 0. -/
def trD (f : Int) (b c : Nat) : Tr := ⟨(f + b) % 2147483648, (f + b + c - 1) % 2147483648, b⟩
def trsD (f : Int) : Nat → List Nat → List Tr
  | _, [] => []
  | b, c :: cs => trD f b c :: trsD f (b + c) cs
theorem trs_len (f : Int) : ∀ (b : Nat) (cs : List Nat), (trsD f b cs).length = cs.length
  | _, [] => rfl
  | b, c :: cs => by simp [trsD, trs_len f (b + c) cs]
theorem trs_app (f : Int) : ∀ (b : Nat) (cs ds : List Nat), trsD f b (cs ++ ds) = trsD f b cs ++ trsD f (b + cs.sum) ds
  | b, [], ds => by simp [trsD]
  | b, c :: cs, ds => by simp [trsD, trs_app f (b + c) cs ds, Nat.add_assoc]
theorem trs_drop (f : Int) : ∀ (b : Nat) (cs : List Nat) (k : Nat), (trsD f b cs).drop k = trsD f (b + (cs.take k).sum) (cs.drop k)
  | b, cs, 0 => by simp
  | b, [], k + 1 => by simp [trsD]
  | b, c :: cs, k + 1 => by simp [trsD, trs_drop f (b + c) cs k, Nat.add_assoc]
theorem trs_get (f : Int) : ∀ (b : Nat) (cs : List Nat) (j : Nat) (c : Nat), cs[j]? = some c → (trsD f b cs)[j]? = some (trD f (b + (cs.take j).sum) c)
  | b, c :: cs, 0, d, h => by simp at h; subst h; simp [trsD]
  | b, c :: cs, j + 1, d, h => by
    have := trs_get f (b + c) cs j d (by simpa using h)
    simp [trsD, this, Nat.add_assoc]
  | b, [], j, d, h => by cases h
def CsOk (cs : List Nat) : Prop := ∀ c ∈ cs, 1 ≤ c ∧ c ≤ 6
theorem csOk_snoc {cs : List Nat} {c : Nat} (h : CsOk cs) (h1 : 1 ≤ c) (h2 : c ≤ 6) : CsOk (cs ++ [c]) := fun x hx => by
  rcases List.mem_append.1 hx with h3 | h3
  · exact h x h3
  · rw [List.mem_singleton.1 h3]; exact ⟨h1, h2⟩
theorem cs_sum {cs : List Nat} (h : CsOk cs) : cs.length ≤ cs.sum ∧ cs.sum ≤ 6 * cs.length := by
  induction cs with
  | nil => exact ⟨Nat.le_refl _, Nat.le_refl _⟩
  | cons c cs ih =>
    have h1 := h c (by simp)
    have h2 := ih fun x hx => h x (by simp [hx])
    simp only [List.length_cons, List.sum_cons]
    omega
theorem csOk_drop {cs : List Nat} (h : CsOk cs) (k : Nat) : CsOk (cs.drop k) := fun x hx => h x (List.mem_of_mem_drop hx)
theorem take_drop_sum (cs : List Nat) (k : Nat) : (cs.take k).sum + (cs.drop k).sum = cs.sum := by
  have := congrArg List.sum (List.take_append_drop k cs)
  rw [List.sum_append] at this
  exact this
/-- The last number of one with this base and so many records. -/
theorem last_tr (f : Int) (b c : Nat) (h1 : 1 ≤ c) (h2 : c ≤ 16) : lastI ((f + b) % 2147483648) c = (trD f b c).l := by
  rw [last_yes (by omega) (by omega), add_yes (by omega) (by omega)]
  show ((f + b) % 2147483648 + ((c : Int) - 1)) % 2147483648 = (f + b + c - 1) % 2147483648
  omega
theorem dup_out (f : Int) : ∀ (b : Nat) (cs : List Nat) (m n : Nat), CsOk cs → b + cs.sum ≤ 1000 → m ≤ 1000 → (m < b ∨ b + cs.sum ≤ m) → dupL (trsD f b cs) ((f + m) % 2147483648) n = none
  | b, [], m, n, _, _, _, _ => rfl
  | b, c :: cs, m, n, h, h1, h2, h3 => by
    have hc := h c (by simp)
    simp only [List.sum_cons] at h1 h3
    show dupL (trD f b c :: trsD f (b + c) cs) _ n = none
    rw [dup_miss]
    · exact dup_out f (b + c) cs m n (fun x hx => h x (by simp [hx])) (by omega) h2 (by omega)
    · unfold hitB
      rw [decide_eq_false, Bool.false_and]
      show ¬ (f + (b : Int)) % 2147483648 = (f + m) % 2147483648
      omega
theorem dup_in (f : Int) : ∀ (b : Nat) (cs : List Nat) (j c : Nat), CsOk cs → b + cs.sum ≤ 1000 → cs[j]? = some c → dupL (trsD f b cs) ((f + ((b + (cs.take j).sum : Nat) : Int)) % 2147483648) c = some ((b + (cs.take j).sum : Nat) : Int)
  | b, c :: cs, 0, d, h, h1, hj => by
    have hc := h c (by simp)
    simp at hj
    subst hj
    show dupL (trD f b c :: trsD f (b + c) cs) _ c = _
    rw [dup_hit]
    · simp [trD]
    · unfold hitB
      rw [show ((b + (List.take 0 (c :: cs)).sum : Nat) : Int) = b from by simp, last_tr f b c hc.1 (by omega)]
      simp [trD]
  | b, c :: cs, j + 1, d, h, h1, hj => by
    have hc := h c (by simp)
    simp only [List.sum_cons] at h1
    have e : b + (List.take (j + 1) (c :: cs)).sum = b + c + (cs.take j).sum := by simp [Nat.add_assoc]
    have ht := take_drop_sum cs j
    rw [e]
    show dupL (trD f b c :: trsD f (b + c) cs) _ d = _
    rw [dup_miss]
    · exact dup_in f (b + c) cs j d (fun x hx => h x (by simp [hx])) (by omega) (by simpa using hj)
    · unfold hitB
      rw [decide_eq_false, Bool.false_and]
      show ¬ (f + (b : Int)) % 2147483648 = (f + ((b + c + (cs.take j).sum : Nat) : Int)) % 2147483648
      omega
  | b, [], j, d, h, h1, hj => by cases hj
theorem last_trs (f : Int) : ∀ (b : Nat) (cs : List Nat), CsOk cs → cs ≠ [] → lastSeq (trsD f b cs) = (f + ((b + cs.sum : Nat) : Int) - 1) % 2147483648
  | b, [], _, h => absurd rfl h
  | b, [c], h, _ => by
    show (f + b + c - 1) % 2147483648 = _
    simp
    omega
  | b, c :: d :: cs, h, _ => by
    have := last_trs f (b + c) (d :: cs) (fun x hx => h x (by simp [hx])) (by simp)
    have e : lastSeq (trsD f b (c :: d :: cs)) = lastSeq (trsD f (b + c) (d :: cs)) := by
      unfold lastSeq
      show (match (trD f b c :: trD f (b + c) d :: trsD f (b + c + d) cs).getLast? with | some x => x.l | none => 0) = (match (trD f (b + c) d :: trsD f (b + c + d) cs).getLast? with | some x => x.l | none => 0)
      rw [List.getLast?_cons_cons]
    rw [e, this]
    simp [Nat.add_assoc]
theorem trs_nil {f : Int} {b : Nat} {cs : List Nat} (h : cs ≠ []) : trsD f b cs ≠ [] := fun e => h (List.eq_nil_of_length_eq_zero (by rw [← trs_len f b cs, e]; rfl))
theorem follow_trs (f : Int) (b : Nat) (cs : List Nat) (m : Nat) (h : CsOk cs) (hne : cs ≠ []) (hb : b + cs.sum ≤ 1000) (hm : m ≤ 1000) : followsB (lastSeq (trsD f b cs)) ((f + m) % 2147483648) = decide (m = b + cs.sum) := by
  rw [last_trs f b cs h hne, follows_yes (by omega) (by omega), add_yes (by omega) (by omega)]
  by_cases e : m = b + cs.sum
  · rw [decide_eq_true e, decide_eq_true (by subst e; omega)]
  · rw [decide_eq_false e, decide_eq_false (by omega)]
theorem trs_ok (f : Int) (b : Nat) (cs : List Nat) (h : CsOk cs) (hb : b + cs.sum ≤ 1000) (j : Nat) : StepOk (trsD f b cs) j := by
  intro x hx
  have hj : j < cs.length := by
    rw [← trs_len f b cs]
    exact Classical.byContradiction fun hn => by rw [List.getElem?_eq_none (by omega)] at hx; cases hx
  obtain ⟨c, hc⟩ : ∃ c, cs[j]? = some c := ⟨_, List.getElem?_eq_getElem hj⟩
  have hcc := h c (List.mem_of_getElem? hc)
  have ht := take_drop_sum cs j
  rw [trs_get f b cs j c hc] at hx
  cases hx
  obtain ⟨s, hs⟩ : ∃ s, s = (cs.take j).sum := ⟨_, rfl⟩
  rw [← hs] at ht ⊢
  have g1 : gapI (trD f (b + s) c).f (trD f (b + s) c).l = (c : Int) - 1 := by
    show gapI ((f + ((b + s : Nat) : Int)) % 2147483648) ((f + ((b + s : Nat) : Int) + c - 1) % 2147483648) = _
    rw [gap_yes (by omega) (by omega) (by omega) (by omega)]
    omega
  refine ⟨⟨by rw [g1]; omega, by rw [g1]; omega, by show (0 : Int) ≤ ((b + s : Nat) : Int); omega, by show ((b + s : Nat) : Int) ≤ _; omega⟩, fun y h0 hy => ?_⟩
  obtain ⟨d, hd⟩ : ∃ d, cs[j - 1]? = some d := ⟨_, List.getElem?_eq_getElem (by omega)⟩
  have hdd := h d (List.mem_of_getElem? hd)
  rw [trs_get f b cs (j - 1) d hd] at hy
  cases hy
  have e : s = (cs.take (j - 1)).sum + d := by
    rw [hs]
    have e2 : cs.take j = cs.take (j - 1) ++ [d] := by
      obtain ⟨i, rfl⟩ : ∃ i, j = i + 1 := ⟨j - 1, by omega⟩
      rw [List.take_add_one]
      simp at hd ⊢
      simp [hd]
    rw [e2, List.sum_append]
    simp
  obtain ⟨q, hq⟩ : ∃ q, q = (cs.take (j - 1)).sum := ⟨_, rfl⟩
  rw [← hq] at e ⊢
  refine ⟨by show ((b + q : Nat) : Int) < ((b + s : Nat) : Int); omega, ?_⟩
  show followsB ((f + ((b + q : Nat) : Int) + d - 1) % 2147483648) ((f + ((b + s : Nat) : Int)) % 2147483648) = true
  rw [follows_yes (by omega) (by omega), add_yes (by omega) (by omega)]
  exact decide_eq_true (by omega)
/-- What is known of a producer whose batches follow one another, and what is told of one of them again, or of the next one. -/
theorem check_next (id ep op f : Int) (b : Nat) (cs : List Nat) (txn : Bool) (base : Int) (recs : List Rc) (h : CsOk cs) (hb : b + cs.sum ≤ 1000) (hr : 1 ≤ recs.length ∧ recs.length ≤ 6) (m : Nat) (hm : m = b + cs.sum) (ho : 0 ≤ op → txn = true) :
    checkD ⟨id, ep, trsD f b cs, op⟩ true ⟨base, id, ep, (f + m) % 2147483648, txn, 0, recs⟩ = (-1, 0) := by
  unfold checkD
  simp only [ne_eq, not_true_eq_false, if_false, Bool.true_eq_false, Int.lt_irrefl]
  rw [dup_out f b cs m _ h hb (by omega) (by omega)]
  simp only
  rw [if_neg, if_neg]
  · rintro ⟨h1, h2⟩; rw [ho h1] at h2; cases h2
  · rintro ⟨h1, h2⟩
    have hne : cs ≠ [] := fun e => h1 (by rw [e]; rfl)
    rw [follow_trs f b cs m h hne hb (by omega), hm] at h2
    simp at h2
theorem check_open (id ep op f : Int) (b : Nat) (cs : List Nat) (base : Int) (recs : List Rc) (h : CsOk cs) (hb : b + cs.sum ≤ 1000) (m : Nat) (hm : m = b + cs.sum) (ho : 0 ≤ op) :
    checkD ⟨id, ep, trsD f b cs, op⟩ true ⟨base, id, ep, (f + m) % 2147483648, false, 0, recs⟩ = (-1, 16) := by
  unfold checkD
  simp only [ne_eq, not_true_eq_false, if_false, Bool.true_eq_false, Int.lt_irrefl]
  rw [dup_out f b cs m _ h hb (by omega) (by omega)]
  simp only
  rw [if_neg, if_pos ⟨ho, trivial⟩]
  rintro ⟨h1, h2⟩
  have hne : cs ≠ [] := fun e => h1 (by rw [e]; rfl)
  rw [follow_trs f b cs m h hne hb (by omega), hm] at h2
  simp at h2
theorem check_again (id ep op f : Int) (b : Nat) (cs : List Nat) (txn : Bool) (base : Int) (recs : List Rc) (h : CsOk cs) (hb : b + cs.sum ≤ 1000) (j c : Nat) (hj : cs[j]? = some c) (hr : recs.length = c) :
    checkD ⟨id, ep, trsD f b cs, op⟩ true ⟨base, id, ep, (f + ((b + (cs.take j).sum : Nat) : Int)) % 2147483648, txn, 0, recs⟩ = (((b + (cs.take j).sum : Nat) : Int), 0) := by
  unfold checkD
  simp only [ne_eq, not_true_eq_false, if_false, Bool.true_eq_false, Int.lt_irrefl]
  rw [hr, dup_in f b cs j c h hb hj]
theorem check_old (id ep op f : Int) (b : Nat) (cs : List Nat) (txn : Bool) (base : Int) (recs : List Rc) (h : CsOk cs) (hne : cs ≠ []) (hb : b + cs.sum ≤ 1000) (m : Nat) (hm : m < b) :
    checkD ⟨id, ep, trsD f b cs, op⟩ true ⟨base, id, ep, (f + m) % 2147483648, txn, 0, recs⟩ = (-1, 15) := by
  unfold checkD
  simp only [ne_eq, not_true_eq_false, if_false, Bool.true_eq_false, Int.lt_irrefl]
  rw [dup_out f b cs m _ h hb (by omega) (.inl hm)]
  simp only
  rw [if_pos ⟨trs_nil hne, by rw [follow_trs f b cs m h hne hb (by omega)]; exact decide_eq_false (by omega)⟩]
/-- The latest five of a row. -/
def lateD (f : Int) (b : Nat) (cs : List Nat) : List Tr := trsD f (b + (cs.take (cs.length - 5)).sum) (cs.drop (cs.length - 5))
theorem late_snoc (f : Int) (b : Nat) (cs : List Nat) (c : Nat) : newLast (lateD f b cs) (trD f (b + cs.sum) c) = lateD f b (cs ++ [c]) := by
  have e1 : lateD f b cs = (trsD f b cs).drop (cs.length - 5) := by unfold lateD; rw [trs_drop]
  have e2 : lateD f b (cs ++ [c]) = (trsD f b (cs ++ [c])).drop (cs.length + 1 - 5) := by
    unfold lateD
    rw [trs_drop, List.length_append]; rfl
  have e3 : trsD f b (cs ++ [c]) = trsD f b cs ++ [trD f (b + cs.sum) c] := by rw [trs_app]; rfl
  unfold newLast
  rw [e2, e3, e1, List.length_drop, trs_len]
  have hk : cs.length - 5 ≤ (trsD f b cs).length := by rw [trs_len]; omega
  rw [← List.drop_append_of_le_length hk, List.drop_drop]
  congr 1
  omega
end Go.ProdMath
namespace Go.Proofs.Ytinilkkpocnnpaa
open Go.RowKit Go.OpenShut
set_option linter.unusedVariables false

abbrev AllB (bs : List Nat) : Prop := ∀ x ∈ bs, x < 256
/-- A slice of bytes reads as bs: it is empty, or its cells lie in one block, one behind the other. -/
structure Byt (w : World) (ad : Option Addr) (len cap : Nat) (bs : List Nat) : Prop where
  length : bs.length = len
  fits : len ≤ cap
  all : AllB bs
  cells : len = 0 ∨ ∃ b off, ad = some ⟨b, off, none⟩ ∧ ∀ i, i < len → w.cell? ⟨b, off + i, none⟩ = some (.int .u8 (bs.getD i 0 : Nat))

theorem take_all {bs : List Nat} (h : AllB bs) (k : Nat) : AllB (bs.take k) := fun x hx => h x (List.mem_of_mem_take hx)

def byte (b : Nat) : Value := .int .u8 (b : Int)
def vals (bs : List Nat) : List Value := bs.map byte
/-- Block g is known whole: the bytes bs. -/
def Own (w : World) (g : Nat) (bs : List Nat) : Prop := w.heap[g]? = some (.cells (vals bs).toArray 5 (0, 0))
theorem length_vals (bs : List Nat) : (vals bs).length = bs.length := by simp [vals]
theorem Own.cell {w : World} {g : Nat} {bs : List Nat} (h : Own w g bs) (i : Nat) (hi : i < bs.length) : w.cell? ⟨g, i, none⟩ = some (.int .u8 (bs.getD i 0 : Nat)) := by
  rw [cell_of_row w g i _ _ _ h]
  simp [vals, hi, byte]
theorem Own.free {w : World} {g : Nat} {bs : List Nat} (h : Own w g bs) (i : Nat) : w.frozen? ⟨g, i, none⟩ = false := frozen_of_row w g i _ _ h
theorem Own.keep {w w' : World} {g : Nat} {bs : List Nat} (h : Own w g bs) {B : Nat} (hb : Below B w w') (hg : g < B) : Own w' g bs := by
  show w'.heap[g]? = _
  rw [hb.block g hg]; exact h
theorem Own.lt {w : World} {g : Nat} {bs : List Nat} (h : Own w g bs) : g < w.heap.size := (Array.getElem?_eq_some_iff.1 h).1
theorem Own.set {w : World} {g : Nat} {bs : List Nat} (h : Own w g bs) (i : Nat) (x : Nat) : Own (w.setCell ⟨g, i, none⟩ (.int .u8 x)) g (bs.set i x) := by
  have := heap_setCell_same w g i _ _ (.int .u8 x) h
  show (w.setCell ⟨g, i, none⟩ (.int .u8 x)).heap[g]? = some (.cells (vals (bs.set i x)).toArray 5 (0, 0))
  rw [this]
  congr 2
  simp [vals, byte]
theorem Byt.keep {w w' : World} {ad : Option Addr} {len cap : Nat} {bs : List Nat} (h : Byt w ad len cap bs) {B : Nat} (hb : Below B w w') (hB : w.heap.size ≤ B) : Byt w' ad len cap bs := by
  refine ⟨h.length, h.fits, h.all, ?_⟩
  rcases h.cells with h0 | ⟨b, off, e, hc⟩
  · exact .inl h0
  · refine .inr ⟨b, off, e, fun i hi => ?_⟩
    have := hc i hi
    rw [hb.cell (p := ⟨b, off + i, none⟩) (by have := World.block_lt_of_cell? w _ this; exact Nat.lt_of_lt_of_le this hB)]
    exact this
theorem Byt.source {w : World} {ad : Option Addr} {len cap : Nat} {bs : List Nat} (h : Byt w ad len cap bs) (hp : 0 < len) : ∃ a, ad = some a ∧ ∀ j v, (vals bs)[j]? = some v → w.cell? (a.add j) = some v := by
  rcases h.cells with h0 | ⟨b, off, e, hc⟩
  · omega
  · refine ⟨_, e, fun j v hj => ?_⟩
    have hjl : j < bs.length := by
      have := (List.getElem?_eq_some_iff.1 hj).1
      simpa [vals] using this
    have h1 := hc j (by rw [h.length] at hjl; exact hjl)
    have h2 : (⟨b, off, none⟩ : Addr).add j = ⟨b, off + j, none⟩ := by
      unfold Addr.add
      split
      · rename_i h3; subst h3; rfl
      · rfl
    rw [h2, h1]
    rw [← hj]
    simp [vals, byte, hjl]
theorem Byt.alike {w w' : World} {ad : Option Addr} {len cap : Nat} {bs : List Nat} (h : Byt w ad len cap bs) (hc : ∀ a, w'.cell? a = w.cell? a) : Byt w' ad len cap bs := by
  refine ⟨h.length, h.fits, h.all, ?_⟩
  rcases h.cells with h0 | ⟨b, off, e, hc'⟩
  · exact .inl h0
  · exact .inr ⟨b, off, e, fun i hi => (hc _).trans (hc' i hi)⟩
theorem Byt.drewN {w : World} {ad : Option Addr} {len cap : Nat} {bs : List Nat} (h : Byt w ad len cap bs) (n : Nat) : Byt (w.drewN n) ad len cap bs := h.alike fun a => by simp

theorem add_at (b o j : Nat) : (⟨b, o, none⟩ : Addr).add j = ⟨b, o + j, none⟩ := by
  unfold Addr.add
  split
  · rename_i h; subst h; rfl
  · rfl
/-- Block g begins with the bytes bs. -/
def Pre (w : World) (g : Nat) (bs : List Nat) : Prop := ∃ cur : Array Value, w.heap[g]? = some (.cells cur 5 (0, 0)) ∧ cur.toList.take bs.length = vals bs
theorem Own.pre {w : World} {g : Nat} {bs : List Nat} (h : Own w g bs) : Pre w g bs := ⟨_, h, by rw [← length_vals]; simp⟩
theorem Pre.cell {w : World} {g : Nat} {bs : List Nat} (h : Pre w g bs) (i : Nat) (hi : i < bs.length) : w.cell? ⟨g, i, none⟩ = some (.int .u8 (bs.getD i 0 : Nat)) := by
  obtain ⟨cur, hg, ht⟩ := h
  rw [cell_of_row w g i _ _ _ hg]
  have h1 : (cur.toList.take bs.length)[i]? = cur[i]? := by rw [List.getElem?_take, if_pos hi]; simp
  rw [← h1, ht]
  simp [vals, hi, byte]
theorem Pre.free {w : World} {g : Nat} {bs : List Nat} (h : Pre w g bs) (i : Nat) : w.frozen? ⟨g, i, none⟩ = false := by
  obtain ⟨cur, hg, _⟩ := h
  exact frozen_of_row w g i _ _ hg
theorem Pre.keep {w w' : World} {g : Nat} {bs : List Nat} (h : Pre w g bs) {B : Nat} (hb : Below B w w') (hg : g < B) : Pre w' g bs := by
  obtain ⟨cur, h1, h2⟩ := h
  exact ⟨cur, by rw [hb.block g hg]; exact h1, h2⟩
theorem Pre.lt {w : World} {g : Nat} {bs : List Nat} (h : Pre w g bs) : g < w.heap.size := by
  obtain ⟨cur, hg, _⟩ := h
  exact (Array.getElem?_eq_some_iff.1 hg).1
theorem Pre.set {w : World} {g : Nat} {bs : List Nat} (h : Pre w g bs) (i : Nat) (x : Nat) : Pre (w.setCell ⟨g, i, none⟩ (.int .u8 x)) g (bs.set i x) := by
  obtain ⟨cur, h1, h2⟩ := h
  refine ⟨_, heap_setCell_same w g i _ _ (.int .u8 x) h1, ?_⟩
  rw [List.length_set, Array.toList_setIfInBounds, List.take_set, h2]
  simp [vals, byte]
def str (bs : List Nat) : ByteArray := ⟨(bs.map UInt8.ofNat).toArray⟩
theorem foldl_push (bs : List Int) (s : ByteArray) : (bs.foldl (fun r n => r.push (UInt8.ofNat n.toNat)) s).data.toList = s.data.toList ++ bs.map (fun n => UInt8.ofNat n.toNat) := by
  induction bs generalizing s with
  | nil => simp
  | cons b bs ih => rw [List.foldl_cons, ih]; simp [ByteArray.push]
theorem str_eq (bs : List Nat) : ((bs.map Int.ofNat).foldl (fun r n => r.push (UInt8.ofNat n.toNat)) ByteArray.empty) = str bs := by
  apply ByteArray.ext
  apply Array.toList_inj.1
  rw [foldl_push]
  have e : (ByteArray.empty : ByteArray).data.toList = [] := rfl
  rw [e]
  simp [str, Function.comp_def]
theorem ints_vals (bs : List Nat) : (bs.map Int.ofNat).map (Value.int .u8) = vals bs := by simp only [vals, List.map_map]; rfl
theorem run_str {w : World} {ad : Option Addr} {len cap : Nat} {bs : List Nat} (h : Byt w ad len cap bs) : (convert 87 9 (.slice ad len cap)).run Try.prog w = .ok (.string (str bs)) w := by
  rw [run_convert_bytes_string w 87 9 5 ad len cap Try.underlying87 Try.underlying5 Try.underlying9]
  rcases ad with _ | a
  · have : len = 0 := by
      rcases h.cells with h0 | ⟨b, off, e, _⟩
      · exact h0
      · cases e
    subst this
    obtain rfl : bs = [] := List.eq_nil_of_length_eq_zero h.length
    simp [Conv.bytesToString, Sem.run_pure, str]; rfl
  · have hl := h.length
    have hc : ∀ j v, (vals bs)[j]? = some v → w.cell? (a.add j) = some v := by
      intro j v hj
      have hjl : j < bs.length := by
        have := (List.getElem?_eq_some_iff.1 hj).1
        rwa [length_vals] at this
      obtain ⟨a', ha', hs⟩ := h.source (by omega)
      obtain rfl := Option.some.inj ha'
      exact hs j v hj
    have h1 := run_loadCells_list (P := Try.prog) (w := w) a (vals bs) hc
    rw [length_vals, hl, ← ints_vals] at h1
    rw [run_bytesToString w a len cap _ h1, str_eq]
theorem Byt.nil (w : World) : Byt w none 0 0 [] := ⟨rfl, Nat.le_refl _, (fun x hx => by cases hx), .inl rfl⟩

theorem all_small {bs : List Nat} (h : bs.all (· < 256) = true) : AllB bs := by
  intro x hx
  have := List.all_eq_true.1 h x hx
  simpa using this
def IsRow (k : IntKind) (w : World) (a : Option Addr) (len cap : Nat) (zs : List Int) : Prop :=
  (a = none ∧ len = 0 ∧ cap = 0 ∧ zs = []) ∨
  ∃ x, a = some x ∧ len ≤ cap ∧ cap ≤ maxLen ∧ zs.length = cap ∧ (∀ i, i < zs.length → w.cell? (x.add i) = some (.int k (zs.getD i 0))) ∧ ∀ n ∈ zs, (Lit.int k n).wf = true

/-- A slice of bytes, and, if it is nil, it has no room. -/
def Row (w : World) (ad : Option Addr) (len cap : Nat) (bs : List Nat) : Prop := Byt w ad len cap bs ∧ (ad = none → cap = 0)
theorem Row.keep {w w' : World} {ad : Option Addr} {len cap : Nat} {bs : List Nat} (h : Row w ad len cap bs) {B : Nat} (hb : Below B w w') (hB : w.heap.size ≤ B) : Row w' ad len cap bs := ⟨h.1.keep hb hB, h.2⟩
theorem Row.all {w : World} {ad : Option Addr} {len cap : Nat} {bs : List Nat} (h : Row w ad len cap bs) : AllB bs := h.1.all
theorem Row.len {w : World} {ad : Option Addr} {len cap : Nat} {bs : List Nat} (h : Row w ad len cap bs) : bs.length = len := h.1.length

theorem all_one : AllB [1] := all_small (by decide)

/-- A value that reads as the text t, in every world that has not turned since w. -/
def ReadsAs (w : World) (v : Value) (t : ByteArray) : Prop := ∀ W, Below w.heap.size w W → (convert 87 9 v).run Try.prog W = .ok (.string t) W
theorem ReadsAs.of {w : World} {a : Option Addr} {l c : Nat} {bs : List Nat} (h : Byt w a l c bs) : ReadsAs w (.slice a l c) (str bs) := fun W hW => run_str (h.keep hW (Nat.le_refl _))
theorem owns_keep {w w' : World} {base e size n : Nat} {v : Value} {xs : List Value} (h : w.ownsRow base e size v n xs) {B : Nat} (hb : Below B w w') (hB : w.heap.size ≤ B) : w'.ownsRow base e size v n xs := by
  refine ⟨h.1, ?_⟩
  rcases h.2 with h0 | ⟨g, cap, cur, hv, hg, hh, r⟩
  · exact .inl h0
  · refine .inr ⟨g, cap, cur, hv, hg, ?_, r⟩
    rw [hb.block g (Nat.lt_of_lt_of_le (Array.getElem?_eq_some_iff.1 hh).1 hB)]
    exact hh
/-- A value that reads as the text s, in every world that has not turned since w. -/
def Reads (w : World) (v : Value) (s : ByteArray) : Prop := ∀ W, Below w.heap.size w W → (convert 87 9 v).run Try.prog W = .ok (.string s) W
theorem Reads.of {w : World} {a : Option Addr} {l c : Nat} {bs : List Nat} (h : Byt w a l c bs) : Reads w (.slice a l c) (str bs) := fun W hW => run_str (h.keep hW (Nat.le_refl _))
theorem Reads.keep {w w' : World} {v : Value} {s : ByteArray} (h : Reads w v s) (hb : Below w.heap.size w w') : Reads w' v s := fun W hW => h W (hb.trans (hW.mono hb.size))
end Go.Proofs.Ytinilkkpocnnpaa
namespace Go.Proofs.Ytinilkkpocnnpaa
open Go.RowKit Go.OpenShut
set_option linter.unusedVariables false

/-- How things of one kind lie in memory. -/
structure Kind (α : Type) where
  enc : α → List Value
  size : Nat
  ty : TypeId
  sl : TypeId
structure Kind.Ok {α : Type} (K : Kind α) (bytes : Nat) : Prop where
  und : Try.prog.underlying K.sl = some (.slice K.ty)
  info : ∃ i z, Try.prog.info? K.ty = some i ∧ i.zero = some z ∧ i.size = K.size ∧ i.bytes = bytes ∧ z.cells.size = K.size
  len : ∀ x, (K.enc x).length = K.size
  pos : 0 < K.size
  one : ∀ x, ∀ u ∈ K.enc x, u.oneCell' = true
  few : bytes ≤ 1000
variable {α : Type} {K : Kind α} {bytes : Nat} {w w' : World}
def Kind.all (K : Kind α) (l : List α) : List Value := l.flatMap K.enc
theorem Kind.Ok.all_len (hK : K.Ok bytes) : ∀ l : List α, (K.all l).length = l.length * K.size
  | [] => by simp [Kind.all]
  | x :: l => by
    have := Kind.Ok.all_len hK l
    unfold Kind.all at *
    rw [List.flatMap_cons, List.length_append, this, hK.len, List.length_cons, Nat.succ_mul, Nat.add_comm]
theorem Kind.all_app (K : Kind α) (a b : List α) : K.all (a ++ b) = K.all a ++ K.all b := by simp [Kind.all]
theorem Kind.Ok.all_one (hK : K.Ok bytes) (l : List α) : ∀ u ∈ K.all l, u.oneCell' = true := by
  intro u hu
  obtain ⟨x, _, hx⟩ := List.mem_flatMap.1 hu
  exact hK.one x u hx
theorem Kind.Ok.all_at (hK : K.Ok bytes) : ∀ (l : List α) (i : Nat) (x : α), l[i]? = some x → ∀ j, j < K.size → (K.all l)[i * K.size + j]? = (K.enc x)[j]?
  | [], i, x, h, j, hj => by cases h
  | y :: l, 0, x, h, j, hj => by
    cases h
    show ((y :: l).flatMap K.enc)[0 * K.size + j]? = _
    rw [List.flatMap_cons, Nat.zero_mul, Nat.zero_add, List.getElem?_append_left (by rw [hK.len]; exact hj)]
  | y :: l, i + 1, x, h, j, hj => by
    have ih := Kind.Ok.all_at hK l i x h j hj
    show ((y :: l).flatMap K.enc)[(i + 1) * K.size + j]? = _
    rw [List.flatMap_cons, List.getElem?_append_right (by rw [hK.len, Nat.succ_mul]; omega), hK.len, show (i + 1) * K.size + j - K.size = i * K.size + j by rw [Nat.succ_mul]; omega]
    exact ih
/-- A slice reads as l. -/
structure RowAt (K : Kind α) (w : World) (ad : Option Addr) (len cap : Nat) (l : List α) : Prop where
  length : l.length = len
  fits : len ≤ cap
  room : ad = none → cap = 0
  cells : len = 0 ∨ ∃ b off, ad = some ⟨b, off, none⟩ ∧ b < w.heap.size ∧ ∀ i x, l[i]? = some x → ∀ j u, (K.enc x)[j]? = some u → w.cell? ⟨b, off + (i * K.size + j), none⟩ = some u
theorem RowAt.keep {ad : Option Addr} {len cap : Nat} {l : List α} (h : RowAt K w ad len cap l) (hb : Below w.heap.size w w') : RowAt K w' ad len cap l := by
  refine ⟨h.length, h.fits, h.room, ?_⟩
  rcases h.cells with h0 | ⟨b, off, e, hlt, hc⟩
  · exact .inl h0
  · refine .inr ⟨b, off, e, Nat.lt_of_lt_of_le hlt hb.size, fun i x hi j u hj => ?_⟩
    rw [hb.cell (p := ⟨b, off + (i * K.size + j), none⟩) hlt]
    exact hc i x hi j u hj
/-- Every block but one is as it was, and the row does not lie in that one. -/
theorem RowAt.grown {ad : Option Addr} {len cap : Nat} {l : List α} {r : Option Nat} (h : RowAt K w ad len cap l) (hg : w.grownBy w' r) (hr : ∀ a, ad = some a → some a.block ≠ r) : RowAt K w' ad len cap l := by
  refine ⟨h.length, h.fits, h.room, ?_⟩
  rcases h.cells with h0 | ⟨b, off, e, hlt, hc⟩
  · exact .inl h0
  · exact .inr ⟨b, off, e, Nat.lt_of_lt_of_le hlt hg.size, fun i x hi j u hj => hg.cell (hc i x hi j u hj) (show some b ≠ r from hr _ e)⟩
theorem rowAt_nil (w : World) : RowAt K w none 0 0 ([] : List α) := ⟨rfl, Nat.le_refl _, fun _ => rfl, .inl rfl⟩
theorem RowAt.zero (w : World) {ad : Option Addr} {cap : Nat} (h : ad = none → cap = 0) : RowAt K w ad 0 cap ([] : List α) := ⟨rfl, Nat.zero_le _, h, .inl rfl⟩
/-- The thing at i. -/
theorem RowAt.get {ad : Option Addr} {len cap : Nat} {l : List α} (h : RowAt K w ad len cap l) {i : Nat} (hi : i < len) :
    ∃ b off x, ad = some ⟨b, off, none⟩ ∧ b < w.heap.size ∧ l[i]? = some x ∧ ∀ j u, (K.enc x)[j]? = some u → w.cell? ⟨b, off + (i * K.size + j), none⟩ = some u := by
  have hl := h.length
  rcases h.cells with h0 | ⟨b, off, e, hlt, hc⟩
  · omega
  · have hx : l[i]? = some (l[i]'(by omega)) := List.getElem?_eq_getElem (by omega)
    exact ⟨b, off, _, e, hlt, hx, hc i _ hx⟩
theorem RowAt.news (hK : K.Ok bytes) {b off len cap : Nat} {l : List α} (h : RowAt K w (some ⟨b, off, none⟩) len cap l) : ∀ j u, (K.all l)[j]? = some u → w.cell? ((⟨b, off, none⟩ : Addr).add j) = some u := by
  intro j u hj
  have hjl : j < l.length * K.size := by
    have := (List.getElem?_eq_some_iff.1 hj).1
    rwa [hK.all_len] at this
  have hp := hK.pos
  have hil : j / K.size < l.length := Nat.div_lt_of_lt_mul (by rwa [Nat.mul_comm])
  have hx : l[j / K.size]? = some (l[j / K.size]'hil) := List.getElem?_eq_getElem hil
  have hm := Nat.mod_lt j hp
  have he : j / K.size * K.size + j % K.size = j := by rw [Nat.mul_comm]; exact Nat.div_add_mod j K.size
  have h1 := hK.all_at l _ _ hx _ hm
  rw [he] at h1
  rw [add_at]
  rcases h.cells with h0 | ⟨b', off', e, _, hc⟩
  · have hl0 : l.length = 0 := by have := h.length; omega
    exact absurd hil (by rw [hl0]; exact Nat.not_lt_zero _)
  · cases e
    have h2 := hc _ _ hx _ u (by rw [← h1]; exact hj)
    rwa [he] at h2
/-- A row that is the call's own. -/
def OwnRow (K : Kind α) (w : World) (base : Nat) (v : Value) (l : List α) : Prop := w.ownsRow base K.ty K.size v l.length (K.all l)
theorem ownRow_nil (K : Kind α) (w : World) (base : Nat) : OwnRow K w base (.slice none 0 0) [] := World.ownsRow_nil w base K.ty K.size
theorem OwnRow.on {base : Nat} {v : Value} {l : List α} (h : OwnRow K w base v l) (hb : Below w.heap.size w w') : OwnRow K w' base v l := owns_keep h hb (Nat.le_refl _)
theorem OwnRow.alloc {base : Nat} {v : Value} {l : List α} (h : OwnRow K w base v l) (o : Obj) : OwnRow K (w.alloc o) base v l := World.ownsRow.alloc h o
theorem OwnRow.lt {base : Nat} {v : Value} {l : List α} (h : OwnRow K w base v l) : ∀ k, v.ownBlock = some k → base ≤ k ∧ k < w.heap.size := World.ownsRow.lt h
theorem OwnRow.grown {base : Nat} {v : Value} {l : List α} {r : Option Nat} (h : OwnRow K w base v l) (hg : w.grownBy w' r) (hr : ∀ k, v.ownBlock = some k → some k ≠ r) : OwnRow K w' base v l := by
  refine World.ownsRow.kept h hg ?_
  cases hv : v.ownBlock with
  | none => exact .inl rfl
  | some k => exact .inr (hr k hv)
theorem OwnRow.at (hK : K.Ok bytes) {base : Nat} {v : Value} {l : List α} (h : OwnRow K w base v l) : ∃ ad cap, v = .slice ad l.length cap ∧ RowAt K w ad l.length cap l ∧ (∀ a, ad = some a → base ≤ a.block ∧ a.block < w.heap.size) := by
  rcases h.2 with ⟨rfl, h0⟩ | ⟨g, cap, cur, rfl, hb, hh, hc, _, hs, ht⟩
  · refine ⟨none, 0, by rw [h0], ?_, fun a ha => by cases ha⟩
    obtain rfl := List.eq_nil_of_length_eq_zero h0
    exact rowAt_nil w
  · refine ⟨_, cap, rfl, ⟨rfl, hc, (fun e => by cases e), .inr ⟨g, 0, rfl, (Array.getElem?_eq_some_iff.1 hh).1, fun i x hi j u hj => ?_⟩⟩, fun a ha => by cases ha; exact ⟨hb, (Array.getElem?_eq_some_iff.1 hh).1⟩⟩
    have hjs : j < K.size := by have := (List.getElem?_eq_some_iff.1 hj).1; rwa [hK.len] at this
    have h1 := hK.all_at l i x hi j hjs
    rw [hj, ← ht, List.getElem?_take] at h1
    rw [Nat.zero_add, cell_of_row w g _ _ _ _ hh]
    split at h1
    · simpa using h1
    · cases h1
/-- A block that was laid whole. -/
theorem ownRow_lit (hK : K.Ok bytes) (w : World) (base : Nat) (l : List α) (hb : base ≤ w.heap.size) (hm : l.length ≤ 1000000) (cs : Array Value) (hcs : cs = (K.all l).toArray) (n : Nat) (hn : l.length = n) : OwnRow K (w.alloc (.cells cs K.ty)) base (.slice (some ⟨w.heap.size, 0, none⟩) n n) l := by
  subst hcs hn
  have := World.ownsRow_lit (e := K.ty) (size := K.size) (base := base) w (K.all l).toArray l.length hb (by unfold maxLen; omega) (by rw [List.size_toArray, hK.all_len])
  unfold OwnRow
  simpa using this
theorem rowAt_lit (hK : K.Ok bytes) (w : World) (l : List α) (hm : l.length ≤ 1000000) (cs : Array Value) (hcs : cs = (K.all l).toArray) (n : Nat) (hn : l.length = n) : RowAt K (w.alloc (.cells cs K.ty)) (some ⟨w.heap.size, 0, none⟩) n n l := by
  obtain ⟨ad, cap, e, h, _⟩ := (ownRow_lit hK w 0 l (Nat.zero_le _) hm cs hcs n hn).at hK
  cases e
  exact h
theorem append_block (hK : K.Ok bytes) (w w' : World) (base : Nat) (v v' : Value) (l m : List α) (ty : Nat) (hown : OwnRow K w base v l) (a : Addr) (cap : Nat) (hnews : ∀ j u, (K.all m)[j]? = some u → w.cell? (a.add j) = some u) (hn : (l.length + m.length) * bytes ≤ 140737488355328) (hn2 : l.length + m.length ≤ 140737488355328)
    (hrun : (Builtin.append_ #[K.sl, K.sl] ty #[v, .slice (some a) m.length cap]).run Try.prog w = .ok v' w') : ∀ k, v'.ownBlock = some k → v.ownBlock = some k ∨ k = w.heap.size := by
  obtain ⟨i, z, hi, hz, hs, hby, hzs⟩ := hK.info
  have hu := hK.und
  have hml := hK.all_len m
  rw [← hs] at hml
  intro k hk
  rcases hown.2 with ⟨rfl, h0⟩ | ⟨g, cp, cur, rfl, hbg, hg, hnc, hcm, hcs, htake⟩
  · by_cases hm : m.length = 0
    · have : m = [] := List.eq_nil_of_length_eq_zero hm
      subst this
      have hrun2 : (Builtin.append_ #[K.sl, K.sl] ty #[.slice none 0 0, .slice (some a) 0 cap]).run Try.prog w = .ok (.slice none 0 0) w := by
        simp [Builtin.append_, run_underlying hu, sizeOf, typeInfo, hi, Builtin.lenOf, Builtin.firstCells, loadCells, loadCellsFrom]
      rw [List.length_nil, hrun2] at hrun
      injection hrun with e1 e2
      subst e1
      cases hk
    · rw [run_append_nil (P := Try.prog) w K.sl ty K.ty i z hu hi hz a m.length cap (K.all m) hml hnews (by omega) (by omega) (by rw [hby]; have : m.length * bytes ≤ (l.length + m.length) * bytes := Nat.mul_le_mul_right _ (by omega); omega)] at hrun
      injection hrun with e1 e2
      subst e1
      cases hk
      exact .inr rfl
  · by_cases hroom : l.length + m.length ≤ cp
    · rw [run_append_room (P := Try.prog) w K.sl ty K.ty i hu hi g l.length cp cur hg a m.length cap (K.all m) hml hnews (hK.all_one m) hroom (by rw [hml, hcs, ← hs, ← Nat.add_mul]; exact Nat.mul_le_mul_right _ hroom)] at hrun
      injection hrun with e1 e2
      subst e1
      exact .inl hk
    · have hlo : (K.all l).length = l.length * i.size := by rw [hs]; exact hK.all_len l
      rw [run_append_grow (P := Try.prog) w K.sl ty K.ty i z hu hi hz ⟨g, 0, none⟩ l.length cp (K.all l) hlo (World.ownsRow.cells hown (g := g) rfl) a m.length cap (K.all m) hml hnews (by omega) (by omega) (growslice_fits (by omega) (by rw [hby]; exact hn))] at hrun
      injection hrun with e1 e2
      subst e1
      cases hk
      exact .inr rfl
/-- append(v, m...), v the call's own, m any row, nil too. -/
theorem run_row_append (hK : K.Ok bytes) (w : World) (base : Nat) (v : Value) (l m : List α) (ty : Nat) (hown : OwnRow K w base v l) (ad : Option Addr) (n cap : Nat) (hr : RowAt K w ad n cap m) (hn : (l.length + n) * bytes ≤ 140737488355328) (hn2 : l.length + n ≤ 140737488355328) (hbase : base ≤ w.heap.size) :
    ∃ v' w', (Builtin.append_ #[K.sl, K.sl] ty #[v, .slice ad n cap]).run Try.prog w = .ok v' w' ∧ OwnRow K w' base v' (l ++ m) ∧ w.grownBy w' v.ownBlock ∧ (v ≠ .slice none 0 0 → v' ≠ .slice none 0 0) ∧ (∀ k, v'.ownBlock = some k → v.ownBlock = some k ∨ w.heap.size ≤ k) := by
  obtain ⟨i, z, hi, hz, hs, hby, hzs⟩ := hK.info
  obtain rfl := hr.length
  have hu := hK.und
  rcases ad with _ | ⟨b, off, x⟩
  · have hc := hr.room rfl
    have hf := hr.fits
    obtain rfl : m = [] := List.eq_nil_of_length_eq_zero (by omega)
    subst hc
    refine ⟨v, w, ?_, by rw [List.append_nil]; exact hown, ⟨rfl, rfl, rfl, Nat.le_refl _, fun _ _ _ => rfl⟩, fun h => h, fun k hk => .inl hk⟩
    exact run_append_owned_none (P := Try.prog) (w := w) base K.sl ty K.ty i K.size hu hi v _ _ hown
  · have hx : x = none ∨ m.length = 0 := by
      rcases hr.cells with h0 | ⟨_, _, e, _⟩
      · exact .inr h0
      · cases e; exact .inl rfl
    have hnews : ∀ j u, (K.all m)[j]? = some u → w.cell? ((⟨b, off, x⟩ : Addr).add j) = some u := by
      intro j u hj
      rcases hx with rfl | h0
      · exact hr.news hK j u hj
      · obtain rfl := List.eq_nil_of_length_eq_zero h0
        simp [Kind.all] at hj
    obtain ⟨v', w', hrun, h2, h3, h4⟩ := run_append_own (P := Try.prog) w base K.sl ty K.ty i z K.size bytes hu hi hz hs hby hzs hK.pos v l.length (K.all l) hown ⟨b, off, x⟩ m.length cap (K.all m) (hK.all_len m) hnews (hK.all_one m) (by unfold maxLen; omega) hn hbase
    refine ⟨v', w', hrun, ?_, h3, fun hne h => hne (h4.1 h).1, ?_⟩
    · unfold OwnRow
      rw [K.all_app, List.length_append]
      exact h2
    · intro k hk
      rcases append_block hK w w' base v v' l m ty hown _ cap hnews hn hn2 hrun k hk with h | h
      · exact .inl h
      · exact .inr (by omega)
/-- What an append leaves. -/
def Appended (K : Kind α) (w : World) (base : Nat) (v : Value) (l : List α) (v' : Value) (w' : World) : Prop :=
  OwnRow K w' base v' l ∧ w.grownBy w' v.ownBlock ∧ (v ≠ .slice none 0 0 → v' ≠ .slice none 0 0) ∧ (∀ k, v'.ownBlock = some k → v.ownBlock = some k ∨ w.heap.size ≤ k)
/-- The operation in a plain list of operations, behind a guard that says yes or with none. -/
theorem list_row {w : World} {ops : Array Oper} {rest : List Oper} {o : Oper} {a : Act} {Q : Exit → Act → World → Prop} (hw : Region.wanted o (yielded ops a.tmps) = true) (hK : K.Ok bytes) (s x : Operand)
    (ho : o.op = .call { callee := .builtin .append, args := #[s, x], argTypes := #[K.sl, K.sl] })
    (base : Nat) (l m : List α) (v : Value) (hs : a.eval s = v) (hown : OwnRow K w base v l) (hbase : base ≤ w.heap.size)
    (ad : Option Addr) (n cap : Nat) (hx : a.eval x = .slice ad n cap) (hr : RowAt K w ad n cap m) (hn : l.length + n ≤ 100000000000)
    (h : ∀ v' w', Appended K w base v (l ++ m) v' w' → wpList Try.prog ops Q rest (a.put o.dst v') w') :
    wpList Try.prog ops Q (o :: rest) a w := by
  refine BigFrame.wpList_want hw fun C hC => ?_
  have hf := hK.few
  obtain ⟨v', w', hrun, h2⟩ := run_row_append hK w base v l m o.type hown ad n cap hr (Nat.le_trans (Nat.mul_le_mul hn hf) (by omega)) (by omega) hbase
  unfold Oper.wp execOp
  simp only [ho, resolve, invoke, builtin, Sem.run_bind, Sem.run_pure, Result.andThen_ok, List.map_toArray, List.map_cons, List.map_nil, hs, hx, hrun]
  exact hC _ _ (h v' w' h2)
/-- The operation in a region that draws its order. -/
theorem held_row {w : World} {ops : Array Oper} {o : Oper} {a : Act} {C : Act → World → Prop} {Q : Exit → Act → World → Prop} {Z : Prop} [Decidable (Region.wanted o (yielded ops a.tmps) = true)] (hw : Region.wanted o (yielded ops a.tmps) = true) (hK : K.Ok bytes) (s x : Operand)
    (ho : o.op = .call { callee := .builtin .append, args := #[s, x], argTypes := #[K.sl, K.sl] })
    (base : Nat) (l m : List α) (v : Value) (hs : a.eval s = v) (hown : OwnRow K w base v l) (hbase : base ≤ w.heap.size)
    (ad : Option Addr) (n cap : Nat) (hx : a.eval x = .slice ad n cap) (hr : RowAt K w ad n cap m) (hn : l.length + n ≤ 100000000000)
    (h : ∀ v' w', Appended K w base v (l ++ m) v' w' → C (a.put o.dst v') w') :
    if Region.wanted o (yielded ops a.tmps) = true then Oper.wp Try.prog o a w C Q else Z := by
  rw [if_pos hw]
  have hf := hK.few
  obtain ⟨v', w', hrun, h2⟩ := run_row_append hK w base v l m o.type hown ad n cap hr (Nat.le_trans (Nat.mul_le_mul hn hf) (by omega)) (by omega) hbase
  unfold Oper.wp execOp
  simp only [ho, resolve, invoke, builtin, Sem.run_bind, Sem.run_pure, Result.andThen_ok, List.map_toArray, List.map_cons, List.map_nil, hs, hx, hrun]
  exact h v' w' h2
end Go.Proofs.Ytinilkkpocnnpaa
namespace Go.Proofs.Ytinilkkpocnnpaa
open Go.RowKit
open Go.SeqMath
open Go.BatMath
set_option linter.unusedVariables false

/-- A slice of records reads as l. -/
structure RecsAt (w : World) (ad : Option Addr) (len cap : Nat) (l : List Rc) : Prop where
  length : l.length = len
  fits : len ≤ cap
  room : ad = none → cap = 0
  cells : len = 0 ∨ ∃ b off, ad = some ⟨b, off, none⟩ ∧ b < w.heap.size ∧ ∀ i r, l[i]? = some r → w.cell? ⟨b, off + i * 2, none⟩ = some (.string r.key) ∧ w.cell? ⟨b, off + i * 2 + 1, none⟩ = some (.string r.val)
theorem RecsAt.keep {w w' : World} {ad : Option Addr} {len cap : Nat} {l : List Rc} (h : RecsAt w ad len cap l) (hb : Below w.heap.size w w') : RecsAt w' ad len cap l := by
  refine ⟨h.length, h.fits, h.room, ?_⟩
  rcases h.cells with h0 | ⟨b, off, e, hlt, hc⟩
  · exact .inl h0
  · refine .inr ⟨b, off, e, Nat.lt_of_lt_of_le hlt hb.size, fun i r hi => ?_⟩
    obtain ⟨h1, h2⟩ := hc i r hi
    exact ⟨(hb.cell (p := ⟨b, _, none⟩) hlt).trans h1, (hb.cell (p := ⟨b, _, none⟩) hlt).trans h2⟩
theorem recsAt_nil (w : World) : RecsAt w none 0 0 [] := ⟨rfl, Nat.le_refl _, fun _ => rfl, .inl rfl⟩
/-- A block that is one batch, field by field. -/
def BoxAt (w : World) (k : Nat) (b0 b1 b2 b3 : Int) (b4 : Bool) (b5 : Int) (v : Value) : Prop := w.heap[k]? = some (.cells #[.int .i64 b0, .int .i64 b1, .int .i64 b2, .int .i64 b3, .bool b4, .int .i64 b5, v] 33 (0, 0))
section
variable {w : World} {k : Nat} {b0 b1 b2 b3 : Int} {b4 : Bool} {b5 : Int} {v : Value}
theorem BoxAt.c0 (h : BoxAt w k b0 b1 b2 b3 b4 b5 v) : w.cell? ⟨k, 0, none⟩ = some (.int .i64 b0) := by rw [cell_of_row _ _ 0 _ _ _ h]; rfl
theorem BoxAt.c1 (h : BoxAt w k b0 b1 b2 b3 b4 b5 v) : w.cell? ⟨k, 1, none⟩ = some (.int .i64 b1) := by rw [cell_of_row _ _ 1 _ _ _ h]; rfl
theorem BoxAt.c2 (h : BoxAt w k b0 b1 b2 b3 b4 b5 v) : w.cell? ⟨k, 2, none⟩ = some (.int .i64 b2) := by rw [cell_of_row _ _ 2 _ _ _ h]; rfl
theorem BoxAt.c3 (h : BoxAt w k b0 b1 b2 b3 b4 b5 v) : w.cell? ⟨k, 3, none⟩ = some (.int .i64 b3) := by rw [cell_of_row _ _ 3 _ _ _ h]; rfl
theorem BoxAt.c4 (h : BoxAt w k b0 b1 b2 b3 b4 b5 v) : w.cell? ⟨k, 4, none⟩ = some (.bool b4) := by rw [cell_of_row _ _ 4 _ _ _ h]; rfl
theorem BoxAt.c5 (h : BoxAt w k b0 b1 b2 b3 b4 b5 v) : w.cell? ⟨k, 5, none⟩ = some (.int .i64 b5) := by rw [cell_of_row _ _ 5 _ _ _ h]; rfl
theorem BoxAt.c6 (h : BoxAt w k b0 b1 b2 b3 b4 b5 v) : w.cell? ⟨k, 6, none⟩ = some v := by rw [cell_of_row _ _ 6 _ _ _ h]; rfl
theorem BoxAt.free (h : BoxAt w k b0 b1 b2 b3 b4 b5 v) (j : Nat) : w.frozen? ⟨k, j, none⟩ = false := frozen_of_row w k j _ _ h
theorem BoxAt.lt (h : BoxAt w k b0 b1 b2 b3 b4 b5 v) : k < w.heap.size := lt_of_block h
theorem BoxAt.keep {w' : World} {B : Nat} (h : BoxAt w k b0 b1 b2 b3 b4 b5 v) (hb : Below B w w') (hk : k < B) : BoxAt w' k b0 b1 b2 b3 b4 b5 v := by
  unfold BoxAt at *
  rw [hb.block k hk]
  exact h
theorem BoxAt.on {w' : World} (h : BoxAt w k b0 b1 b2 b3 b4 b5 v) (hb : Below w.heap.size w w') : BoxAt w' k b0 b1 b2 b3 b4 b5 v := h.keep hb h.lt
theorem boxAt_new (w : World) (b0 b1 b2 b3 : Int) (b4 : Bool) (b5 : Int) (v : Value) : BoxAt (w.alloc (.cells #[.int .i64 b0, .int .i64 b1, .int .i64 b2, .int .i64 b3, .bool b4, .int .i64 b5, v] 33)) w.heap.size b0 b1 b2 b3 b4 b5 v := heap_alloc_new w _
end
end Go.Proofs.Ytinilkkpocnnpaa
namespace Go.Proofs.Ytinilkkpocnnpaa
open Go.RowKit
open Go.SeqMath
open Go.BatMath
set_option linter.unusedVariables false

/- rightE, shape by shape -/
def Says (n : Int) (w : World) (e : Ending) (w' : World) : Prop := e = .returned (.int .i64 n) ∧ Below w.heap.size w w'
theorem says_mk {n m : Int} {w w' : World} (h : m = n) (hb : Below w.heap.size w w') : Says n w (.returned (.int .i64 m)) w' := ⟨by rw [h], hb⟩
end Go.Proofs.Ytinilkkpocnnpaa
namespace Go.Proofs.Ytinilkkpocnnpaa
open Go.RowKit
open Go.VarMath hiding AllB
set_option linter.unusedVariables false

def In64 (n : Int) : Prop := -9223372036854775808 ≤ n ∧ n ≤ 9223372036854775807
/-- A slice of int64 whose first len numbers are zs. -/
structure Nums (w : World) (ad : Option Addr) (len : Nat) (zs : List Int) : Prop where
  length : zs.length = len
  all : ∀ n ∈ zs, In64 n
  cells : len = 0 ∨ ∃ b off, ad = some ⟨b, off, none⟩ ∧ ∀ i, i < len → w.cell? ⟨b, off + i, none⟩ = some (.int .i64 (zs.getD i 0))
theorem Nums.keep {w w' : World} {ad : Option Addr} {len : Nat} {zs : List Int} (h : Nums w ad len zs) {B : Nat} (hb : Below B w w') (hB : w.heap.size ≤ B) : Nums w' ad len zs := by
  refine ⟨h.length, h.all, ?_⟩
  rcases h.cells with h0 | ⟨b, off, e, hc⟩
  · exact .inl h0
  · refine .inr ⟨b, off, e, fun i hi => ?_⟩
    have := hc i hi
    rw [hb.cell (p := ⟨b, off + i, none⟩) (by have := World.block_lt_of_cell? w _ this; exact Nat.lt_of_lt_of_le this hB)]
    exact this
theorem IsRow.nums {w : World} {a : Option Addr} {len cap : Nat} {zs : List Int} (h : IsRow .i64 w a len cap zs) : Nums w a len (zs.take len) ∧ len ≤ cap := by
  rcases h with ⟨rfl, rfl, rfl, rfl⟩ | ⟨x, rfl, hl, hm, hz, hc, hw⟩
  · exact ⟨⟨rfl, (fun x hx => by cases hx), .inl rfl⟩, Nat.le_refl _⟩
  · refine ⟨⟨by rw [List.length_take]; omega, ?_, ?_⟩, hl⟩
    · intro n hn
      have := bounds_i64 (hw n (List.mem_of_mem_take hn))
      exact ⟨by omega, by omega⟩
    · by_cases h0 : len = 0
      · exact .inl h0
      · obtain ⟨b, off, spot⟩ := x
        have h1 := hc 0 (by omega)
        have hs : spot = none := by simpa [Addr.add] using World.cell?_spot h1
        subst hs
        refine .inr ⟨b, off, rfl, fun i hi => ?_⟩
        have h2 := hc i (by omega)
        rw [add_at] at h2
        rw [h2]
        have e : (zs.take len).getD i 0 = zs.getD i 0 := by rw [List.getD_eq_getElem?_getD, List.getElem?_take, if_pos hi, ← List.getD_eq_getElem?_getD]
        rw [e]
end Go.Proofs.Ytinilkkpocnnpaa
namespace Go.Proofs.Ytinilkkpocnnpaa
open Go.RowKit
set_option linter.unusedVariables false

section
variable {w w' w1 w2 : World} {kt k : Nat}
theorem grow_refl (w : World) (r : Option Nat) : w.grownBy w r := ⟨rfl, rfl, rfl, Nat.le_refl _, fun _ _ _ => rfl⟩
theorem grow_trans {r : Option Nat} (h : w.grownBy w1 r) (h2 : w1.grownBy w2 r) : w.grownBy w2 r :=
  ⟨h2.os.trans h.os, h2.tape.trans h.tape, h2.output.trans h.output, Nat.le_trans h.size h2.size, fun k hk hn => (h2.block k (Nat.lt_of_lt_of_le hk h.size) hn).trans (h.block k hk hn)⟩
theorem grow_set (h : w.grownBy w1 (some kt)) (j : Nat) (u : Value) : w.grownBy (w1.setCell ⟨kt, j, none⟩ u) (some kt) :=
  grow_trans h ⟨rfl, rfl, rfl, by simp, fun k hk hn => by
    show (w1.heap.modify kt _)[k]? = _
    rw [Array.getElem?_modify, if_neg (fun e => hn (by rw [e]))]⟩
theorem grow_new {w w1 : World} {kt k j : Nat} (h : w.grownBy w1 (some kt)) (hk : w.heap.size ≤ k) (u : Value) : w.grownBy (w1.setCell ⟨k, j, none⟩ u) (some kt) :=
  ⟨h.os, h.tape, h.output, by simpa using h.size, fun i hi hn => by
    show (w1.heap.modify k _)[i]? = _
    rw [Array.getElem?_modify, if_neg (by omega)]
    exact h.block i hi hn⟩
theorem box_set {cs : Array Value} {t : TypeId} (h : w.heap[k]? = some (.cells cs t (0, 0))) (j : Nat) (u : Value) : (w.setCell ⟨k, j, none⟩ u).heap[k]? = some (.cells (cs.setIfInBounds j u) t (0, 0)) := by
  have hlt := lt_of_block h
  have h' : w.heap[k] = .cells cs t (0, 0) := by simpa [Array.getElem?_eq_getElem hlt] using h
  show (w.heap.modify k _)[k]? = _
  rw [Array.getElem?_eq_getElem (by simpa using hlt), Array.getElem_modify_self, h']
  rfl
theorem box_off {o : Obj} (h : w.heap[k]? = some o) {j i : Nat} (hj : j ≠ k) (u : Value) : (w.setCell ⟨j, i, none⟩ u).heap[k]? = some o := by
  rw [← h]
  show (w.heap.modify j _)[k]? = _
  rw [Array.getElem?_modify, if_neg hj]
end
theorem size_set (w : World) (a : Addr) (u : Value) : (w.setCell a u).heap.size = w.heap.size := by simp
theorem results_cell_one {fn : Func} {p : Tmp} {ty : TypeId} (h : fn.results = #[.cell p ty]) (tmps : Array Value) (P : Program) (w : World) :
    (results fn tmps).run P w = ((asAddr (tmps.getD p undef)).run P w).andThen fun a w₁ => (loadVar ty a).run P w₁ := by
  simp only [results, h]
  simp [Sem.run_bind, Result.andThen]
end Go.Proofs.Ytinilkkpocnnpaa
namespace Go.Proofs.Ytinilkkpocnnpaa
open Go.RowKit
open Go.BatMath hiding AllB getD_lt take_all

set_option linter.unusedVariables false

section
variable {w : World} {k : Nat} {b0 b1 b2 b3 : Int} {b4 : Bool} {b5 : Int} {v : Value}
theorem BoxAt.s0 (h : BoxAt w k b0 b1 b2 b3 b4 b5 v) (n : Int) : BoxAt (w.setCell ⟨k, 0, none⟩ (.int .i64 n)) k n b1 b2 b3 b4 b5 v := box_set h 0 _
theorem BoxAt.s1 (h : BoxAt w k b0 b1 b2 b3 b4 b5 v) (n : Int) : BoxAt (w.setCell ⟨k, 1, none⟩ (.int .i64 n)) k b0 n b2 b3 b4 b5 v := box_set h 1 _
theorem BoxAt.s2 (h : BoxAt w k b0 b1 b2 b3 b4 b5 v) (n : Int) : BoxAt (w.setCell ⟨k, 2, none⟩ (.int .i64 n)) k b0 b1 n b3 b4 b5 v := box_set h 2 _
theorem BoxAt.s3 (h : BoxAt w k b0 b1 b2 b3 b4 b5 v) (n : Int) : BoxAt (w.setCell ⟨k, 3, none⟩ (.int .i64 n)) k b0 b1 b2 n b4 b5 v := box_set h 3 _
theorem BoxAt.s4 (h : BoxAt w k b0 b1 b2 b3 b4 b5 v) (n : Bool) : BoxAt (w.setCell ⟨k, 4, none⟩ (.bool n)) k b0 b1 b2 b3 n b5 v := box_set h 4 _
theorem BoxAt.off (h : BoxAt w k b0 b1 b2 b3 b4 b5 v) {j i : Nat} (hj : j ≠ k) (u : Value) : BoxAt (w.setCell ⟨j, i, none⟩ u) k b0 b1 b2 b3 b4 b5 v := box_off h hj u
theorem BoxAt.drew (h : BoxAt w k b0 b1 b2 b3 b4 b5 v) : BoxAt w.drew k b0 b1 b2 b3 b4 b5 v := h
end
theorem Byt.get {w : World} {ad : Option Addr} {len cap : Nat} {bs : List Nat} (h : Byt w ad len cap bs) (hp : 0 < len) : ∃ b off, ad = some ⟨b, off, none⟩ ∧ ∀ i, i < len → w.cell? ⟨b, off + i, none⟩ = some (.int .u8 (bs.getD i 0 : Nat)) := by
  rcases h.cells with h0 | h1
  · omega
  · exact h1
end Go.Proofs.Ytinilkkpocnnpaa
namespace Go.Proofs.Ytinilkkpocnnpaa
open Go.RowKit
open Go.BatMath hiding AllB getD_lt take_all
set_option linter.unusedVariables false

def recVals (l : List Rc) : List Value := l.flatMap fun r => [.string r.key, .string r.val]
theorem recVals_at : ∀ (l : List Rc) (i : Nat) (r : Rc), l[i]? = some r → (recVals l)[i * 2]? = some (.string r.key) ∧ (recVals l)[i * 2 + 1]? = some (.string r.val)
  | [], i, r, h => by cases h
  | x :: l, 0, r, h => by
    cases h
    exact ⟨rfl, rfl⟩
  | x :: l, i + 1, r, h => by
    have ih := recVals_at l i r h
    have e : recVals (x :: l) = .string x.key :: .string x.val :: recVals l := rfl
    rw [e, show (i + 1) * 2 = i * 2 + 1 + 1 by omega]
    exact ih
def OwnRecs (w : World) (base : Nat) (v : Value) (l : List Rc) : Prop := w.ownsRow base 48 2 v l.length (recVals l)
theorem OwnRecs.on {w w' : World} {base : Nat} {v : Value} {l : List Rc} (h : OwnRecs w base v l) (hb : Below w.heap.size w w') : OwnRecs w' base v l := by
  refine ⟨h.1, ?_⟩
  rcases h.2 with hn | ⟨g, cap, cur, rfl, hbg, hh, r⟩
  · exact .inl hn
  · exact .inr ⟨g, cap, cur, rfl, hbg, (hb.block g (lt_of_block hh)).trans hh, r⟩
/-- A cell of a block below the row is written. -/
theorem OwnRecs.set {w : World} {base k j : Nat} {u v : Value} {l : List Rc} (h : OwnRecs w base v l) (hk : k < base) : OwnRecs (w.setCell ⟨k, j, none⟩ u) base v l := by
  refine ⟨h.1, ?_⟩
  rcases h.2 with hn | ⟨g, cap, cur, rfl, hbg, hh, r⟩
  · exact .inl hn
  · exact .inr ⟨g, cap, cur, rfl, hbg, box_off hh (by omega) u, r⟩
theorem OwnRecs.at {w : World} {base : Nat} {v : Value} {l : List Rc} (h : OwnRecs w base v l) : ∃ ad cap, v = .slice ad l.length cap ∧ RecsAt w ad l.length cap l ∧ (∀ a, ad = some a → base ≤ a.block) := by
  rcases h.2 with ⟨hn, h0⟩ | ⟨g, cap, cur, rfl, hbg, hh, hc, _, _, ht⟩
  · have hl := List.eq_nil_of_length_eq_zero h0
    subst hl
    exact ⟨none, 0, hn, recsAt_nil w, fun a h => by cases h⟩
  · refine ⟨_, _, rfl, ⟨rfl, hc, (fun h => by cases h), .inr ⟨g, 0, rfl, lt_of_block hh, fun i r hi => ?_⟩⟩, fun a h => by cases h; exact hbg⟩
    have hil : i < l.length := (List.getElem?_eq_some_iff.1 hi).1
    obtain ⟨h1, h2⟩ := recVals_at l i r hi
    rw [← ht, List.getElem?_take, if_pos (by omega)] at h1 h2
    rw [Nat.zero_add]
    refine ⟨?_, ?_⟩
    · rw [cell_of_row w g _ _ _ _ hh]; simpa using h1
    · rw [cell_of_row w g _ _ _ _ hh]; simpa using h2
theorem infoRec : (Try.prog.info? 48).map (fun i => (i.zero, i.size, i.bytes)) = some (some (.agg #[.string ⟨#[]⟩, .string ⟨#[]⟩]), 2, 32) := by kernel_rfl
theorem BoxAt.grown {w w' : World} {k base : Nat} {b0 b1 b2 b3 : Int} {b4 : Bool} {b5 : Int} {u v : Value} {l : List Rc} (h : BoxAt w k b0 b1 b2 b3 b4 b5 u) (ho : OwnRecs w base v l) (hk : k < base) (hg : w.grownBy w' v.ownBlock) : BoxAt w' k b0 b1 b2 b3 b4 b5 u := by
  unfold BoxAt at *
  rw [hg.block k (lt_of_block h) (fun e => by have := (ho.lt k e.symm).1; omega)]
  exact h
theorem Below.recs {w0 w w' : World} {base B : Nat} {v : Value} {l : List Rc} (h : Below B w0 w) (ho : OwnRecs w base v l) (hB : B ≤ base) (hs : B ≤ w.heap.size) (hg : w.grownBy w' v.ownBlock) : Below B w0 w' :=
  h.grown hg hs (fun k hk => by have := (ho.lt k hk).1; omega)
/-- A cell of another block than the records' is written. -/
theorem RecsAt.put {w : World} {base j len cap : Nat} {ad : Option Addr} {l : List Rc} {u : Value} (h : RecsAt w ad len cap l) (hb : ∀ a, ad = some a → base < a.block) : RecsAt (w.setCell ⟨base, j, none⟩ u) ad len cap l := by
  refine ⟨h.length, h.fits, h.room, ?_⟩
  rcases h.cells with h0 | ⟨b, off, e, hlt, hc⟩
  · exact .inl h0
  · have hne : b ≠ base := by have := hb _ e; simp only at this; omega
    have hx : ∀ i, (w.setCell ⟨base, j, none⟩ u).cell? ⟨b, i, none⟩ = w.cell? ⟨b, i, none⟩ := fun i => World.cell?_of_block (a := ⟨b, i, none⟩) (by
      show (w.heap.modify base _)[b]? = _
      rw [Array.getElem?_modify, if_neg (Ne.symm hne)])
    refine .inr ⟨b, off, e, by simpa using hlt, fun i r hi => ?_⟩
    rw [hx, hx]
    exact hc i r hi
end Go.Proofs.Ytinilkkpocnnpaa
namespace Go.Proofs.Ytinilkkpocnnpaa
open Go.RowKit
open Go.SeqMath
open Go.BatMath hiding AllB getD_lt take_all
set_option linter.unusedVariables false

theorem RowAt.set {α : Type} {K : Kind α} {w : World} {k j len cap : Nat} {ad : Option Addr} {l : List α} {u : Value} (h : RowAt K w ad len cap l) (hb : len = 0 ∨ ∀ a, ad = some a → a.block ≠ k) : RowAt K (w.setCell ⟨k, j, none⟩ u) ad len cap l := by
  refine ⟨h.length, h.fits, h.room, ?_⟩
  rcases h.cells with h0 | ⟨b, off, e, hlt, hc⟩
  · exact .inl h0
  · rcases hb with h0 | hb
    · exact .inl h0
    have hne : b ≠ k := hb _ e
    refine .inr ⟨b, off, e, by simpa using hlt, fun i x hi m v hm => ?_⟩
    rw [World.cell?_of_block (a := ⟨b, off + (i * K.size + m), none⟩) (w := w) (by
      show (w.heap.modify k _)[b]? = _
      rw [Array.getElem?_modify, if_neg (Ne.symm hne)])]
    exact hc i x hi m v hm
def recK : Kind Rc := ⟨fun r => [.string r.key, .string r.val], 2, 48, 31⟩
theorem recK_ok : recK.Ok 32 where
  und := Try.underlying31
  info := by
    obtain ⟨i, hi, hz, hs, hb⟩ := info_parts infoRec
    exact ⟨i, _, hi, hz, hs, hb, rfl⟩
  len := fun _ => rfl
  pos := by decide
  one := fun r u hu => by
    simp only [recK, List.mem_cons, List.not_mem_nil, or_false] at hu
    rcases hu with rfl | rfl <;> rfl
  few := by decide
theorem recsAt_row {w : World} {ad : Option Addr} {len cap : Nat} {l : List Rc} : RecsAt w ad len cap l ↔ RowAt recK w ad len cap l := by
  constructor
  · intro h
    refine ⟨h.length, h.fits, h.room, ?_⟩
    rcases h.cells with h0 | ⟨b, off, e, hlt, hc⟩
    · exact .inl h0
    · refine .inr ⟨b, off, e, hlt, fun i x hi j u hj => ?_⟩
      obtain ⟨h1, h2⟩ := hc i x hi
      rcases j with _ | _ | j
      · cases hj; exact h1
      · cases hj; exact h2
      · simp [recK] at hj
  · intro h
    refine ⟨h.length, h.fits, h.room, ?_⟩
    rcases h.cells with h0 | ⟨b, off, e, hlt, hc⟩
    · exact .inl h0
    · exact .inr ⟨b, off, e, hlt, fun i x hi => ⟨hc i x hi 0 _ rfl, hc i x hi 1 _ rfl⟩⟩
end Go.Proofs.Ytinilkkpocnnpaa
namespace Go.Proofs.Ytinilkkpocnnpaa
open Go.RowKit
open Go.SeqMath
open Go.BatMath
set_option linter.unusedVariables false

theorem bel_drewN {B : Nat} {a w : World} (h : Below B a w) (n : Nat) : Below B a (w.drewN n) := h.trans ⟨rfl, rfl, rfl, Nat.le_refl _, fun _ _ => rfl⟩
theorem RecsAt.at {w W : World} {ad : Option Addr} {len cap : Nat} {l : List Rc} (h : RecsAt w ad len cap l) (hb : Below w.heap.size w W) (j : Nat) (hj : j < len) :
    ∃ bk off r, ad = some ⟨bk, off, none⟩ ∧ bk < w.heap.size ∧ l[j]? = some r ∧ W.cell? ⟨bk, off + j * 2, none⟩ = some (.string r.key) ∧ W.cell? ⟨bk, off + j * 2 + 1, none⟩ = some (.string r.val) := by
  have hl := h.length
  have hjl : j < l.length := by omega
  rcases h.cells with h0 | ⟨bk, off, e, hlt, hc⟩
  · omega
  · have hi : l[j]? = some (l[j]'hjl) := List.getElem?_eq_getElem hjl
    obtain ⟨h1, h2⟩ := hc j _ hi
    exact ⟨bk, off, _, e, hlt, hi, (hb.cell (p := ⟨bk, _, none⟩) hlt).trans h1, (hb.cell (p := ⟨bk, _, none⟩) hlt).trans h2⟩
end Go.Proofs.Ytinilkkpocnnpaa
namespace Go.Proofs.Ytinilkkpocnnpaa
open Go.RowKit
open Go.SeqMath
open Go.BatMath hiding AllB getD_lt take_all
open Go.VarMath (longB textB)
set_option linter.unusedVariables false

/-- The two boxes of the walk: the batch that is being read, and the result that is none yet. -/
structure Two (w : World) (p e s : Int) (t : Bool) (m : Int) (v : Value) (W : World) : Prop where
  bx : BoxAt W (w.heap.size + 1) 0 p e s t m v
  rs : BoxAt W w.heap.size 0 0 0 0 false 0 (.slice none 0 0)
  bel : Below w.heap.size w W
theorem Two.sz {w W : World} {p e s : Int} {t : Bool} {m : Int} {v : Value} (h : Two w p e s t m v W) : w.heap.size + 1 + 1 ≤ W.heap.size := h.bx.lt
theorem Two.drew {w W : World} {p e s : Int} {t : Bool} {m : Int} {v : Value} (h : Two w p e s t m v W) : Two w p e s t m v W.drew := ⟨h.bx, h.rs, h.bel.drew⟩
theorem Two.s1 {w W : World} {p e s : Int} {t : Bool} {m : Int} {v : Value} (h : Two w p e s t m v W) (n : Int) : Two w n e s t m v (W.setCell ⟨w.heap.size + 1, 1, none⟩ (.int .i64 n)) := ⟨h.bx.s1 n, h.rs.off (by omega) _, h.bel.setCell (Nat.le_succ _) _⟩
theorem Two.s2 {w W : World} {p e s : Int} {t : Bool} {m : Int} {v : Value} (h : Two w p e s t m v W) (n : Int) : Two w p n s t m v (W.setCell ⟨w.heap.size + 1, 2, none⟩ (.int .i64 n)) := ⟨h.bx.s2 n, h.rs.off (by omega) _, h.bel.setCell (Nat.le_succ _) _⟩
theorem Two.s3 {w W : World} {p e s : Int} {t : Bool} {m : Int} {v : Value} (h : Two w p e s t m v W) (n : Int) : Two w p e n t m v (W.setCell ⟨w.heap.size + 1, 3, none⟩ (.int .i64 n)) := ⟨h.bx.s3 n, h.rs.off (by omega) _, h.bel.setCell (Nat.le_succ _) _⟩
theorem Two.on {w W W' : World} {p e s : Int} {t : Bool} {m : Int} {v : Value} (h : Two w p e s t m v W) (hb : Below W.heap.size W W') : Two w p e s t m v W' := ⟨h.bx.on hb, h.rs.on hb, h.bel.trans (hb.mono h.bel.size)⟩
theorem Two.grown {w W W' : World} {p e s : Int} {t : Bool} {m : Int} {u v : Value} {l : List Rc} (h : Two w p e s t m u W) (ho : OwnRecs W (w.heap.size + 1 + 1) v l) (hg : W.grownBy W' v.ownBlock) : Two w p e s t m u W' :=
  ⟨h.bx.grown ho (by omega) hg, h.rs.grown ho (by omega) hg, Below.recs h.bel ho (by omega) h.bel.size hg⟩
/-- A cell of a block below the records' is written. -/
theorem RecsAt.set {w : World} {base j len cap : Nat} {ad : Option Addr} {l : List Rc} {u : Value} (h : RecsAt w ad len cap l) (hb : ∀ a, ad = some a → base + 1 + 1 ≤ a.block) : RecsAt (w.setCell ⟨base, j, none⟩ u) ad len cap l := by
  refine ⟨h.length, h.fits, h.room, ?_⟩
  rcases h.cells with h0 | ⟨b, off, e, hlt, hc⟩
  · exact .inl h0
  · have hne : b ≠ base := by have := hb _ e; simp only at this; omega
    have hx : ∀ i, (w.setCell ⟨base, j, none⟩ u).cell? ⟨b, i, none⟩ = w.cell? ⟨b, i, none⟩ := fun i => World.cell?_of_block (a := ⟨b, i, none⟩) (by
      show (w.heap.modify base _)[b]? = _
      rw [Array.getElem?_modify, if_neg (Ne.symm hne)])
    refine .inr ⟨b, off, e, by simpa using hlt, fun i r hi => ?_⟩
    rw [hx, hx]
    exact hc i r hi
end Go.Proofs.Ytinilkkpocnnpaa
namespace Go.Proofs.Ytinilkkpocnnpaa
open Go.RowKit
open Go.CrcMath hiding AllB
set_option linter.unusedVariables false

theorem Byt.four {w : World} {ad : Option Addr} {len cap : Nat} {bs : List Nat} (h : Byt w ad len cap bs) (h4 : 4 ≤ len) :
    ∃ b off x0 x1 x2 x3 r, ad = some ⟨b, off, none⟩ ∧ bs = x0 :: x1 :: x2 :: x3 :: r ∧ x0 < 256 ∧ x1 < 256 ∧ x2 < 256 ∧ x3 < 256 ∧ r.length = len - 4 ∧
      w.cell? ⟨b, off, none⟩ = some (.int .u8 x0) ∧ w.cell? ⟨b, off + 1, none⟩ = some (.int .u8 x1) ∧ w.cell? ⟨b, off + 2, none⟩ = some (.int .u8 x2) ∧ w.cell? ⟨b, off + 3, none⟩ = some (.int .u8 x3) ∧
      Byt w (some ⟨b, if cap = 4 then off else off + 4, none⟩) (len - 4) (cap - 4) r := by
  have hl := h.length
  have hf := h.fits
  obtain ⟨x0, x1, x2, x3, r, rfl⟩ := four_of (bs := bs) (by omega)
  simp only [List.length_cons] at hl
  rcases h.cells with h0 | ⟨b, off, rfl, hc⟩
  · omega
  have ha := h.all
  refine ⟨b, off, x0, x1, x2, x3, r, rfl, rfl, ha _ (by simp), ha _ (by simp), ha _ (by simp), ha _ (by simp), by omega, ?_, ?_, ?_, ?_, ?_⟩
  · simpa using hc 0 (by omega)
  · simpa using hc 1 (by omega)
  · simpa using hc 2 (by omega)
  · simpa using hc 3 (by omega)
  · refine ⟨by omega, by omega, fun x hx => ha x (by simp [hx]), ?_⟩
    by_cases h5 : len - 4 = 0
    · exact .inl h5
    · refine .inr ⟨b, off + 4, by rw [if_neg (by omega)], fun i hi => ?_⟩
      have := hc (4 + i) (by omega)
      rw [Nat.add_assoc, this]
      rw [Nat.add_comm 4 i]
      rfl
end Go.Proofs.Ytinilkkpocnnpaa
namespace Go.Proofs.Ytinilkkpocnnpaa
open Go.RowKit
open Go.SeqMath
set_option linter.unusedVariables false

theorem seq_ret {a b : Int} (h : a = b) : Ending.returned (.int .i64 a) = .returned (.int .i64 b) := by rw [h]
theorem seq_right (n : Int) (w : World) (r : Bool) (hr : rightB n = r) :
    Calls Try.prog 69 #[.int .i64 n] w fun e w' => e = .returned (.bool r) ∧ w = w' := by
  subst hr
  by_cases h0 : 0 ≤ n
  · by_cases h1 : n ≤ 2147483647
    · rw [right_yes h0 h1]
      go_enter Try.func69, Try.ntmps69
      go_wp2
      go_ret
      exact ⟨rfl, rfl⟩
    · have h1' : 2147483647 < n := by omega
      rw [right_no (.inr h1')]
      go_enter Try.func69, Try.ntmps69
      go_wp2
      go_ret
      exact ⟨rfl, rfl⟩
  · have h0' : n < 0 := by omega
    rw [right_no (.inl h0')]
    go_enter Try.func69, Try.ntmps69
    go_wp2
    go_ret
    exact ⟨rfl, rfl⟩
end Go.Proofs.Ytinilkkpocnnpaa
