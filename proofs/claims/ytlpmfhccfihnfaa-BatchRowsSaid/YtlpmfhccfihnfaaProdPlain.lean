/- Plain mathematics of chapters 10 and 14, as the document's own answer has them: what is known of a producer, which batch is taken, what is known behind one, tables, what was aborted; rows that a partition may have. No condition on any program. Plain mathematics of a log without files, as the document's own answer has it: what put, Produce, Mark make of a row. No condition on any program. -/
import Derived.Test.YtlpmfhccfihnfaaBatMath
/-! Plain mathematics of chapters 10 and 14, as the document's own answer has them: what is known of a producer, which batch is taken, what is known behind one, tables, what was aborted; rows that a partition may have. No condition on any program. -/
namespace Go.ProdMath
open Go.SeqMath
open Go.BatMath
set_option linter.unusedVariables false

structure Tr where
  f : Int
  l : Int
  b : Int
structure Pd where
  id : Int
  epoch : Int
  last : List Tr
  opn : Int
def Pd.zero : Pd := ⟨0, 0, [], 0⟩
structure Dr where
  prod : Int
  first : Int
  last : Int
def Dr.zero : Dr := ⟨0, 0, 0⟩
/-- This element is the batch of these numbers. -/
def hitB (x : Tr) (s : Int) (n : Nat) : Bool := decide (x.f = s) && decide (x.l = lastI s n)
def dupL (l : List Tr) (s : Int) (n : Nat) : Option Int := (l.find? fun x => hitB x s n).map (·.b)
def dupD (p : Pd) (b : Bat) : Option Int := if b.epoch = p.epoch ∧ b.marker = 0 then dupL p.last b.seq b.recs.length else none
theorem dup_none (s : Int) (n : Nat) : dupL [] s n = none := rfl
theorem dup_hit {x : Tr} {l : List Tr} {s : Int} {n : Nat} (h : hitB x s n = true) : dupL (x :: l) s n = some x.b := by simp [dupL, h]
theorem dup_miss {x : Tr} {l : List Tr} {s : Int} {n : Nat} (h : hitB x s n = false) : dupL (x :: l) s n = dupL l s n := by simp [dupL, h]
def lastSeq (l : List Tr) : Int := match l.getLast? with | some x => x.l | none => 0
def checkD (p : Pd) (known : Bool) (b : Bat) : Int × Int :=
  if b.marker ≠ 0 then
    if known = false then (-1, 16) else if b.epoch < p.epoch then (-1, 14) else if p.opn < 0 then (-1, 16) else (-1, 0)
  else if known = false then (-1, 0)
  else if b.epoch < p.epoch then (-1, 14)
  else if p.epoch < b.epoch then
    if 0 ≤ p.opn then (-1, 16) else if b.seq ≠ 0 then (-1, 15) else (-1, 0)
  else match dupL p.last b.seq b.recs.length with
    | some n => (n, 0)
    | none =>
      if p.last ≠ [] ∧ followsB (lastSeq p.last) b.seq = false then (-1, 15)
      else if 0 ≤ p.opn ∧ b.txn = false then (-1, 16) else (-1, 0)
def oldLast (p : Pd) (known : Bool) (b : Bat) : List Tr := if known = true ∧ p.epoch = b.epoch then p.last else []
def oldOpen (p : Pd) (known : Bool) : Int := if known = true then p.opn else -1
def newLast (l : List Tr) (x : Tr) : List Tr := (l ++ [x]).drop (l.length + 1 - 5)
def applyD (p : Pd) (known : Bool) (b : Bat) : Pd :=
  if b.marker ≠ 0 then ⟨b.prod, b.epoch, oldLast p known b, -1⟩
  else ⟨b.prod, b.epoch, newLast (oldLast p known b) ⟨b.seq, lastI b.seq b.recs.length, b.base⟩, if b.txn = true ∧ oldOpen p known < 0 then b.base else oldOpen p known⟩
/-! tables -/
def atD : List Pd → Int → Nat
  | [], _ => 0
  | p :: l, id => if p.id < id then atD l id + 1 else 0
theorem atD_le : ∀ (l : List Pd) (id : Int), atD l id ≤ l.length
  | [], _ => Nat.le_refl _
  | p :: l, id => by
    unfold atD
    split
    · have := atD_le l id; simp; omega
    · exact Nat.zero_le _
theorem atD_step : ∀ (l : List Pd) (id : Int) (i : Nat) (p : Pd), i ≤ atD l id → l[i]? = some p → (p.id < id ↔ i + 1 ≤ atD l id)
  | q :: l, id, 0, p, _, h => by
    cases h
    unfold atD
    split <;> simp_all
  | q :: l, id, i + 1, p, hi, h => by
    unfold atD at hi ⊢
    split at hi
    · rename_i hq
      rw [if_pos hq]
      have := atD_step l id i p (by omega) h
      omega
    · omega
  | [], id, i, p, _, h => by cases h
def hasD (l : List Pd) (id : Int) : Bool := match l[atD l id]? with | some p => decide (p.id = id) | none => false
def getD (l : List Pd) (id : Int) : Pd := if hasD l id = true then (match l[atD l id]? with | some p => p | none => Pd.zero) else Pd.zero
noncomputable def tcheckD (l : List Pd) (b : Bat) : Int × Int :=
  if rightE b ≠ 0 then (-1, rightE b) else if b.prod < 0 then (-1, 0) else checkD (getD l b.prod) (hasD l b.prod) b
noncomputable def tapplyD (l : List Pd) (b : Bat) : List Pd :=
  if rightE b ≠ 0 ∨ b.prod < 0 then l
  else if hasD l b.prod = true then l.set (atD l b.prod) (applyD (getD l b.prod) true b)
  else l.take (atD l b.prod) ++ applyD Pd.zero false b :: l.drop (atD l b.prod)
def dropsB (l : List Pd) (b : Bat) : Bool := hasD l b.prod && (decide (b.marker = 2) && decide (0 ≤ (getD l b.prod).opn))
noncomputable def tdropD (l : List Pd) (b : Bat) : Option Dr :=
  if rightE b ≠ 0 ∨ b.prod < 0 then none
  else if dropsB l b = true then some ⟨b.prod, (getD l b.prod).opn, b.base⟩ else none
noncomputable def foldP : List Pd → List Bat → List Pd
  | l, [] => l
  | l, b :: bs => foldP (tapplyD l b) bs
noncomputable def foldR : List Pd → List Bat → List Dr
  | _, [] => []
  | l, b :: bs => (tdropD l b).toList ++ foldR (tapplyD l b) bs
theorem foldP_snoc : ∀ (l : List Pd) (bs : List Bat) (b : Bat), foldP l (bs ++ [b]) = tapplyD (foldP l bs) b
  | l, [], b => rfl
  | l, a :: bs, b => foldP_snoc (tapplyD l a) bs b
theorem foldR_snoc : ∀ (l : List Pd) (bs : List Bat) (b : Bat), foldR l (bs ++ [b]) = foldR l bs ++ (tdropD (foldP l bs) b).toList
  | l, [], b => by simp [foldR, foldP]
  | l, a :: bs, b => by
    show (tdropD l a).toList ++ foldR (tapplyD l a) (bs ++ [b]) = _
    rw [foldR_snoc (tapplyD l a) bs b, ← List.append_assoc]; rfl
/-! rows -/
def countD (b : Bat) : Int := if b.marker ≠ 0 then 1 else (b.recs.length : Int)
def endD (start : Int) (l : List Bat) : Int := match l.getLast? with | some b => b.base + countD b | none => start
noncomputable def bytesD : List Bat → Int
  | [] => 0
  | b :: l => sizeB b + bytesD l
/-- Its lengths are such that nothing is too long. -/
def fewP (l : List Pd) : Prop := ∀ p ∈ l, p.last.length ≤ 5
theorem newLast_few (l : List Tr) (x : Tr) : (newLast l x).length ≤ 5 := by unfold newLast; rw [List.length_drop, List.length_append]; simp; omega
theorem newLast_len (l : List Tr) (x : Tr) : (newLast l x).length = l.length + 1 - (l.length + 1 - 5) := by unfold newLast; rw [List.length_drop, List.length_append]; rfl
theorem get_few {l : List Pd} (h : fewP l) (id : Int) : (getD l id).last.length ≤ 5 := by
  unfold getD
  split
  · split
    · rename_i p hp; exact h p (List.mem_of_getElem? hp)
    · exact Nat.zero_le _
  · exact Nat.zero_le _
theorem apply_few {p : Pd} (h : p.last.length ≤ 5) (k : Bool) (b : Bat) : (applyD p k b).last.length ≤ 5 := by
  unfold applyD
  split
  · unfold oldLast; split
    · exact h
    · exact Nat.zero_le _
  · exact newLast_few _ _
theorem tapply_few {l : List Pd} (h : fewP l) (b : Bat) : fewP (tapplyD l b) := by
  unfold tapplyD
  split
  · exact h
  · split
    · intro p hp
      rcases List.mem_or_eq_of_mem_set hp with h1 | h1
      · exact h p h1
      · rw [h1]; exact apply_few (get_few h _) _ _
    · intro p hp
      rcases List.mem_append.1 hp with h1 | h1
      · exact h p (List.mem_of_mem_take h1)
      · rcases List.mem_cons.1 h1 with h1 | h1
        · rw [h1]; exact apply_few (Nat.zero_le _) _ _
        · exact h p (List.mem_of_mem_drop h1)
theorem foldP_few : ∀ {l : List Pd} (bs : List Bat), fewP l → fewP (foldP l bs)
  | l, [], h => h
  | l, b :: bs, h => foldP_few bs (tapply_few h b)
theorem tapply_len (l : List Pd) (b : Bat) : (tapplyD l b).length ≤ l.length + 1 := by
  unfold tapplyD
  split
  · omega
  · split
    · simp
    · simp; have := atD_le l b.prod; omega
theorem foldP_len : ∀ (l : List Pd) (bs : List Bat), (foldP l bs).length ≤ l.length + bs.length
  | l, [] => by simp [foldP]
  | l, b :: bs => by
    have h1 := foldP_len (tapplyD l b) bs
    have h2 := tapply_len l b
    show (foldP (tapplyD l b) bs).length ≤ _
    simp; omega
end Go.ProdMath

/-! Plain mathematics of a log without files, as the document's own answer has it: what put, Produce, Mark make of a row. No condition on any program. -/
namespace Go.ProdMath
open Go.SeqMath
open Go.BatMath
set_option linter.unusedVariables false

/-- All batches are right. -/
def RowOk (bs : List Bat) : Prop := ∀ b ∈ bs, rightE b = 0 ∧ b.wf
theorem size_bd (b : Bat) : 0 ≤ sizeB b ∧ sizeB b ≤ 2404 := by
  unfold sizeB
  split
  · rename_i h
    have := ok_len (ok_of h)
    omega
  · omega
theorem bytesD_snoc : ∀ (l : List Bat) (b : Bat), bytesD (l ++ [b]) = bytesD l + sizeB b
  | [], b => by simp [bytesD]
  | a :: l, b => by
    have := bytesD_snoc l b
    show sizeB a + bytesD (l ++ [b]) = sizeB a + bytesD l + sizeB b
    omega
theorem bytesD_bd : ∀ (l : List Bat), 0 ≤ bytesD l ∧ bytesD l ≤ 2404 * (l.length : Int)
  | [] => by simp [bytesD]
  | a :: l => by
    have h1 := bytesD_bd l
    have h2 := size_bd a
    show 0 ≤ sizeB a + bytesD l ∧ sizeB a + bytesD l ≤ _
    rw [List.length_cons]
    omega
noncomputable def putD (cap start : Int) (bs : List Bat) (b : Bat) : (Int × Int) × List Bat :=
  if (tcheckD (foldP [] bs) b).2 ≠ 0 then ((-1, (tcheckD (foldP [] bs) b).2), bs)
  else if 0 ≤ (tcheckD (foldP [] bs) b).1 then (((tcheckD (foldP [] bs) b).1, 0), bs)
  else if cap < bytesD bs + sizeB b then ((-1, 17), bs)
  else if 1099511627776 < endD start bs + countD b then ((-1, 18), bs)
  else ((b.base, 0), bs ++ [b])
noncomputable def produceD (cap start : Int) (bs : List Bat) (b : Bat) : (Int × Int) × List Bat :=
  if rightE (b.at (endD start bs)) ≠ 0 then ((-1, rightE (b.at (endD start bs))), bs)
  else if b.marker ≠ 0 then ((-1, 16), bs)
  else putD cap start bs (b.at (endD start bs))
noncomputable def markD (cap start : Int) (bs : List Bat) (p e m : Int) : (Int × Int) × List Bat :=
  if m = 0 then ((-1, 12), bs) else putD cap start bs ⟨endD start bs, p, e, -1, true, m, []⟩
theorem tcheck_right {l : List Pd} {b : Bat} (h : (tcheckD l b).2 = 0) : rightE b = 0 := by
  unfold tcheckD at h
  split at h
  · simp only at h; assumption
  · rename_i h1; exact Classical.byContradiction fun h2 => h1 h2
/-- A row that a partition may have. -/
inductive RowD (start : Int) : List Bat → Prop
  | nil : RowD start []
  | snoc {l : List Bat} {b : Bat} : RowD start l → b.base = endD start l → b.wf → (tcheckD (foldP [] l) b).2 = 0 → (tcheckD (foldP [] l) b).1 < 0 → endD start l + countD b ≤ 1099511627776 → RowD start (l ++ [b])
/-- What put does to a row that a partition may have. -/
theorem put_row {cap start : Int} {bs : List Bat} {b : Bat} (h : RowD start bs) (hb : b.base = endD start bs) (hw : b.wf) : (putD cap start bs b).2 = bs ∨ ((putD cap start bs b).2 = bs ++ [b] ∧ RowD start (bs ++ [b])) := by
  unfold putD
  split
  · exact .inl rfl
  · rename_i h1
    split
    · exact .inl rfl
    · rename_i h2
      split
      · exact .inl rfl
      · split
        · exact .inl rfl
        · rename_i h3 h4
          exact .inr ⟨rfl, RowD.snoc h hb hw (Classical.byContradiction fun h => h1 h) (by omega) (by omega)⟩
theorem rowD_ok {start : Int} {bs : List Bat} (h : RowD start bs) : RowOk bs := by
  induction h with
  | nil => intro b hb; cases hb
  | snoc _ _ h2 h1 _ _ ih =>
    intro b hb
    rcases List.mem_append.1 hb with h3 | h3
    · exact ih b h3
    · rw [List.mem_singleton.1 h3]; exact ⟨tcheck_right h1, h2⟩
theorem end_nil (start : Int) : endD start [] = start := rfl
theorem end_last {start : Int} {bs : List Bat} {b : Bat} (h : bs.getLast? = some b) : endD start bs = b.base + countD b := by unfold endD; rw [h]
theorem rowD_end {start : Int} {bs : List Bat} (h : RowD start bs) (h0 : 0 ≤ start) (h1 : start ≤ 1099511627776) : 0 ≤ endD start bs ∧ endD start bs ≤ 1099511627776 := by
  cases h with
  | nil => exact ⟨h0, h1⟩
  | @snoc l b h2 hb hw hr hc he =>
    rw [end_last (b := b) (by simp), hb]
    have := ok_of (tcheck_right hr)
    have h3 := this.base0
    have h4 : 0 ≤ countD b := by unfold countD; split <;> omega
    omega
end Go.ProdMath
