/- Parts of a proof, merged: RowCut, ProdMath, ModMath, TabMath, PrMath, SnapMath, SnapMath2, SnCur, SnapMath3, KindBytes, BatRecs, Kinds, BatSame, BatInner, CrcCommon, CrcOf. -/
import Derived.OwnWalk
import Derived.Deep.RegionHeld3
import Derived.BigQuiet
import Derived.Laws.ResultCell
import Derived.Deep.CutRange
import Derived.Outline
import Derived.Test.YtgohekjkbgfeeaaGreatKn2
import Derived.Test.YtgohekjkbgfeeaaGreatKn1
namespace Go.Proofs.YtgohekjkbgfeeaaGreat
open Go.RowKit
set_option linter.unusedVariables false

section
variable {α : Type} {K : Kind α} {bytes : Nat} {w w' : World}
theorem add_block (a : Addr) (n : Nat) : (a.add n).block = a.block := by
 unfold Addr.add
 split <;> rfl
theorem Kind.Ok.elem (hK : K.Ok bytes) : Tryz.prog.elem K.sl = K.ty := by unfold Program.elem; rw [hK.und]
theorem Kind.Ok.sizeOf (hK : K.Ok bytes) (W : World) : (sizeOf (Tryz.prog.elem K.sl)).run Tryz.prog W = .ok K.size W := by
 obtain ⟨i, z, hi, _, hs, _, _⟩ := hK.info
 rw [hK.elem]
 simp [Go.sizeOf, typeInfo, hi, hs]
theorem row_upto (hK : K.Ok bytes) (ad : Option Addr) (len cap h : Nat) (hc : h ≤ cap) (W : World) :
 (Instr.slice K.sl (.slice ad len cap) none (some (.int .i64 (h : Int))) none).run Tryz.prog W = .ok (.slice ad h cap) W := by
 rw [run_slice_h _ _ _ _ _ (by rw [hK.elem]; exact hK.und) _ _ (by omega) (by omega), hK.sizeOf]
 simp only [Result.andThen, sliced, Int.toNat_natCast]
 rcases ad with _ | a
 · simp
 · simp [Addr.add]
theorem RowAt.take {ad : Option Addr} {len cap : Nat} {l : List α} (h : RowAt K w ad len cap l) (k : Nat) (hk : k ≤ len) : RowAt K w ad k cap (l.take k) := by
 have hl := h.length
 have hf := h.fits
 refine ⟨by rw [List.length_take]; omega, by omega, h.room, ?_⟩
 rcases h.cells with h0 | ⟨b, off, e, hlt, hc⟩
 · exact .inl (by omega)
 · refine .inr ⟨b, off, e, hlt, fun i x hi j u hj => hc i x ?_ j u hj⟩
   rw [List.getElem?_take] at hi
   split at hi
   · exact hi
   · cases hi
theorem row_from (hK : K.Ok bytes) {ad : Option Addr} {len cap : Nat} {l : List α} (h : RowAt K w ad len cap l) (k : Nat) (hk : k ≤ len) :
 ∃ ad' cap', (∀ W, (Instr.slice K.sl (.slice ad len cap) (some (.int .i64 (k : Int))) none none).run Tryz.prog W = .ok (.slice ad' (len - k) cap') W) ∧ RowAt K w ad' (len - k) cap' (l.drop k) ∧ (∀ a, ad' = some a → ∃ a0, ad = some a0 ∧ a.block = a0.block) := by
 have hl := h.length
 have hf := h.fits
 rcases ad with _ | ⟨b, off, x⟩
 · have hc := h.room rfl
   have hk0 : k = 0 := by omega
   have hl0 : len = 0 := by omega
   subst hk0 hl0 hc
   refine ⟨none, 0, fun W => ?_, ?_, fun a ha => by cases ha⟩
   · rw [run_slice_l _ _ _ _ _ (by rw [hK.elem]; exact hK.und) _ _ (by omega) (by omega), hK.sizeOf]
     simp [Result.andThen, sliced]
   · obtain rfl := List.eq_nil_of_length_eq_zero hl
     exact rowAt_nil w
 · refine ⟨some ((⟨b, off, x⟩ : Addr).add (if cap = k then 0 else k * K.size)), cap - k, fun W => ?_, ?_, fun a ha => ⟨_, rfl, by cases ha; exact add_block _ _⟩⟩
   · rw [run_slice_l _ _ _ _ _ (by rw [hK.elem]; exact hK.und) _ _ (by omega) (by omega), hK.sizeOf]
     simp only [Result.andThen, sliced, Int.toNat_natCast]
     by_cases h1 : cap = k
     · simp [h1, Addr.add]
     · simp [h1]
   · refine ⟨by rw [List.length_drop]; omega, by omega, (fun e => by cases e), ?_⟩
     by_cases h0 : len - k = 0
     · exact .inl h0
     · rcases h.cells with h1 | ⟨b', off', e, hlt, hc⟩
       · omega
       · cases e
         rw [if_neg (by omega), add_at]
         refine .inr ⟨b, off + k * K.size, rfl, hlt, fun i x hi j u hj => ?_⟩
         rw [List.getElem?_drop] at hi
         have := hc (k + i) x hi j u hj
         rw [Nat.add_mul] at this
         rw [show off + k * K.size + (i * K.size + j) = off + (k * K.size + i * K.size + j) by omega]
         exact this
theorem grow_one (w : World) (k j : Nat) (u : Value) : w.grownBy (w.setCell ⟨k, j, none⟩ u) (some k) := grow_set (grow_refl w (some k)) j u
theorem OwnRow.off {base k : Nat} {v : Value} {l : List α} (h : OwnRow K w base v l) (hk : k < base) (j : Nat) (u : Value) : OwnRow K (w.setCell ⟨k, j, none⟩ u) base v l :=
 h.grown (grow_one w k j u) fun q hq e => by have := (h.lt q hq).1; cases e; omega
theorem RowAt.off {ad : Option Addr} {len cap k : Nat} {l : List α} (h : RowAt K w ad len cap l) (hk : ∀ a, ad = some a → a.block ≠ k) (j : Nat) (u : Value) : RowAt K (w.setCell ⟨k, j, none⟩ u) ad len cap l :=
 h.grown (grow_one w k j u) fun a ha e => hk a ha (by cases e; rfl)
theorem RowAt.lt {ad : Option Addr} {len cap : Nat} {l : List α} (h : RowAt K w ad len cap l) (h0 : 0 < len) : ∀ a, ad = some a → a.block < w.heap.size := by
 intro a ha
 rcases h.cells with h1 | ⟨b, off, e, hlt, _⟩
 · omega
 · rw [ha] at e; cases e; exact hlt
/-- What is written into a block that is not older than all leaves the elder ones. -/
theorem OwnRow.row (hK : K.Ok bytes) {base n : Nat} {v : Value} {l : List α} (h : OwnRow K w base v l) (hn : l.length = n) : ∃ ad cap, v = .slice ad n cap ∧ RowAt K w ad n cap l ∧ (∀ a, ad = some a → base ≤ a.block ∧ a.block < w.heap.size) := by
 subst hn
 exact h.at hK
theorem appended_below {base B : Nat} {v v' : Value} {l m : List α} (hap : Appended K w base v l v' w') (ho : OwnRow K w base v m) {w0 : World} (hb : Below B w0 w) (hB : B ≤ base) (hs : B ≤ w.heap.size) : Below B w0 w' := by
 refine hb.grown hap.2.1 hs fun k hk => ?_
 have := (ho.lt k hk).1
 omega
end
end Go.Proofs.YtgohekjkbgfeeaaGreat
namespace Go.ProdMath
open Go.SeqMath
open Go.BatMath
set_option linter.unusedVariables false

structure Tr where
 f : Int
 l : Int
 b : Int
structure Pd where
 id : Int
 epoch : Int
 last : List Tr
 opn : Int
def Pd.zero : Pd := ⟨0, 0, [], 0⟩
structure Dr where
 prod : Int
 first : Int
 last : Int
def Dr.zero : Dr := ⟨0, 0, 0⟩
/-- This element is the batch of these numbers. -/
def hitB (x : Tr) (s : Int) (n : Nat) : Bool := decide (x.f = s) && decide (x.l = lastI s n)
def dupL (l : List Tr) (s : Int) (n : Nat) : Option Int := (l.find? fun x => hitB x s n).map (·.b)
theorem dup_none (s : Int) (n : Nat) : dupL [] s n = none := rfl
theorem dup_hit {x : Tr} {l : List Tr} {s : Int} {n : Nat} (h : hitB x s n = true) : dupL (x :: l) s n = some x.b := by simp [dupL, h]
theorem dup_miss {x : Tr} {l : List Tr} {s : Int} {n : Nat} (h : hitB x s n = false) : dupL (x :: l) s n = dupL l s n := by simp [dupL, h]
def lastSeq (l : List Tr) : Int := match l.getLast? with | some x => x.l | none => 0
def checkD (p : Pd) (known : Bool) (b : Bat) : Int × Int :=
 if b.marker ≠ 0 then
  if known = false then (-1, 16) else if b.epoch < p.epoch then (-1, 14) else if p.opn < 0 then (-1, 16) else (-1, 0)
 else if known = false then (-1, 0)
 else if b.epoch < p.epoch then (-1, 14)
 else if p.epoch < b.epoch then
  if 0 ≤ p.opn then (-1, 16) else if b.seq ≠ 0 then (-1, 15) else (-1, 0)
 else match dupL p.last b.seq b.recs.length with
  | some n => (n, 0)
  | none =>
    if p.last ≠ [] ∧ followsB (lastSeq p.last) b.seq = false then (-1, 15)
    else if 0 ≤ p.opn ∧ b.txn = false then (-1, 16) else (-1, 0)
def oldLast (p : Pd) (known : Bool) (b : Bat) : List Tr := if known = true ∧ p.epoch = b.epoch then p.last else []
def oldOpen (p : Pd) (known : Bool) : Int := if known = true then p.opn else -1
def newLast (l : List Tr) (x : Tr) : List Tr := (l ++ [x]).drop (l.length + 1 - 5)
def applyD (p : Pd) (known : Bool) (b : Bat) : Pd :=
 if b.marker ≠ 0 then ⟨b.prod, b.epoch, oldLast p known b, -1⟩
 else ⟨b.prod, b.epoch, newLast (oldLast p known b) ⟨b.seq, lastI b.seq b.recs.length, b.base⟩, if b.txn = true ∧ oldOpen p known < 0 then b.base else oldOpen p known⟩
/-! tables -/
def atD : List Pd → Int → Nat
 | [], _ => 0
 | p :: l, id => if p.id < id then atD l id + 1 else 0
theorem atD_le : ∀ (l : List Pd) (id : Int), atD l id ≤ l.length
 | [], _ => Nat.le_refl _
 | p :: l, id => by
   unfold atD
   split
   · have := atD_le l id; simp; omega
   · exact Nat.zero_le _
theorem atD_step : ∀ (l : List Pd) (id : Int) (i : Nat) (p : Pd), i ≤ atD l id → l[i]? = some p → (p.id < id ↔ i + 1 ≤ atD l id)
 | q :: l, id, 0, p, _, h => by
   cases h
   unfold atD
   split <;> simp_all
 | q :: l, id, i + 1, p, hi, h => by
   unfold atD at hi ⊢
   split at hi
   · rename_i hq
     rw [if_pos hq]
     have := atD_step l id i p (by omega) h
     omega
   · omega
 | [], id, i, p, _, h => by cases h
def hasD (l : List Pd) (id : Int) : Bool := match l[atD l id]? with | some p => decide (p.id = id) | none => false
def getD (l : List Pd) (id : Int) : Pd := if hasD l id = true then (match l[atD l id]? with | some p => p | none => Pd.zero) else Pd.zero
noncomputable def tcheckD (l : List Pd) (b : Bat) : Int × Int :=
 if rightE b ≠ 0 then (-1, rightE b) else if b.prod < 0 then (-1, 0) else checkD (getD l b.prod) (hasD l b.prod) b
noncomputable def tapplyD (l : List Pd) (b : Bat) : List Pd :=
 if rightE b ≠ 0 ∨ b.prod < 0 then l
 else if hasD l b.prod = true then l.set (atD l b.prod) (applyD (getD l b.prod) true b)
 else l.take (atD l b.prod) ++ applyD Pd.zero false b :: l.drop (atD l b.prod)
def dropsB (l : List Pd) (b : Bat) : Bool := hasD l b.prod && (decide (b.marker = 2) && decide (0 ≤ (getD l b.prod).opn))
noncomputable def tdropD (l : List Pd) (b : Bat) : Option Dr :=
 if rightE b ≠ 0 ∨ b.prod < 0 then none
 else if dropsB l b = true then some ⟨b.prod, (getD l b.prod).opn, b.base⟩ else none
noncomputable def foldP : List Pd → List Bat → List Pd
 | l, [] => l
 | l, b :: bs => foldP (tapplyD l b) bs
noncomputable def foldR : List Pd → List Bat → List Dr
 | _, [] => []
 | l, b :: bs => (tdropD l b).toList ++ foldR (tapplyD l b) bs
theorem foldP_snoc : ∀ (l : List Pd) (bs : List Bat) (b : Bat), foldP l (bs ++ [b]) = tapplyD (foldP l bs) b
 | l, [], b => rfl
 | l, a :: bs, b => foldP_snoc (tapplyD l a) bs b
theorem foldR_snoc : ∀ (l : List Pd) (bs : List Bat) (b : Bat), foldR l (bs ++ [b]) = foldR l bs ++ (tdropD (foldP l bs) b).toList
 | l, [], b => by simp [foldR, foldP]
 | l, a :: bs, b => by
   show (tdropD l a).toList ++ foldR (tapplyD l a) (bs ++ [b]) = _
   rw [foldR_snoc (tapplyD l a) bs b, ← List.append_assoc]; rfl
/-! rows -/
def countD (b : Bat) : Int := if b.marker ≠ 0 then 1 else (b.recs.length : Int)
def endD (start : Int) (l : List Bat) : Int := match l.getLast? with | some b => b.base + countD b | none => start
noncomputable def bytesD : List Bat → Int
 | [] => 0
 | b :: l => sizeB b + bytesD l
/-- Its lengths are such that nothing is too long. -/
def fewP (l : List Pd) : Prop := ∀ p ∈ l, p.last.length ≤ 5
theorem newLast_few (l : List Tr) (x : Tr) : (newLast l x).length ≤ 5 := by unfold newLast; rw [List.length_drop, List.length_append]; simp; omega
theorem get_few {l : List Pd} (h : fewP l) (id : Int) : (getD l id).last.length ≤ 5 := by
 unfold getD
 split
 · split
   · rename_i p hp; exact h p (List.mem_of_getElem? hp)
   · exact Nat.zero_le _
 · exact Nat.zero_le _
theorem apply_few {p : Pd} (h : p.last.length ≤ 5) (k : Bool) (b : Bat) : (applyD p k b).last.length ≤ 5 := by
 unfold applyD
 split
 · unfold oldLast; split
   · exact h
   · exact Nat.zero_le _
 · exact newLast_few _ _
theorem tapply_few {l : List Pd} (h : fewP l) (b : Bat) : fewP (tapplyD l b) := by
 unfold tapplyD
 split
 · exact h
 · split
   · intro p hp
     rcases List.mem_or_eq_of_mem_set hp with h1 | h1
     · exact h p h1
     · rw [h1]; exact apply_few (get_few h _) _ _
   · intro p hp
     rcases List.mem_append.1 hp with h1 | h1
     · exact h p (List.mem_of_mem_take h1)
     · rcases List.mem_cons.1 h1 with h1 | h1
       · rw [h1]; exact apply_few (Nat.zero_le _) _ _
       · exact h p (List.mem_of_mem_drop h1)
theorem foldP_few : ∀ {l : List Pd} (bs : List Bat), fewP l → fewP (foldP l bs)
 | l, [], h => h
 | l, b :: bs, h => foldP_few bs (tapply_few h b)
theorem tapply_len (l : List Pd) (b : Bat) : (tapplyD l b).length ≤ l.length + 1 := by
 unfold tapplyD
 split
 · omega
 · split
   · simp
   · simp; have := atD_le l b.prod; omega
theorem foldP_len : ∀ (l : List Pd) (bs : List Bat), (foldP l bs).length ≤ l.length + bs.length
 | l, [] => by simp [foldP]
 | l, b :: bs => by
   have h1 := foldP_len (tapplyD l b) bs
   have h2 := tapply_len l b
   show (foldP (tapplyD l b) bs).length ≤ _
   simp; omega
end Go.ProdMath
namespace Go.ProdMath
open Go.SeqMath
open Go.BatMath
set_option linter.unusedVariables false

/-- All batches are right. -/
def RowOk (bs : List Bat) : Prop := ∀ b ∈ bs, rightE b = 0 ∧ b.wf
theorem size_bd (b : Bat) : 0 ≤ sizeB b ∧ sizeB b ≤ 2404 := by
 unfold sizeB
 split
 · rename_i h
   have := ok_len (ok_of h)
   omega
 · omega
theorem bytesD_snoc : ∀ (l : List Bat) (b : Bat), bytesD (l ++ [b]) = bytesD l + sizeB b
 | [], b => by simp [bytesD]
 | a :: l, b => by
   have := bytesD_snoc l b
   show sizeB a + bytesD (l ++ [b]) = sizeB a + bytesD l + sizeB b
   omega
theorem bytesD_bd : ∀ (l : List Bat), 0 ≤ bytesD l ∧ bytesD l ≤ 2404 * (l.length : Int)
 | [] => by simp [bytesD]
 | a :: l => by
   have h1 := bytesD_bd l
   have h2 := size_bd a
   show 0 ≤ sizeB a + bytesD l ∧ sizeB a + bytesD l ≤ _
   rw [List.length_cons]
   omega
noncomputable def putD (cap start : Int) (bs : List Bat) (b : Bat) : (Int × Int) × List Bat :=
 if (tcheckD (foldP [] bs) b).2 ≠ 0 then ((-1, (tcheckD (foldP [] bs) b).2), bs)
 else if 0 ≤ (tcheckD (foldP [] bs) b).1 then (((tcheckD (foldP [] bs) b).1, 0), bs)
 else if cap < bytesD bs + sizeB b then ((-1, 17), bs)
 else if 1099511627776 < endD start bs + countD b then ((-1, 18), bs)
 else ((b.base, 0), bs ++ [b])
noncomputable def produceD (cap start : Int) (bs : List Bat) (b : Bat) : (Int × Int) × List Bat :=
 if rightE (b.at (endD start bs)) ≠ 0 then ((-1, rightE (b.at (endD start bs))), bs)
 else if b.marker ≠ 0 then ((-1, 16), bs)
 else putD cap start bs (b.at (endD start bs))
noncomputable def markD (cap start : Int) (bs : List Bat) (p e m : Int) : (Int × Int) × List Bat :=
 if m = 0 then ((-1, 12), bs) else putD cap start bs ⟨endD start bs, p, e, -1, true, m, []⟩
theorem tcheck_right {l : List Pd} {b : Bat} (h : (tcheckD l b).2 = 0) : rightE b = 0 := by
 unfold tcheckD at h
 split at h
 · simp only at h; assumption
 · rename_i h1; exact Classical.byContradiction fun h2 => h1 h2
/-- A row that a partition may have. -/
inductive RowD (start : Int) : List Bat → Prop
 | nil : RowD start []
 | snoc {l : List Bat} {b : Bat} : RowD start l → b.base = endD start l → b.wf → (tcheckD (foldP [] l) b).2 = 0 → (tcheckD (foldP [] l) b).1 < 0 → endD start l + countD b ≤ 1099511627776 → RowD start (l ++ [b])
/-- What put does to a row that a partition may have. -/
theorem put_row {cap start : Int} {bs : List Bat} {b : Bat} (h : RowD start bs) (hb : b.base = endD start bs) (hw : b.wf) : (putD cap start bs b).2 = bs ∨ ((putD cap start bs b).2 = bs ++ [b] ∧ RowD start (bs ++ [b])) := by
 unfold putD
 split
 · exact .inl rfl
 · rename_i h1
   split
   · exact .inl rfl
   · rename_i h2
     split
     · exact .inl rfl
     · split
       · exact .inl rfl
       · rename_i h3 h4
         exact .inr ⟨rfl, RowD.snoc h hb hw (Classical.byContradiction fun h => h1 h) (by omega) (by omega)⟩
theorem rowD_ok {start : Int} {bs : List Bat} (h : RowD start bs) : RowOk bs := by
 induction h with
 | nil => intro b hb; cases hb
 | snoc _ _ h2 h1 _ _ ih =>
   intro b hb
   rcases List.mem_append.1 hb with h3 | h3
   · exact ih b h3
   · rw [List.mem_singleton.1 h3]; exact ⟨tcheck_right h1, h2⟩
theorem end_last {start : Int} {bs : List Bat} {b : Bat} (h : bs.getLast? = some b) : endD start bs = b.base + countD b := by unfold endD; rw [h]
theorem rowD_end {start : Int} {bs : List Bat} (h : RowD start bs) (h0 : 0 ≤ start) (h1 : start ≤ 1099511627776) : 0 ≤ endD start bs ∧ endD start bs ≤ 1099511627776 := by
 cases h with
 | nil => exact ⟨h0, h1⟩
 | @snoc l b h2 hb hw hr hc he =>
   rw [end_last (b := b) (by simp), hb]
   have := ok_of (tcheck_right hr)
   have h3 := this.base0
   have h4 : 0 ≤ countD b := by unfold countD; split <;> omega
   omega
end Go.ProdMath
namespace Go.ProdMath
open Go.SeqMath
open Go.BatMath
set_option linter.unusedVariables false

/-- In ascending order. -/
def Asc (l : List Pd) : Prop := l.Pairwise fun a b => a.id < b.id
def lookD (l : List Pd) (k : Int) : Option Pd := l.find? fun p => decide (p.id = k)
/-- Put in its place, or in the place of the one of its number. -/
def insD : List Pd → Pd → List Pd
 | [], x => [x]
 | p :: l, x => if p.id < x.id then p :: insD l x else if p.id = x.id then x :: l else x :: p :: l
theorem look_cons (p : Pd) (l : List Pd) (k : Int) : lookD (p :: l) k = if p.id = k then some p else lookD l k := by
 unfold lookD
 rw [List.find?_cons]
 by_cases h : p.id = k
 · rw [if_pos h, decide_eq_true h]
 · rw [if_neg h, decide_eq_false h]
theorem look_above {l : List Pd} {k : Int} (h : ∀ p ∈ l, k < p.id) : lookD l k = none := by
 unfold lookD
 rw [List.find?_eq_none]
 intro p hp
 have := h p hp
 simp; omega
theorem look_id {l : List Pd} {k : Int} {p : Pd} (h : lookD l k = some p) : p.id = k ∧ p ∈ l := by
 unfold lookD at h
 exact ⟨by simpa using List.find?_some h, List.mem_of_find?_eq_some h⟩
theorem asc_tail {p : Pd} {l : List Pd} (h : Asc (p :: l)) : Asc l := (List.pairwise_cons.1 h).2
theorem asc_head {p : Pd} {l : List Pd} (h : Asc (p :: l)) : ∀ q ∈ l, p.id < q.id := (List.pairwise_cons.1 h).1
/-- What the document's own look-up finds. -/
theorem has_look : ∀ {l : List Pd} (h : Asc l) (k : Int), hasD l k = (lookD l k).isSome ∧ getD l k = (lookD l k).getD Pd.zero
 | [], _, k => ⟨rfl, rfl⟩
 | p :: l, h, k => by
   have ih := has_look (asc_tail h) k
   rw [look_cons]
   by_cases h1 : p.id < k
   · rw [if_neg (by omega)]
     have e1 : hasD (p :: l) k = hasD l k := by
      unfold hasD
      rw [show atD (p :: l) k = atD l k + 1 from by rw [atD, if_pos h1]]
      rfl
     have e2 : getD (p :: l) k = getD l k := by
      unfold getD
      rw [e1, show atD (p :: l) k = atD l k + 1 from by rw [atD, if_pos h1]]
      rfl
     rw [e1, e2]
     exact ih
   · have e0 : atD (p :: l) k = 0 := by rw [atD, if_neg h1]
     by_cases h2 : p.id = k
     · rw [if_pos h2]
       have e1 : hasD (p :: l) k = true := by
        unfold hasD
        rw [e0]
        show decide (p.id = k) = true
        exact decide_eq_true h2
       refine ⟨by rw [e1]; rfl, ?_⟩
       unfold getD
       rw [e1, e0]; rfl
     · rw [if_neg h2]
       have e1 : hasD (p :: l) k = false := by
        unfold hasD
        rw [e0]
        show decide (p.id = k) = false
        exact decide_eq_false h2
       have e3 : lookD l k = none := look_above fun q hq => by have := asc_head h q hq; omega
       rw [e3]
       refine ⟨e1, ?_⟩
       unfold getD
       rw [e1]; rfl
theorem ins_ids : ∀ (l : List Pd) (x : Pd) (q : Pd), q ∈ insD l x → q = x ∨ q ∈ l
 | [], x, q, h => .inl (by simpa [insD] using h)
 | p :: l, x, q, h => by
   unfold insD at h
   split at h
   · rcases List.mem_cons.1 h with h | h
     · exact .inr (by simp [h])
     · rcases ins_ids l x q h with h | h
       · exact .inl h
       · exact .inr (by simp [h])
   · split at h
     · rcases List.mem_cons.1 h with h | h
       · exact .inl h
       · exact .inr (by simp [h])
     · rcases List.mem_cons.1 h with h | h
       · exact .inl h
       · exact .inr h
theorem ins_asc : ∀ {l : List Pd} (x : Pd), Asc l → Asc (insD l x)
 | [], x, _ => List.pairwise_singleton _ _
 | p :: l, x, h => by
   unfold insD
   split
   · rename_i h1
     refine List.pairwise_cons.2 ⟨fun q hq => ?_, ins_asc x (asc_tail h)⟩
     rcases ins_ids l x q hq with e | e
     · rw [e]; exact h1
     · exact asc_head h q e
   · rename_i h1
     split
     · rename_i h2
       exact List.pairwise_cons.2 ⟨fun q hq => by have := asc_head h q hq; omega, asc_tail h⟩
     · rename_i h2
       refine List.pairwise_cons.2 ⟨fun q hq => ?_, h⟩
       rcases List.mem_cons.1 hq with e | e
       · rw [e]; omega
       · have := asc_head h q e; omega
theorem apply_id (p : Pd) (k : Bool) (b : Bat) : (applyD p k b).id = b.prod := by
 unfold applyD
 split <;> rfl
/-- What a batch turns: its producer's state alone. -/
theorem tapply_ins : ∀ {l : List Pd} (h : Asc l) (b : Bat), rightE b = 0 → 0 ≤ b.prod → tapplyD l b = insD l (applyD ((lookD l b.prod).getD Pd.zero) (lookD l b.prod).isSome b) := by
 intro l h b h0 h1
 have hl := has_look h b.prod
 unfold tapplyD
 rw [if_neg (by omega)]
 have key : ∀ (l : List Pd) (x : Pd), x.id = b.prod → Asc l → (if hasD l b.prod = true then l.set (atD l b.prod) x else l.take (atD l b.prod) ++ x :: l.drop (atD l b.prod)) = insD l x := by
  intro l
  induction l with
  | nil => intro x hx _; rfl
  | cons p l ih =>
    intro x hx ha
    have hi := ih x hx (asc_tail ha)
    have hh := has_look ha b.prod
    have hh2 := has_look (asc_tail ha) b.prod
    by_cases h2 : p.id < b.prod
    · rw [show atD (p :: l) b.prod = atD l b.prod + 1 from by rw [atD, if_pos h2]]
      have e1 : hasD (p :: l) b.prod = hasD l b.prod := by rw [hh.1, hh2.1, look_cons, if_neg (by omega)]
      have e2 : insD (p :: l) x = p :: insD l x := by rw [insD, if_pos (show p.id < x.id by omega)]
      rw [e1, e2, ← hi]
      cases hasD l b.prod
      · rfl
      · rfl
    · rw [show atD (p :: l) b.prod = 0 from by rw [atD, if_neg h2]]
      by_cases h3 : p.id = b.prod
      · have e1 : hasD (p :: l) b.prod = true := by rw [hh.1, look_cons, if_pos h3]; rfl
        have e2 : insD (p :: l) x = x :: l := by rw [insD, if_neg (show ¬ p.id < x.id by omega), if_pos (show p.id = x.id by omega)]
        rw [e1, e2]; rfl
      · have e1 : hasD (p :: l) b.prod = false := by
         rw [hh.1, look_cons, if_neg h3, look_above fun q hq => by have := asc_head ha q hq; omega]; rfl
        have e2 : insD (p :: l) x = x :: p :: l := by rw [insD, if_neg (show ¬ p.id < x.id by omega), if_neg (show ¬ p.id = x.id by omega)]
        rw [e1, e2]; rfl
 have k1 := key l (applyD ((lookD l b.prod).getD Pd.zero) (lookD l b.prod).isSome b) (apply_id _ _ _) h
 rw [← k1]
 split
 · rename_i hs
   rw [hl.2]
   rw [hl.1] at hs
   rw [hs]
 · rename_i hs
   rw [hl.1] at hs
   have hn : lookD l b.prod = none := by cases hq : lookD l b.prod <;> simp_all
   rw [hn]; rfl
theorem tapply_no {l : List Pd} {b : Bat} (h : rightE b ≠ 0 ∨ b.prod < 0) : tapplyD l b = l := by unfold tapplyD; rw [if_pos h]
theorem tapply_asc {l : List Pd} (h : Asc l) (b : Bat) : Asc (tapplyD l b) := by
 by_cases h0 : rightE b ≠ 0 ∨ b.prod < 0
 · rw [tapply_no h0]; exact h
 · rw [tapply_ins h b (Classical.byContradiction fun h1 => h0 (.inl h1)) (by omega)]
   exact ins_asc _ h
theorem fold_asc : ∀ {l : List Pd} (bs : List Bat), Asc l → Asc (foldP l bs)
 | l, [], h => h
 | l, b :: bs, h => fold_asc bs (tapply_asc h b)
end Go.ProdMath
namespace Go.ProdMath
open Go.SeqMath
open Go.BatMath
set_option linter.unusedVariables false

def TrOk (x : Tr) : Prop := 0 ≤ gapI x.f x.l ∧ gapI x.f x.l < 16 ∧ 0 ≤ x.b ∧ x.b ≤ 1099511627776
def TrNext (y x : Tr) : Prop := y.b < x.b ∧ followsB y.l x.f = true
def StepOk (l : List Tr) (j : Nat) : Prop := ∀ x, l[j]? = some x → TrOk x ∧ ∀ y, 0 < j → l[j - 1]? = some y → TrNext y x
def RightP (p : Pd) : Prop := (0 ≤ p.id ∧ 0 ≤ p.epoch ∧ p.epoch ≤ 32767 ∧ -1 ≤ p.opn ∧ p.opn ≤ 1099511627776 ∧ p.last.length ≤ 5) ∧ ∀ j, StepOk p.last j
theorem right_bad {p : Pd} {r : Bool} (hr : r = true ↔ RightP p) (h : ¬ (0 ≤ p.id ∧ 0 ≤ p.epoch ∧ p.epoch ≤ 32767 ∧ -1 ≤ p.opn ∧ p.opn ≤ 1099511627776 ∧ p.last.length ≤ 5)) : r = false := by
 cases hb : r
 · rfl
 · exact absurd (hr.1 hb).1 h
theorem right_step {p : Pd} {r : Bool} (hr : r = true ↔ RightP p) {j : Nat} (h : ¬ StepOk p.last j) : r = false := by
 cases hb : r
 · rfl
 · exact absurd ((hr.1 hb).2 j) h
theorem right_end {p : Pd} {r : Bool} (hr : r = true ↔ RightP p) (h : 0 ≤ p.id ∧ 0 ≤ p.epoch ∧ p.epoch ≤ 32767 ∧ -1 ≤ p.opn ∧ p.opn ≤ 1099511627776 ∧ p.last.length ≤ 5) (hs : ∀ j, j < p.last.length → StepOk p.last j) : r = true :=
 hr.2 ⟨h, fun j => if hj : j < p.last.length then hs j hj else fun x hx => by rw [List.getElem?_eq_none (by omega)] at hx; cases hx⟩
theorem step_of {l : List Tr} {j : Nat} {x : Tr} (hx : l[j]? = some x) (h : TrOk x) (hn : ∀ y, 0 < j → l[j - 1]? = some y → TrNext y x) : StepOk l j := fun x' hx' => by
 rw [hx] at hx'
 cases hx'
 exact ⟨h, hn⟩
theorem step_bad {l : List Tr} {j : Nat} {x : Tr} (hx : l[j]? = some x) (h : ¬ TrOk x) : ¬ StepOk l j := fun hs => h (hs x hx).1
theorem step_bad2 {l : List Tr} {j : Nat} {x y : Tr} (hj : 0 < j) (hx : l[j]? = some x) (hy : l[j - 1]? = some y) (h : ¬ TrNext y x) : ¬ StepOk l j := fun hs => h ((hs x hx).2 y hj hy)
/-! rows of batches that follow one another -/
end Go.ProdMath
namespace Go.SnapMath
open Go.ProdMath
open Go.BatMath (In64)
open Go.VarMath (encN getB getB_encN enc_len enc_all zig zig_lt encU AllB)
set_option linter.unusedVariables false

theorem encN_len {n : Int} (h : In64 n) : 1 ≤ (encN n).length ∧ (encN n).length ≤ 10 := enc_len (zig_lt h.1 h.2)
theorem encN_all {n : Int} (h : In64 n) : AllB (encN n) := enc_all (zig_lt h.1 h.2)
/-- The next number, and what stands behind it. -/
def numS (bs : List Nat) : Option (Int × List Nat) := if (getB bs).2 = 0 then none else some ((getB bs).1, bs.drop (getB bs).2)
theorem numS_enc {n : Int} (h : In64 n) (r : List Nat) : numS (encN n ++ r) = some (n, r) := by
 have h1 := getB_encN h.1 h.2 r
 have h2 := (encN_len h).1
 unfold numS
 rw [h1, if_neg (by show (encN n).length ≠ 0; omega), List.drop_left]
def trS (x : Tr) : List Nat := encN x.f ++ (encN x.l ++ encN x.b)
def trsS : List Tr → List Nat
 | [] => []
 | x :: l => trS x ++ trsS l
def pdS (p : Pd) : List Nat := encN p.id ++ (encN p.epoch ++ (encN p.opn ++ (encN (p.last.length : Int) ++ trsS p.last)))
def pdsS : List Pd → List Nat
 | [] => []
 | p :: l => pdS p ++ pdsS l
def bodyS (l : List Pd) (n : Int) : List Nat := encN n ++ (encN (l.length : Int) ++ pdsS l)
def snapS (l : List Pd) (n : Int) : List Nat := CrcMath.sealB (bodyS l n)
def TrIn (x : Tr) : Prop := In64 x.f ∧ In64 x.l ∧ In64 x.b
def PdIn (p : Pd) : Prop := In64 p.id ∧ In64 p.epoch ∧ In64 p.opn ∧ p.last.length ≤ 1000000 ∧ ∀ x ∈ p.last, TrIn x
def PdsIn (l : List Pd) : Prop := l.length ≤ 1000000 ∧ ∀ p ∈ l, PdIn p
theorem in_nat {n : Nat} (h : n ≤ 1000000) : In64 (n : Int) := ⟨by omega, by omega⟩
def getTr (bs : List Nat) : Option (Tr × List Nat) := (numS bs).bind fun a => (numS a.2).bind fun b => (numS b.2).map fun c => (⟨a.1, b.1, c.1⟩, c.2)
def getTrs : Nat → List Nat → Option (List Tr × List Nat)
 | 0, bs => some ([], bs)
 | k + 1, bs => (getTr bs).bind fun a => (getTrs k a.2).map fun b => (a.1 :: b.1, b.2)
def getPd (bs : List Nat) : Option (Pd × List Nat) := (numS bs).bind fun a => (numS a.2).bind fun b => (numS b.2).bind fun c => (numS c.2).bind fun d => (getTrs d.1.toNat d.2).map fun e => (⟨a.1, b.1, e.1, c.1⟩, e.2)
theorem getTr_enc {x : Tr} (h : TrIn x) (r : List Nat) : getTr (trS x ++ r) = some (x, r) := by
 unfold getTr trS
 rw [List.append_assoc, List.append_assoc, numS_enc h.1, Option.bind_some, numS_enc h.2.1, Option.bind_some, numS_enc h.2.2]
 rfl
theorem getTrs_enc : ∀ {l : List Tr} (h : ∀ x ∈ l, TrIn x) (r : List Nat), getTrs l.length (trsS l ++ r) = some (l, r)
 | [], _, r => rfl
 | x :: l, h, r => by
   show (getTr (trS x ++ trsS l ++ r)).bind _ = _
   rw [List.append_assoc, getTr_enc (h x (by simp)), Option.bind_some, getTrs_enc (fun y hy => h y (by simp [hy]))]
   rfl
theorem getPd_enc {p : Pd} (h : PdIn p) (r : List Nat) : getPd (pdS p ++ r) = some (p, r) := by
 unfold getPd pdS
 obtain ⟨h1, h2, h3, h4, h5⟩ := h
 rw [List.append_assoc, List.append_assoc, List.append_assoc, List.append_assoc, numS_enc h1, Option.bind_some, numS_enc h2, Option.bind_some, numS_enc h3, Option.bind_some, numS_enc (in_nat h4), Option.bind_some]
 simp only [Int.toNat_natCast]
 rw [getTrs_enc h5]
 rfl
theorem trS_all {x : Tr} (h : TrIn x) : AllB (trS x) := fun y hy => by
 unfold trS at hy
 rcases List.mem_append.1 hy with hy | hy
 · exact encN_all h.1 y hy
 · rcases List.mem_append.1 hy with hy | hy
   · exact encN_all h.2.1 y hy
   · exact encN_all h.2.2 y hy
theorem trsS_all : ∀ {l : List Tr} (h : ∀ x ∈ l, TrIn x), AllB (trsS l)
 | [], _, y, hy => by cases hy
 | x :: l, h, y, hy => by
   rcases List.mem_append.1 (show y ∈ trS x ++ trsS l from hy) with hy | hy
   · exact trS_all (h x (by simp)) y hy
   · exact trsS_all (fun z hz => h z (by simp [hz])) y hy
theorem pdS_all {p : Pd} (h : PdIn p) : AllB (pdS p) := fun y hy => by
 unfold pdS at hy
 obtain ⟨h1, h2, h3, h4, h5⟩ := h
 rcases List.mem_append.1 hy with hy | hy
 · exact encN_all h1 y hy
 rcases List.mem_append.1 hy with hy | hy
 · exact encN_all h2 y hy
 rcases List.mem_append.1 hy with hy | hy
 · exact encN_all h3 y hy
 rcases List.mem_append.1 hy with hy | hy
 · exact encN_all (in_nat h4) y hy
 · exact trsS_all h5 y hy
theorem pdsS_all : ∀ {l : List Pd} (h : ∀ p ∈ l, PdIn p), AllB (pdsS l)
 | [], _, y, hy => by cases hy
 | x :: l, h, y, hy => by
   rcases List.mem_append.1 (show y ∈ pdS x ++ pdsS l from hy) with hy | hy
   · exact pdS_all (h x (by simp)) y hy
   · exact pdsS_all (fun z hz => h z (by simp [hz])) y hy
theorem bodyS_all {l : List Pd} {n : Int} (h : PdsIn l) (hn : In64 n) : AllB (bodyS l n) := fun y hy => by
 unfold bodyS at hy
 rcases List.mem_append.1 hy with hy | hy
 · exact encN_all hn y hy
 rcases List.mem_append.1 hy with hy | hy
 · exact encN_all (in_nat h.1) y hy
 · exact pdsS_all h.2 y hy
end Go.SnapMath
namespace Go.SnapMath
open Go.ProdMath
open Go.BatMath (In64)
open Go.VarMath (encN getB getB_encN getB_bounds AllB)
set_option linter.unusedVariables false

/-- One step: the number, what is left, whether it fell. -/
def rdN (bs : List Nat) (fell : Bool) : Int × List Nat × Bool := if fell = true ∨ (getB bs).2 = 0 then (0, bs, true) else ((getB bs).1, bs.drop (getB bs).2, false)
theorem rdN_no {bs : List Nat} {fell : Bool} (h : fell = true ∨ (getB bs).2 = 0) : rdN bs fell = (0, bs, true) := if_pos h
theorem rdN_yes {bs : List Nat} {n : Int} {j : Nat} (hg : getB bs = (n, j)) (h : j ≠ 0) : rdN bs false = (n, bs.drop j, false) := by
 unfold rdN
 rw [if_neg (by rw [hg]; rintro (h1 | h1); cases h1; exact h h1), hg]
theorem rdN_enc {n : Int} (h : In64 n) (r : List Nat) : rdN (encN n ++ r) false = (n, r, false) := by
 have h1 := getB_encN h.1 h.2 r
 have h2 := (encN_len h).1
 rw [rdN_yes h1 (by omega), List.drop_left]
theorem rdN_in (bs : List Nat) (f : Bool) : In64 (rdN bs f).1 := by
 unfold rdN
 split
 · exact in_nat (n := 0) (by omega)
 · exact ⟨(getB_bounds bs).2.2.1, (getB_bounds bs).2.2.2⟩
theorem rdN_len (bs : List Nat) (f : Bool) : (rdN bs f).2.1.length ≤ bs.length ∧ ((rdN bs f).2.2 = false → f = false ∧ (rdN bs f).2.1.length + 1 ≤ bs.length) := by
 unfold rdN
 split
 · exact ⟨Nat.le_refl _, fun h => by cases h⟩
 · rename_i hn
   have h1 := (getB_bounds bs).2.1
   refine ⟨by rw [List.length_drop]; omega, fun _ => ⟨by cases f; rfl; exact absurd (Or.inl rfl) hn, ?_⟩⟩
   have h2 : (getB bs).2 ≠ 0 := fun e => hn (Or.inr e)
   show (bs.drop _).length + 1 ≤ _
   rw [List.length_drop]
   omega
theorem rdN_fell (bs : List Nat) : rdN bs true = (0, bs, true) := rdN_no (Or.inl rfl)
def rdTr (bs : List Nat) (f : Bool) : Tr × List Nat × Bool :=
 (⟨(rdN bs f).1, (rdN (rdN bs f).2.1 (rdN bs f).2.2).1, (rdN (rdN (rdN bs f).2.1 (rdN bs f).2.2).2.1 (rdN (rdN bs f).2.1 (rdN bs f).2.2).2.2).1⟩, (rdN (rdN (rdN bs f).2.1 (rdN bs f).2.2).2.1 (rdN (rdN bs f).2.1 (rdN bs f).2.2).2.2).2)
theorem rdTr_of {bs b1 b2 b3 : List Nat} {f f1 f2 f3 : Bool} {x y z : Int} (h1 : rdN bs f = (x, b1, f1)) (h2 : rdN b1 f1 = (y, b2, f2)) (h3 : rdN b2 f2 = (z, b3, f3)) : rdTr bs f = (⟨x, y, z⟩, b3, f3) := by
 unfold rdTr
 rw [h1, h2, h3]
theorem rdTr_len (bs : List Nat) (f : Bool) : (rdTr bs f).2.1.length ≤ bs.length ∧ ((rdTr bs f).2.2 = false → f = false ∧ (rdTr bs f).2.1.length + 3 ≤ bs.length) := by
 obtain ⟨⟨x, b1, f1⟩, h1⟩ : ∃ r, rdN bs f = r := ⟨_, rfl⟩
 obtain ⟨⟨y, b2, f2⟩, h2⟩ : ∃ r, rdN b1 f1 = r := ⟨_, rfl⟩
 obtain ⟨⟨z, b3, f3⟩, h3⟩ : ∃ r, rdN b2 f2 = r := ⟨_, rfl⟩
 have a1 := rdN_len bs f
 have a2 := rdN_len b1 f1
 have a3 := rdN_len b2 f2
 rw [h1] at a1
 rw [h2] at a2
 rw [h3] at a3
 rw [rdTr_of h1 h2 h3]
 simp only at *
 refine ⟨by omega, fun e => ?_⟩
 have c3 := a3.2 e
 have c2 := a2.2 c3.1
 have c1 := a1.2 c2.1
 exact ⟨c1.1, by omega⟩
theorem rdTr_enc {x : Tr} (h : TrIn x) (r : List Nat) : rdTr (trS x ++ r) false = (x, r, false) := by
 unfold trS
 rw [List.append_assoc, List.append_assoc]
 exact rdTr_of (rdN_enc h.1 _) (rdN_enc h.2.1 _) (rdN_enc h.2.2 _)
def rdTrs : Nat → List Nat → Bool → List Tr × List Nat × Bool
 | 0, bs, f => ([], bs, f)
 | k + 1, bs, f => if f = true then ([], bs, f) else ((rdTr bs f).1 :: (rdTrs k (rdTr bs f).2.1 (rdTr bs f).2.2).1, (rdTrs k (rdTr bs f).2.1 (rdTr bs f).2.2).2)
theorem rdTrs_fell (k : Nat) (bs : List Nat) : rdTrs k bs true = ([], bs, true) := by cases k <;> rfl
theorem rdTrs_succ (k : Nat) (bs : List Nat) {x : Tr} {b : List Nat} {f : Bool} (h : rdTr bs false = (x, b, f)) : rdTrs (k + 1) bs false = (x :: (rdTrs k b f).1, (rdTrs k b f).2) := by
 show (if false = true then _ else _) = _
 rw [if_neg (by decide), h]
theorem rdTrs_len : ∀ (k : Nat) (bs : List Nat) (f : Bool), 3 * (rdTrs k bs f).1.length + (rdTrs k bs f).2.1.length ≤ bs.length + 3 ∧ (rdTrs k bs f).2.1.length ≤ bs.length ∧ ((rdTrs k bs f).2.2 = false → f = false ∧ 3 * (rdTrs k bs f).1.length + (rdTrs k bs f).2.1.length ≤ bs.length)
 | 0, bs, f => ⟨by show 3 * 0 + bs.length ≤ _; omega, Nat.le_refl _, fun h => ⟨h, by show 3 * 0 + bs.length ≤ _; omega⟩⟩
 | k + 1, bs, true => by
   rw [rdTrs_fell]
   exact ⟨by show 3 * 0 + bs.length ≤ _; omega, Nat.le_refl _, fun h => by cases h⟩
 | k + 1, bs, false => by
   obtain ⟨⟨x, b, f⟩, hx⟩ : ∃ r, rdTr bs false = r := ⟨_, rfl⟩
   have a1 := rdTr_len bs false
   rw [rdTrs_succ k bs hx]
   rw [hx] at a1
   have a2 := rdTrs_len k b f
   simp only [List.length_cons] at *
   cases f with
   | true =>
     rw [rdTrs_fell] at a2 ⊢
     simp only [List.length_nil] at *
     exact ⟨by omega, by omega, fun h => by cases h⟩
   | false =>
     have a3 := a1.2 rfl
     refine ⟨by omega, by omega, fun h => ⟨trivial, ?_⟩⟩
     have := (a2.2.2 h).2
     omega
theorem rdTrs_enc : ∀ {l : List Tr} (h : ∀ x ∈ l, TrIn x) (r : List Nat), rdTrs l.length (trsS l ++ r) false = (l, r, false)
 | [], _, r => rfl
 | x :: l, h, r => by
   have h1 : rdTr (trS x ++ trsS l ++ r) false = (x, trsS l ++ r, false) := by
    rw [List.append_assoc]
    exact rdTr_enc (h x (by simp)) _
   show rdTrs (l.length + 1) (trS x ++ trsS l ++ r) false = _
   rw [rdTrs_succ _ _ h1, rdTrs_enc (fun y hy => h y (by simp [hy]))]
def rdPd (bs : List Nat) (f : Bool) : Pd × List Nat × Bool :=
 let a := rdN bs f
 let b := rdN a.2.1 a.2.2
 let c := rdN b.2.1 b.2.2
 let d := rdN c.2.1 c.2.2
 let e := rdTrs d.1.toNat d.2.1 d.2.2
 (⟨a.1, b.1, e.1, c.1⟩, e.2)
theorem rdPd_of {bs b1 b2 b3 b4 b5 : List Nat} {f f1 f2 f3 f4 f5 : Bool} {x y z k : Int} {l : List Tr} (h1 : rdN bs f = (x, b1, f1)) (h2 : rdN b1 f1 = (y, b2, f2)) (h3 : rdN b2 f2 = (z, b3, f3)) (h4 : rdN b3 f3 = (k, b4, f4)) (h5 : rdTrs k.toNat b4 f4 = (l, b5, f5)) :
 rdPd bs f = (⟨x, y, l, z⟩, b5, f5) := by
 unfold rdPd
 simp only [h1, h2, h3, h4, h5]
theorem rdPd_len (bs : List Nat) (f : Bool) : (rdPd bs f).2.1.length ≤ bs.length ∧ ((rdPd bs f).2.2 = false → f = false ∧ (rdPd bs f).2.1.length + 4 ≤ bs.length) ∧ 3 * (rdPd bs f).1.last.length ≤ bs.length + 3 := by
 obtain ⟨⟨x, b1, f1⟩, h1⟩ : ∃ r, rdN bs f = r := ⟨_, rfl⟩
 obtain ⟨⟨y, b2, f2⟩, h2⟩ : ∃ r, rdN b1 f1 = r := ⟨_, rfl⟩
 obtain ⟨⟨z, b3, f3⟩, h3⟩ : ∃ r, rdN b2 f2 = r := ⟨_, rfl⟩
 obtain ⟨⟨k, b4, f4⟩, h4⟩ : ∃ r, rdN b3 f3 = r := ⟨_, rfl⟩
 obtain ⟨⟨l, b5, f5⟩, h5⟩ : ∃ r, rdTrs k.toNat b4 f4 = r := ⟨_, rfl⟩
 have a1 := rdN_len bs f
 have a2 := rdN_len b1 f1
 have a3 := rdN_len b2 f2
 have a4 := rdN_len b3 f3
 have a5 := rdTrs_len k.toNat b4 f4
 rw [h1] at a1
 rw [h2] at a2
 rw [h3] at a3
 rw [h4] at a4
 rw [h5] at a5
 rw [rdPd_of h1 h2 h3 h4 h5]
 simp only at *
 refine ⟨by omega, fun e => ?_, by omega⟩
 have c5 := a5.2.2 e
 have c4 := a4.2 c5.1
 have c3 := a3.2 c4.1
 have c2 := a2.2 c3.1
 have c1 := a1.2 c2.1
 exact ⟨c1.1, by omega⟩
theorem rdPd_enc {p : Pd} (h : PdIn p) (r : List Nat) : rdPd (pdS p ++ r) false = (p, r, false) := by
 obtain ⟨g1, g2, g3, g4, g5⟩ := h
 unfold pdS
 rw [List.append_assoc, List.append_assoc, List.append_assoc, List.append_assoc]
 refine rdPd_of (rdN_enc g1 _) (rdN_enc g2 _) (rdN_enc g3 _) (rdN_enc (in_nat g4) _) ?_
 rw [Int.toNat_natCast]
 exact rdTrs_enc g5 _
noncomputable def okP (p : Pd) : Bool := @decide (RightP p) (Classical.propDecidable _)
theorem okP_iff (p : Pd) : okP p = true ↔ RightP p := by unfold okP; exact @decide_eq_true_iff _ (Classical.propDecidable _)
def lastId (acc : List Pd) (p : Pd) : Bool := match acc.getLast? with
 | none => true
 | some q => decide (q.id < p.id)
noncomputable def rdPds : Nat → List Pd → List Nat → Bool → Option (List Pd × List Nat × Bool)
 | 0, acc, bs, f => some (acc, bs, f)
 | n + 1, acc, bs, f => if f = true then some (acc, bs, f) else if (okP (rdPd bs f).1 && lastId acc (rdPd bs f).1) = true then rdPds n (acc ++ [(rdPd bs f).1]) (rdPd bs f).2.1 (rdPd bs f).2.2 else none
theorem rdPds_fell (n : Nat) (acc : List Pd) (bs : List Nat) : rdPds n acc bs true = some (acc, bs, true) := by
 cases n
 · rfl
 · show (if true = true then _ else _) = _
   rw [if_pos rfl]
theorem rdPds_yes {n : Nat} {acc : List Pd} {bs b : List Nat} {p : Pd} {f : Bool} (h : rdPd bs false = (p, b, f)) (hp : okP p = true) (ha : lastId acc p = true) : rdPds (n + 1) acc bs false = rdPds n (acc ++ [p]) b f := by
 show (if false = true then _ else _) = _
 rw [if_neg (by decide), h]
 show (if (okP p && lastId acc p) = true then _ else _) = _
 rw [hp, ha]
 rfl
theorem rdPds_no {n : Nat} {acc : List Pd} {bs b : List Nat} {p : Pd} {f : Bool} (h : rdPd bs false = (p, b, f)) (hp : okP p = false ∨ lastId acc p = false) : rdPds (n + 1) acc bs false = none := by
 show (if false = true then _ else _) = _
 rw [if_neg (by decide), h]
 show (if (okP p && lastId acc p) = true then _ else _) = _
 rcases hp with e | e
 · rw [e]; rfl
 · rw [e, Bool.and_false]; rfl
theorem asc_snoc {acc : List Pd} {p : Pd} (h : Asc acc) (ha : lastId acc p = true) : Asc (acc ++ [p]) := by
 unfold Asc at *
 refine List.pairwise_append.2 ⟨h, List.pairwise_singleton _ _, fun a hm b hb => ?_⟩
 rw [List.mem_singleton] at hb
 subst hb
 rcases List.eq_nil_or_concat acc with e | ⟨i, q, e⟩
 · rw [e] at hm; cases hm
 · subst e
   unfold lastId at ha
   rw [List.concat_eq_append, List.getLast?_append, List.getLast?_singleton] at ha
   have hq : q.id < b.id := of_decide_eq_true ha
   rw [List.concat_eq_append] at h hm
   rcases List.mem_append.1 hm with hm | hm
   · have := (List.pairwise_append.1 h).2.2 a hm q (by simp)
     omega
   · rw [List.mem_singleton] at hm
     rw [hm]
     exact hq
theorem last_asc {acc l : List Pd} {p : Pd} (h : Asc (acc ++ p :: l)) : lastId acc p = true := by
 unfold lastId
 cases hg : acc.getLast? with
 | none => rfl
 | some q =>
   have hq : q ∈ acc := List.mem_of_getLast? hg
   exact decide_eq_true ((List.pairwise_append.1 h).2.2 q hq p (by simp))
theorem rdPds_enc : ∀ (l acc : List Pd) (h : ∀ p ∈ l, PdIn p) (hr : ∀ p ∈ l, RightP p) (ha : Asc (acc ++ l)) (r : List Nat), rdPds l.length acc (pdsS l ++ r) false = some (acc ++ l, r, false)
 | [], acc, _, _, _, r => by rw [List.append_nil]; rfl
 | p :: l, acc, h, hr, ha, r => by
   have h1 : rdPd (pdS p ++ pdsS l ++ r) false = (p, pdsS l ++ r, false) := by
    rw [List.append_assoc]
    exact rdPd_enc (h p (by simp)) _
   show rdPds (l.length + 1) acc (pdS p ++ pdsS l ++ r) false = _
   rw [rdPds_yes h1 ((okP_iff p).2 (hr p (by simp))) (last_asc ha)]
   have e : acc ++ p :: l = (acc ++ [p]) ++ l := by rw [List.append_assoc]; rfl
   rw [e] at ha ⊢
   exact rdPds_enc l _ (fun q hq => h q (by simp [hq])) (fun q hq => hr q (by simp [hq])) ha r
/-- What reading gives: what stands behind the sum, whether the sum is another. -/
def openS (bs : List Nat) : List Nat × Bool := if CrcMath.okB bs = true then (bs.drop 4, false) else ([], true)
noncomputable def rdAll (bs : List Nat) : Int × Option (List Pd × List Nat × Bool) :=
 let a := rdN (openS bs).1 (openS bs).2
 let c := rdN a.2.1 a.2.2
 (a.1, rdPds c.1.toNat [] c.2.1 c.2.2)
theorem rdAll_of {bs b1 b2 : List Nat} {f1 f2 : Bool} {n k : Int} (h1 : rdN (openS bs).1 (openS bs).2 = (n, b1, f1)) (h2 : rdN b1 f1 = (k, b2, f2)) : rdAll bs = (n, rdPds k.toNat [] b2 f2) := by
 unfold rdAll
 simp only [h1, h2]
theorem trS_pos {p : Pd} (h : PdIn p) : 4 ≤ (pdS p).length := by
 obtain ⟨g1, g2, g3, g4, g5⟩ := h
 have h1 := (encN_len g1).1
 have h2 := (encN_len g2).1
 have h3 := (encN_len g3).1
 have h4 := (encN_len (in_nat g4)).1
 unfold pdS
 simp only [List.length_append]
 omega
theorem pdsS_pos : ∀ {l : List Pd} (h : ∀ p ∈ l, PdIn p), 4 * l.length ≤ (pdsS l).length
 | [], _ => Nat.le_refl _
 | p :: l, h => by
   have h1 := trS_pos (h p (by simp))
   have h2 := pdsS_pos (l := l) fun q hq => h q (by simp [hq])
   show _ ≤ (pdS p ++ pdsS l).length
   rw [List.length_append, List.length_cons]
   omega
theorem tr_in {x : Tr} (h : TrOk x) : TrIn x := by
 obtain ⟨h1, _, h3, h4⟩ := h
 have hb : SeqMath.rightB x.f = true ∧ SeqMath.rightB x.l = true := by
  rcases Classical.em (SeqMath.rightB x.f = true ∧ SeqMath.rightB x.l = true) with h | h
  · exact h
  · unfold SeqMath.gapI at h1
    rw [if_neg h] at h1
    omega
 have hr : ∀ n : Int, SeqMath.rightB n = true → 0 ≤ n ∧ n ≤ 2147483647 := fun n hn => by
  unfold SeqMath.rightB at hn
  simpa using hn
 have c1 := hr _ hb.1
 have c2 := hr _ hb.2
 exact ⟨⟨by omega, by omega⟩, ⟨by omega, by omega⟩, ⟨by omega, by omega⟩⟩
theorem right_in {p : Pd} (h : RightP p) (hi : In64 p.id) : PdIn p := by
 obtain ⟨⟨h1, h2, h3, h4, h5, h6⟩, hs⟩ := h
 refine ⟨hi, ⟨by omega, by omega⟩, ⟨by omega, by omega⟩, by omega, fun x hx => ?_⟩
 obtain ⟨j, hj⟩ := List.mem_iff_getElem?.1 hx
 exact tr_in (hs j x hj).1
theorem rdPd_id (bs : List Nat) (f : Bool) : In64 (rdPd bs f).1.id := rdN_in bs f
/-- What the list holds at every round. -/
structure AccOk (acc : List Pd) : Prop where
 right : ∀ p ∈ acc, RightP p
 ids : ∀ p ∈ acc, In64 p.id
 asc : Asc acc
theorem AccOk.nil : AccOk [] := ⟨fun p h => (by cases h), fun p h => (by cases h), List.Pairwise.nil⟩
theorem AccOk.snoc {acc : List Pd} {p : Pd} (h : AccOk acc) (hp : RightP p) (hi : In64 p.id) (ha : lastId acc p = true) : AccOk (acc ++ [p]) := by
 refine ⟨fun q hq => ?_, fun q hq => ?_, asc_snoc h.asc ha⟩
 · rcases List.mem_append.1 hq with hq | hq
   · exact h.right q hq
   · rw [List.mem_singleton] at hq
     rw [hq]
     exact hp
 · rcases List.mem_append.1 hq with hq | hq
   · exact h.ids q hq
   · rw [List.mem_singleton] at hq
     rw [hq]
     exact hi
theorem AccOk.pdIn {acc : List Pd} (h : AccOk acc) : ∀ p ∈ acc, PdIn p := fun p hp => right_in (h.right p hp) (h.ids p hp)
theorem AccOk.few {acc : List Pd} (h : AccOk acc) : ∀ p ∈ acc, p.last.length ≤ 5 := fun p hp => (h.right p hp).1.2.2.2.2.2
theorem rdPds_acc : ∀ (n : Nat) (acc : List Pd) (bs : List Nat) (f : Bool) {l : List Pd} {r : List Nat} {g : Bool}, rdPds n acc bs f = some (l, r, g) → AccOk acc → AccOk l
 | 0, acc, bs, f, l, r, g, e, h => by cases e; exact h
 | n + 1, acc, bs, true, l, r, g, e, h => by
   rw [rdPds_fell] at e
   cases e
   exact h
 | n + 1, acc, bs, false, l, r, g, e, h => by
   obtain ⟨⟨p, b, f⟩, hp⟩ : ∃ q, rdPd bs false = q := ⟨_, rfl⟩
   cases hk : okP p with
   | false => rw [rdPds_no hp (Or.inl hk)] at e; cases e
   | true =>
     cases ha : lastId acc p with
     | false => rw [rdPds_no hp (Or.inr ha)] at e; cases e
     | true =>
       rw [rdPds_yes hp hk ha] at e
       have hi := rdPd_id bs false
       rw [hp] at hi
       exact rdPds_acc n _ _ _ e (h.snoc ((okP_iff p).1 hk) hi ha)
/-- Bytes that are a table's and a number's. -/
def IsSnap (bs : List Nat) (l : List Pd) (n : Int) : Prop := AccOk l ∧ (0 ≤ n ∧ n ≤ 1099511627776) ∧ bs = snapS l n
theorem snap_few {l : List Pd} {n : Int} (h : AccOk l) : 4 * l.length ≤ (snapS l n).length := by
 have := pdsS_pos h.pdIn
 unfold snapS bodyS
 rw [CrcMath.length_sealB, List.length_append, List.length_append]
 omega
theorem IsSnap.rd {bs : List Nat} {l : List Pd} {n : Int} (h : IsSnap bs l n) (hL : bs.length ≤ 1048600) : rdAll bs = (n, some (l, [], false)) := by
 obtain ⟨ha, hn, e⟩ := h
 have h4 := snap_few (n := n) ha
 rw [← e] at h4
 have hin : PdsIn l := ⟨by omega, ha.pdIn⟩
 have hn64 : In64 n := ⟨by omega, by omega⟩
 have hok : CrcMath.okB bs = true := by
  rw [e]
  exact CrcMath.okB_seal (bodyS_all hin hn64)
 have ho : openS bs = (bodyS l n, false) := by
  unfold openS
  rw [if_pos hok, e]
  unfold snapS
  rw [CrcMath.drop_sealB]
 have h1 : rdN (openS bs).1 (openS bs).2 = (n, encN (l.length : Int) ++ pdsS l, false) := by
  rw [ho]
  exact rdN_enc hn64 _
 have h2 := rdN_enc (in_nat hin.1) (pdsS l)
 rw [rdAll_of h1 h2, Int.toNat_natCast]
 have h3 := rdPds_enc l [] hin.2 ha.right ha.asc []
 rw [List.append_nil] at h3
 rw [h3]
 rfl
theorem rd_none {bs : List Nat} {n : Int} (h : rdAll bs = (n, none)) (hL : bs.length ≤ 1048600) : ∀ l m, ¬ IsSnap bs l m := fun l m hs => by
 rw [hs.rd hL] at h
 cases h
theorem rd_no {bs : List Nat} {n : Int} {l : List Pd} {r : List Nat} {g : Bool} (h : rdAll bs = (n, some (l, r, g))) (hL : bs.length ≤ 1048600) (hb : ¬ (g = false ∧ r = [] ∧ 0 ≤ n ∧ n ≤ 1099511627776 ∧ snapS l n = bs)) : ∀ l m, ¬ IsSnap bs l m := fun l' m hs => by
 rw [hs.rd hL] at h
 cases h
 exact hb ⟨rfl, rfl, hs.2.1.1, hs.2.1.2, hs.2.2.symm⟩
theorem rd_yes {bs : List Nat} {n : Int} {l : List Pd} {r : List Nat} {g : Bool} (h : rdAll bs = (n, some (l, r, g))) (h0 : 0 ≤ n) (h1 : n ≤ 1099511627776) (hb : snapS l n = bs) : IsSnap bs l n := by
 refine ⟨?_, ⟨h0, h1⟩, hb.symm⟩
 have e := congrArg Prod.snd h
 exact rdPds_acc _ _ _ _ e AccOk.nil
theorem rdPd_left (bs : List Nat) (f : Bool) : (rdPd bs f).2.1.length + (if (rdPd bs f).2.2 then 0 else 4) ≤ bs.length := by
 have := rdPd_len bs f
 cases h : (rdPd bs f).2.2 with
 | true => show _ + 0 ≤ _; omega
 | false => have := (this.2.1 h).2; show _ + 4 ≤ _; omega
end Go.SnapMath
namespace Go.Proofs.YtgohekjkbgfeeaaGreat
open Go.RowKit
open Go.SnapMath
open Go.VarMath hiding AllB
set_option linter.unusedVariables false

theorem getB_zero {bs : List Nat} (h : (getB bs).2 = 0) : getB bs = (0, 0) := by
 cases hs : scan 10 bs with
 | none => exact getB_none hs
 | some l =>
   rw [getB_some hs] at h ⊢
   split at h
   · rename_i hc
     have hl : l = [] := List.eq_nil_of_length_eq_zero h
     have h1 := (enc_len (u := val l % two64) (Nat.mod_lt _ (by decide))).1
     rw [hc, hl] at h1
     exact absurd h1 (by decide)
   · rename_i hc
     rw [if_neg hc]
theorem run_from0 (ad : Option Addr) (len cap : Nat) (W : World) : (Instr.slice 31 (.slice ad len cap) (some (.int .i64 0)) none none).run Tryz.prog W = .ok (.slice ad len cap) W := by
 rw [run_slice_l _ _ _ _ _ elem22 _ _ (by omega) (by omega), sizeElem]
 simp only [Result.andThen, sliced]
 cases ad with
 | none => simp
 | some a => obtain ⟨b, o, x⟩ := a; cases x <;> simp [Addr.add]
/-- A block that is one cursor. -/
def KBox (w : World) (k : Nat) (v : Value) (b : Bool) : Prop := w.heap[k]? = some (.cells #[v, .bool b] 96 (0, 0))
section
variable {w w' : World} {k : Nat} {v : Value} {b : Bool}
theorem KBox.c0 (h : KBox w k v b) : w.cell? ⟨k, 0, none⟩ = some v := by rw [cell_of_row _ _ 0 _ _ _ h]; rfl
theorem KBox.c1 (h : KBox w k v b) : w.cell? ⟨k, 1, none⟩ = some (.bool b) := by rw [cell_of_row _ _ 1 _ _ _ h]; rfl
theorem KBox.free (h : KBox w k v b) (j : Nat) : w.frozen? ⟨k, j, none⟩ = false := frozen_of_row w k j _ _ h
theorem KBox.lt (h : KBox w k v b) : k < w.heap.size := lt_of_block h
theorem KBox.on (h : KBox w k v b) (hb : Below w.heap.size w w') : KBox w' k v b := by
 have hlt := h.lt
 unfold KBox at *
 rw [hb.block k hlt]
 exact h
theorem KBox.s0 (h : KBox w k v b) (u : Value) : KBox (w.setCell ⟨k, 0, none⟩ u) k u b := box_set h 0 _
theorem KBox.s1 (h : KBox w k v b) (c : Bool) : KBox (w.setCell ⟨k, 1, none⟩ (.bool c)) k v c := box_set h 1 _
theorem kbox_new (w : World) (v : Value) (b : Bool) : KBox (w.alloc (.cells #[v, .bool b] 96)) w.heap.size v b := heap_alloc_new w _
end
/-- A cursor that stands before bs; the bytes are those of w0, that is older than it. -/
structure KrAt (w0 w : World) (k : Nat) (bs : List Nat) (fell : Bool) : Prop where
 old : w0.heap.size ≤ k
 below : Below w0.heap.size w0 w
 box : ∃ ad len cap, KBox w k (.slice ad len cap) fell ∧ Byt w0 ad len cap bs
 stuck : fell = true → (getB bs).2 = 0
theorem KrAt.on {w0 w w' : World} {k : Nat} {bs : List Nat} {fell : Bool} (h : KrAt w0 w k bs fell) (hb : Below w.heap.size w w') : KrAt w0 w' k bs fell := by
 obtain ⟨ad, len, cap, h1, h2⟩ := h.box
 exact ⟨h.old, h.below.trans (hb.mono h.below.size), ⟨ad, len, cap, h1.on hb, h2⟩, h.stuck⟩
theorem KrAt.off {w0 w : World} {k P j : Nat} {bs : List Nat} {fell : Bool} (h : KrAt w0 w k bs fell) (hP : P ≠ k) (hP0 : w0.heap.size ≤ P) (u : Value) : KrAt w0 (w.setCell ⟨P, j, none⟩ u) k bs fell := by
 obtain ⟨ad, len, cap, h1, h2⟩ := h.box
 exact ⟨h.old, h.below.setCell hP0 _, ⟨ad, len, cap, box_off h1 hP u, h2⟩, h.stuck⟩
theorem KrAt.grown {w0 w w' : World} {k : Nat} {bs : List Nat} {fell : Bool} {r : Option Nat} (h : KrAt w0 w k bs fell) (hg : w.grownBy w' r) (hr : ∀ j, r = some j → w0.heap.size ≤ j ∧ j ≠ k) : KrAt w0 w' k bs fell := by
 obtain ⟨ad, len, cap, h1, h2⟩ := h.box
 refine ⟨h.old, h.below.grown hg h.below.size (fun j hj => (hr j hj).1), ⟨ad, len, cap, ?_, h2⟩, h.stuck⟩
 have hlt := h1.lt
 unfold KBox at *
 rw [hg.block k hlt (fun e => (hr k e.symm).2 rfl)]
 exact h1
theorem KrAt.lt {w0 w : World} {k : Nat} {bs : List Nat} {fell : Bool} (h : KrAt w0 w k bs fell) : k < w.heap.size := by
 obtain ⟨ad, len, cap, h1, h2⟩ := h.box
 exact h1.lt
theorem KrAt.c1 {w0 w : World} {k : Nat} {bs : List Nat} {fell : Bool} (h : KrAt w0 w k bs fell) : w.cell? ⟨k, 1, none⟩ = some (.bool fell) := by
 obtain ⟨ad, len, cap, h1, h2⟩ := h.box
 exact h1.c1
def GivesSnNext (w0 w : World) (k : Nat) (bs : List Nat) (fell : Bool) (e : Ending) (w' : World) : Prop :=
 e = .returned (.int .i64 (rdN bs fell).1) ∧ KrAt w0 w' k (rdN bs fell).2.1 (rdN bs fell).2.2 ∧ w.grownBy w' (some k)
theorem gives_snNext {w0 w w1 : World} {k : Nat} {bs bs' : List Nat} {fell fell' : Bool} {n : Int} {ad : Option Addr} {len cap : Nat} (e : rdN bs fell = (n, bs', fell')) (ho : w0.heap.size ≤ k) (hg : w.grownBy w1 (some k)) (hb : Below w0.heap.size w0 w1)
 (hx : KBox w1 k (.slice ad len cap) fell') (hy : Byt w0 ad len cap bs') (hs : fell' = true → (getB bs').2 = 0) : GivesSnNext w0 w k bs fell (.returned (.int .i64 n)) w1 := by
 unfold GivesSnNext
 rw [e]
 exact ⟨rfl, ⟨ho, hb, ⟨ad, len, cap, hx, hy⟩, hs⟩, hg⟩
set_option maxHeartbeats 2000000 in
set_option maxRecDepth 100000 in
theorem snNext_any (w0 w : World) (k : Nat) (bs : List Nat) (fell : Bool) (h : KrAt w0 w k bs fell) (hL : bs.length ≤ 140737488355328) :
 Calls Tryz.prog 40 #[.pointer (some ⟨k, 0, none⟩)] w (GivesSnNext w0 w k bs fell) := by
 obtain ⟨hold, hbel, ⟨ad, len, cap, hbox, hbyt⟩, hst⟩ := h
 have HO := Lib.hid hold
 have HBL := Lib.hid hbel
 have HX := Lib.hid hbox
 have HY := Lib.hid hbyt
 have HST := Lib.hid hst
 have hlen : len ≤ 140737488355328 := by rw [← hbyt.length]; exact hL
 clear hold hbel hbox hbyt hL hst
 have r0 := HX.out.c0
 go_enter Tryz.func40, Tryz.ntmps40
 go_wp2_with fail
 refine (get_any w ad len cap bs (HY.out.keep HBL.out (Nat.le_refl _)) hlen).mono ?_
 rintro e w1 ⟨rfl, hb0⟩
 have hb : Below w.heap.size w w1 := by rw [← hb0]; exact Below.refl _ _
 clear hb0
 have HG : Hid (w.grownBy w1 (some k)) := grow_below (grow_refl w (some k)) hb
 replace HX := Lib.hid (HX.out.on hb)
 replace HBL := Lib.hid (HBL.out.trans (hb.mono HBL.out.size))
 clear hb r0
 obtain ⟨n, hn⟩ : ∃ n, n = (getB bs).1 := ⟨_, rfl⟩
 obtain ⟨j, hj⟩ : ∃ j, j = (getB bs).2 := ⟨_, rfl⟩
 have hg : getB bs = (n, j) := by rw [hn, hj]
 have hjl : j ≤ len := by have := (getB_bounds bs).2.1; rw [HY.out.length] at this; omega
 rw [← hn, ← hj]
 rw [← hj] at HST
 have HGB := Lib.hid hg
 clear hn hj hg
 have r0 := HX.out.c0
 have r1 := HX.out.c1
 have f0 := HX.out.free 0
 have f1 := HX.out.free 1
 by_cases hj0 : j = 0
 · subst hj0
   have hd : ((0 : Int) == 0) = true := rfl
   have hn0 : n = 0 := by
    have h1 := getB_zero (bs := bs) (by rw [HGB.out])
    rw [HGB.out] at h1
    exact congrArg Prod.fst h1
   subst hn0
   have HE : Hid (rdN bs fell = (0, bs, true)) := rdN_no (Or.inr (by rw [HGB.out]))
   have HZ : Hid ((getB bs).2 = 0) := by show _ = _; rw [HGB.out]
   have hsl := run_from0 ad len cap
   cases fell with
   | true =>
     go_wp2
     go_ret
     exact gives_snNext HE.out HO.out (grow_set (grow_set HG.out 1 _) 0 _) ((HBL.out.setCell HO.out _).setCell HO.out _) ((HX.out.s1 true).s0 _) HY.out (fun _ => HZ.out)
   | false =>
     go_wp2
     go_ret
     exact gives_snNext HE.out HO.out (grow_set (grow_set HG.out 1 _) 0 _) ((HBL.out.setCell HO.out _).setCell HO.out _) ((HX.out.s1 true).s0 _) HY.out (fun _ => HZ.out)
 · have hd : ((j : Int) == 0) = false := by
    rw [beq_eq_false_iff_ne]
    omega
   have hf : fell = false := by
    cases fell
    · rfl
    · exact absurd (HST.out rfl) hj0
   subst hf
   obtain ⟨b, off, rfl, hcell⟩ : ∃ b off, ad = some ⟨b, off, none⟩ ∧ True := by
    rcases HY.out.cells with h0 | ⟨b, off, e, _⟩
    · omega
    · exact ⟨b, off, e, trivial⟩
   obtain ⟨o, c, hsl, hby⟩ := from_lit HY.out j (j : Int) rfl hjl
   have HZ := Lib.hid hby
   clear hby
   go_wp2
   go_ret
   exact gives_snNext (rdN_yes HGB.out hj0) HO.out (grow_set HG.out 0 _) (HBL.out.setCell HO.out _) (HX.out.s0 _) HZ.out (fun e => by cases e)
end Go.Proofs.YtgohekjkbgfeeaaGreat
namespace Go.SnapMath
open Go.ProdMath
open Go.BatMath (In64)
open Go.VarMath (encN encU getB getB_encN getB_bounds getB_none getB_some scan val two64 zig_zag AllB)
set_option linter.unusedVariables false

theorem scan_split : ∀ (f : Nat) (bs l : List Nat), scan f bs = some l → ∃ r, bs = l ++ r
 | 0, bs, l, h => by cases h
 | f + 1, [], l, h => by cases h
 | f + 1, b :: r, l, h => by
   unfold scan at h
   split at h
   · cases h; exact ⟨r, rfl⟩
   · cases hs : scan f r with
     | none => rw [hs] at h; cases h
     | some l2 =>
       rw [hs] at h
       obtain ⟨r2, e⟩ := scan_split f r l2 hs
       cases h
       exact ⟨r2, by rw [e]; rfl⟩
theorem getB_is {bs : List Nat} {n : Int} {j : Nat} (h : getB bs = (n, j)) (hj : j ≠ 0) : bs = encN n ++ bs.drop j ∧ In64 n := by
 have hb := getB_bounds bs
 rw [h] at hb
 refine ⟨?_, hb.2.2.1, hb.2.2.2⟩
 cases hs : scan 10 bs with
 | none => rw [getB_none hs] at h; cases h; exact absurd rfl hj
 | some l =>
   rw [getB_some hs] at h
   split at h
   · rename_i hc
     obtain ⟨r, e⟩ := scan_split 10 bs l hs
     obtain ⟨h1, h2⟩ := Prod.mk.inj h
     have he : encN n = l := by rw [← h1]; show encU (VarMath.zig _) = l; rw [zig_zag]; exact hc
     rw [he, e, ← h2, List.drop_left]
   · cases h; exact absurd rfl hj
theorem rdN_is {bs b : List Nat} {n : Int} (h : rdN bs false = (n, b, false)) : bs = encN n ++ b ∧ In64 n := by
 by_cases h0 : (getB bs).2 = 0
 · rw [rdN_no (Or.inr h0)] at h; cases h
 · rw [rdN_yes (n := (getB bs).1) (j := (getB bs).2) rfl h0] at h
   cases h
   exact getB_is rfl h0
theorem rdN_false {bs b : List Nat} {n : Int} {f g : Bool} (h : rdN bs f = (n, b, g)) (hg : g = false) : f = false := by
 cases f
 · rfl
 · rw [rdN_fell] at h; cases h; cases hg
theorem rdTr_is {bs b : List Nat} {x : Tr} {f : Bool} (h : rdTr bs f = (x, b, false)) : f = false ∧ bs = trS x ++ b ∧ TrIn x := by
 obtain ⟨⟨x1, b1, f1⟩, h1⟩ : ∃ r, rdN bs f = r := ⟨_, rfl⟩
 obtain ⟨⟨x2, b2, f2⟩, h2⟩ : ∃ r, rdN b1 f1 = r := ⟨_, rfl⟩
 obtain ⟨⟨x3, b3, f3⟩, h3⟩ : ∃ r, rdN b2 f2 = r := ⟨_, rfl⟩
 rw [rdTr_of h1 h2 h3] at h
 cases h
 obtain rfl := rdN_false h3 rfl
 obtain rfl := rdN_false h2 rfl
 obtain rfl := rdN_false h1 rfl
 obtain ⟨e1, i1⟩ := rdN_is h1
 obtain ⟨e2, i2⟩ := rdN_is h2
 obtain ⟨e3, i3⟩ := rdN_is h3
 refine ⟨rfl, ?_, i1, i2, i3⟩
 rw [e1, e2, e3]
 unfold trS
 simp only [List.append_assoc]
/-- So many elements, one behind the other, whether a number fell or not. -/
def rdF : Nat → List Nat → Bool → List Tr × List Nat × Bool
 | 0, bs, f => ([], bs, f)
 | i + 1, bs, f => ((rdF i bs f).1 ++ [(rdTr (rdF i bs f).2.1 (rdF i bs f).2.2).1], (rdTr (rdF i bs f).2.1 (rdF i bs f).2.2).2)
theorem rdF_succ {i : Nat} {bs b c : List Nat} {f g h : Bool} {l : List Tr} {x : Tr} (e : rdF i bs f = (l, b, g)) (e2 : rdTr b g = (x, c, h)) : rdF (i + 1) bs f = (l ++ [x], c, h) := by
 show (_, _) = _
 rw [e, e2]
theorem rdF_len : ∀ (i : Nat) (bs : List Nat) (f : Bool), (rdF i bs f).1.length = i ∧ (rdF i bs f).2.1.length ≤ bs.length
 | 0, bs, f => ⟨rfl, Nat.le_refl _⟩
 | i + 1, bs, f => by
   obtain ⟨h1, h2⟩ := rdF_len i bs f
   refine ⟨?_, Nat.le_trans (rdTr_len _ _).1 h2⟩
   show ((rdF i bs f).1 ++ [_]).length = _
   rw [List.length_append, h1]
   rfl
theorem trsS_snoc : ∀ (l : List Tr) (x : Tr), trsS (l ++ [x]) = trsS l ++ trS x
 | [], x => by show trS x ++ [] = _; rw [List.append_nil]; rfl
 | y :: l, x => by
   show trS y ++ trsS (l ++ [x]) = trS y ++ trsS l ++ trS x
   rw [trsS_snoc l x, List.append_assoc]
theorem rdF_is : ∀ (i : Nat) (bs : List Nat) (f : Bool) {l : List Tr} {b : List Nat}, rdF i bs f = (l, b, false) → f = false ∧ bs = trsS l ++ b ∧ ∀ x ∈ l, TrIn x
 | 0, bs, f, l, b, h => by cases h; exact ⟨rfl, rfl, fun x hx => by cases hx⟩
 | i + 1, bs, f, l, b, h => by
   obtain ⟨⟨l1, b1, g1⟩, e⟩ : ∃ r, rdF i bs f = r := ⟨_, rfl⟩
   obtain ⟨⟨x, c, h2⟩, e2⟩ : ∃ r, rdTr b1 g1 = r := ⟨_, rfl⟩
   rw [rdF_succ e e2] at h
   cases h
   obtain ⟨rfl, hb, hx⟩ := rdTr_is e2
   obtain ⟨hf, hbs, hl⟩ := rdF_is i bs f e
   refine ⟨hf, ?_, fun y hy => ?_⟩
   · rw [hbs, hb, trsS_snoc, List.append_assoc]
   · rcases List.mem_append.1 hy with hy | hy
     · exact hl y hy
     · rw [List.mem_singleton.1 hy]; exact hx
theorem rdF_of {l : List Tr} (h : ∀ x ∈ l, TrIn x) (r : List Nat) : ∀ i, i ≤ l.length → rdF i (trsS l ++ r) false = (l.take i, trsS (l.drop i) ++ r, false)
 | 0, _ => rfl
 | i + 1, hi => by
   have e := rdF_of h r i (by omega)
   have hx : l.drop i = l[i] :: l.drop (i + 1) := List.drop_eq_getElem_cons (by omega)
   have e2 : rdTr (trsS (l.drop i) ++ r) false = (l[i], trsS (l.drop (i + 1)) ++ r, false) := by
    rw [hx]
    show rdTr (trS l[i] ++ trsS (l.drop (i + 1)) ++ r) false = _
    rw [List.append_assoc]
    exact rdTr_enc (h _ (List.getElem_mem _)) _
   rw [rdF_succ e e2, List.take_add_one, List.getElem?_eq_getElem (by omega)]
   rfl
def StNo (bs : List Nat) : Prop := ∀ p r, RightP p → In64 p.id → bs ≠ pdS p ++ r
theorem stHead_of {bs c1 c2 c3 c4 r : List Nat} {x1 x2 x3 x4 : Int} {g1 g2 g3 g4 : Bool} {p : Pd} (hp : PdIn p) (e : bs = pdS p ++ r) (e1 : rdN bs false = (x1, c1, g1)) (e2 : rdN c1 g1 = (x2, c2, g2)) (e3 : rdN c2 g2 = (x3, c3, g3)) (e4 : rdN c3 g3 = (x4, c4, g4)) :
 x1 = p.id ∧ x2 = p.epoch ∧ x3 = p.opn ∧ x4 = (p.last.length : Int) ∧ g4 = false ∧ c4 = trsS p.last ++ r := by
 obtain ⟨h1, h2, h3, h4, h5⟩ := hp
 unfold pdS at e
 rw [List.append_assoc, List.append_assoc, List.append_assoc, List.append_assoc] at e
 rw [e, rdN_enc h1] at e1
 cases e1
 rw [rdN_enc h2] at e2
 cases e2
 rw [rdN_enc h3] at e3
 cases e3
 rw [rdN_enc (in_nat h4)] at e4
 cases e4
 exact ⟨rfl, rfl, rfl, rfl, rfl, rfl⟩
theorem state_range {bs c1 c2 c3 c4 : List Nat} {x1 x2 x3 x4 : Int} {g1 g2 g3 g4 : Bool} (e1 : rdN bs false = (x1, c1, g1)) (e2 : rdN c1 g1 = (x2, c2, g2)) (e3 : rdN c2 g2 = (x3, c3, g3)) (e4 : rdN c3 g3 = (x4, c4, g4)) (h : x2 < 0 ∨ 32767 < x2 ∨ x4 < 0 ∨ 5 < x4) : StNo bs := fun p r hp hi e => by
 obtain ⟨a1, a2, a3, a4, _, _⟩ := stHead_of (right_in hp hi) e e1 e2 e3 e4
 obtain ⟨⟨h1, h2, h3, h4, h5, h6⟩, _⟩ := hp
 omega
theorem state_fell {bs c1 c2 c3 c4 c5 : List Nat} {x1 x2 x3 x4 : Int} {g1 g2 g3 g4 g5 : Bool} {l : List Tr} (e1 : rdN bs false = (x1, c1, g1)) (e2 : rdN c1 g1 = (x2, c2, g2)) (e3 : rdN c2 g2 = (x3, c3, g3)) (e4 : rdN c3 g3 = (x4, c4, g4)) (e5 : rdF x4.toNat c4 g4 = (l, c5, g5)) (h : g5 = true) : StNo bs := fun p r hp hi e => by
 obtain ⟨a1, a2, a3, a4, a5, a6⟩ := stHead_of (right_in hp hi) e e1 e2 e3 e4
 rw [a4, a5, a6, Int.toNat_natCast, rdF_of (right_in hp hi).2.2.2.2 r _ (Nat.le_refl _), h] at e5
 cases e5
theorem state_is {bs c1 c2 c3 c4 c5 : List Nat} {x1 x2 x3 x4 : Int} {g1 g2 g3 g4 : Bool} {l : List Tr} (e1 : rdN bs false = (x1, c1, g1)) (e2 : rdN c1 g1 = (x2, c2, g2)) (e3 : rdN c2 g2 = (x3, c3, g3)) (e4 : rdN c3 g3 = (x4, c4, g4)) (e5 : rdF x4.toNat c4 g4 = (l, c5, false)) (h0 : 0 ≤ x4) : bs = pdS ⟨x1, x2, l, x3⟩ ++ c5 ∧ In64 x1 := by
 obtain ⟨rfl, h4, hl⟩ := rdF_is _ _ _ e5
 have hll := (rdF_len x4.toNat c4 false).1
 rw [e5] at hll
 obtain rfl := rdN_false e4 rfl
 obtain rfl := rdN_false e3 rfl
 obtain rfl := rdN_false e2 rfl
 obtain ⟨a1, i1⟩ := rdN_is e1
 obtain ⟨a2, i2⟩ := rdN_is e2
 obtain ⟨a3, i3⟩ := rdN_is e3
 obtain ⟨a4, i4⟩ := rdN_is e4
 have hx : x4 = (l.length : Int) := by have h1 : l.length = x4.toNat := hll; omega
 refine ⟨?_, i1⟩
 rw [a1, a2, a3, a4, h4, hx]
 unfold pdS
 simp only [List.append_assoc]
theorem state_wrong {bs c1 c2 c3 c4 c5 : List Nat} {x1 x2 x3 x4 : Int} {g1 g2 g3 g4 : Bool} {l : List Tr} (e1 : rdN bs false = (x1, c1, g1)) (e2 : rdN c1 g1 = (x2, c2, g2)) (e3 : rdN c2 g2 = (x3, c3, g3)) (e4 : rdN c3 g3 = (x4, c4, g4)) (e5 : rdF x4.toNat c4 g4 = (l, c5, false)) (h : ¬ RightP ⟨x1, x2, l, x3⟩) : StNo bs := fun p r hp hi e => by
 obtain ⟨a1, a2, a3, a4, a5, a6⟩ := stHead_of (right_in hp hi) e e1 e2 e3 e4
 rw [a4, a5, a6, Int.toNat_natCast, rdF_of (right_in hp hi).2.2.2.2 r _ (Nat.le_refl _), List.take_length] at e5
 cases e5
 apply h
 rw [a1, a2, a3]
 exact hp
end Go.SnapMath
namespace Go.Proofs.YtgohekjkbgfeeaaGreat
open Go.RowKit
set_option linter.unusedVariables false

def byteK : Kind Nat := ⟨fun n => [.int .u8 (n : Int)], 1, 5, 31⟩
theorem byteK_ok : byteK.Ok 1 where
 und := Tryz.underlying31
 info := by
  obtain ⟨i, hi, hz, hs, hb⟩ := info_parts info5
  exact ⟨i, _, hi, hz, hs, hb, rfl⟩
 len := fun _ => rfl
 pos := by decide
 one := fun r u hu => by
  obtain rfl := List.mem_singleton.1 hu
  rfl
 few := by decide
theorem byteK_all : ∀ l : List Nat, byteK.all l = vals l
 | [] => rfl
 | x :: l => by
   have := byteK_all l
   unfold Kind.all vals at *
   rw [List.flatMap_cons, this]
   rfl
theorem own_bytes {w : World} {base : Nat} {v : Value} {l : List Nat} : OwnRow byteK w base v l ↔ w.ownsRow base 5 1 v l.length (vals l) := by
 unfold OwnRow
 rw [byteK_all]
 exact Iff.rfl
theorem row_bytes {w : World} {ad : Option Addr} {len cap : Nat} {l : List Nat} (h : Row w ad len cap l) : RowAt byteK w ad len cap l := by
 refine ⟨h.1.length, h.1.fits, h.2, ?_⟩
 have hl := h.1.length
 rcases h.1.cells with h0 | ⟨b, off, e, hc⟩
 · exact .inl h0
 · by_cases h0 : len = 0
   · exact .inl h0
   · refine .inr ⟨b, off, e, World.block_lt_of_cell? w _ (hc 0 (by omega)), fun i x hi j u hj => ?_⟩
     have hil : i < len := by have := (List.getElem?_eq_some_iff.1 hi).1; omega
     rcases j with _ | j
     · cases hj
       have := hc i hil
       rw [List.getD_eq_getElem?_getD, hi] at this
       show w.cell? ⟨b, off + (i * 1 + 0), none⟩ = _
       rw [Nat.mul_one, Nat.add_zero]
       exact this
     · simp [byteK] at hj
/-- 'x[k] ^= ..'. -/
theorem own_turned {w : World} {base g n cap k : Nat} {bs : List Nat} {z : Int} {y : Nat} (h : w.ownsRow base 5 1 (.slice (some ⟨g, 0, none⟩) n cap) n (vals bs)) (hz : z = (y : Int)) : (w.setCell ⟨g, k, none⟩ (.int .u8 z)).ownsRow base 5 1 (.slice (some ⟨g, 0, none⟩) n cap) n (vals (bs.set k y)) := by
 subst hz
 have := (World.ownsRow.stored h k (.int .u8 (y : Int))).1
 have e : (vals bs).set k (.int .u8 (y : Int)) = vals (bs.set k y) := by unfold vals; rw [List.map_set]; rfl
 rwa [e] at this
theorem all_set {bs : List Nat} (h : AllB bs) (k y : Nat) (hy : y < 256) : AllB (bs.set k y) := by
 intro x hx
 rcases List.mem_or_eq_of_mem_set hx with h1 | rfl
 · exact h x h1
 · exact hy
theorem own_byt {w : World} {base n : Nat} {v : Value} {l : List Nat} (h : OwnRow byteK w base v l) (ha : AllB l) (hn : l.length = n) : ∃ ad cap, v = .slice ad n cap ∧ Row w ad n cap l := by
 have h1 := own_bytes.1 h
 rw [hn] at h1
 obtain ⟨ad', cap', e, h2⟩ := owns_any h1 ha
 exact ⟨ad', cap', e, h2⟩
theorem byte_get {w : World} {ad : Option Addr} {len cap : Nat} {l : List Nat} (h : RowAt byteK w ad len cap l) {i : Nat} (hi : i < len) : ∃ b off k, ad = some ⟨b, off, none⟩ ∧ b < w.heap.size ∧ l[i]? = some k ∧ w.cell? ⟨b, off + i, none⟩ = some (.int .u8 (k : Int)) := by
 obtain ⟨b, off, k, e, hb, hk, hc⟩ := h.get hi
 have := hc 0 _ rfl
 rw [show i * byteK.size + 0 = i from Nat.mul_one i] at this
 exact ⟨b, off, k, e, hb, hk, this⟩
theorem byt_of {w : World} {ad : Option Addr} {len cap : Nat} {l : List Nat} (h : RowAt byteK w ad len cap l) (ha : AllB l) : Byt w ad len cap l := by
 refine ⟨h.length, h.fits, ha, ?_⟩
 rcases Nat.eq_zero_or_pos len with h0 | h0
 · exact .inl h0
 · obtain ⟨b, off, k, rfl, hb, hk, hc⟩ := byte_get h h0
   refine .inr ⟨b, off, rfl, fun i hi => ?_⟩
   obtain ⟨b2, off2, k2, e, _, hk2, hc2⟩ := byte_get h hi
   cases e
   rw [hc2, List.getD_eq_getElem?_getD, hk2]
   rfl
end Go.Proofs.YtgohekjkbgfeeaaGreat
namespace Go.Proofs.YtgohekjkbgfeeaaGreat
open Go.RowKit
open Go.BatMath hiding AllB take_all
set_option linter.unusedVariables false

def recVals (l : List Rc) : List Value := l.flatMap fun r => [.string r.key, .string r.val]
theorem recVals_len : ∀ l : List Rc, (recVals l).length = l.length * 2
 | [] => rfl
 | r :: l => by rw [recVals, List.flatMap_cons, List.length_append]; have := recVals_len l; unfold recVals at this; rw [this]; simp; omega
theorem recVals_app (a b : List Rc) : recVals (a ++ b) = recVals a ++ recVals b := by simp [recVals]
theorem recVals_at : ∀ (l : List Rc) (i : Nat) (r : Rc), l[i]? = some r → (recVals l)[i * 2]? = some (.string r.key) ∧ (recVals l)[i * 2 + 1]? = some (.string r.val)
 | [], i, r, h => by cases h
 | x :: l, 0, r, h => by
   cases h
   exact ⟨rfl, rfl⟩
 | x :: l, i + 1, r, h => by
   have ih := recVals_at l i r h
   have e : recVals (x :: l) = .string x.key :: .string x.val :: recVals l := rfl
   rw [e, show (i + 1) * 2 = i * 2 + 1 + 1 by omega]
   exact ih
theorem recVals_one (l : List Rc) : ∀ u ∈ recVals l, u.oneCell' = true := by
 intro u hu
 obtain ⟨r, _, h⟩ := List.mem_flatMap.1 hu
 rcases List.mem_cons.1 h with rfl | h
 · rfl
 · rcases List.mem_cons.1 h with rfl | h
   · rfl
   · cases h
def OwnRecs (w : World) (base : Nat) (v : Value) (l : List Rc) : Prop := w.ownsRow base 153 2 v l.length (recVals l)
theorem ownRecs_nil (w : World) (base : Nat) : OwnRecs w base (.slice none 0 0) [] := World.ownsRow_nil w base 153 2
theorem OwnRecs.on {w w' : World} {base : Nat} {v : Value} {l : List Rc} (h : OwnRecs w base v l) (hb : Below w.heap.size w w') : OwnRecs w' base v l := by
 refine ⟨h.1, ?_⟩
 rcases h.2 with hn | ⟨g, cap, cur, rfl, hbg, hh, r⟩
 · exact .inl hn
 · exact .inr ⟨g, cap, cur, rfl, hbg, (hb.block g (lt_of_block hh)).trans hh, r⟩
theorem OwnRecs.at {w : World} {base : Nat} {v : Value} {l : List Rc} (h : OwnRecs w base v l) : ∃ ad cap, v = .slice ad l.length cap ∧ RecsAt w ad l.length cap l ∧ (∀ a, ad = some a → base ≤ a.block) := by
 rcases h.2 with ⟨hn, h0⟩ | ⟨g, cap, cur, rfl, hbg, hh, hc, _, _, ht⟩
 · have hl := List.eq_nil_of_length_eq_zero h0
   subst hl
   exact ⟨none, 0, hn, recsAt_nil w, fun a h => by cases h⟩
 · refine ⟨_, _, rfl, ⟨rfl, hc, (fun h => by cases h), .inr ⟨g, 0, rfl, lt_of_block hh, fun i r hi => ?_⟩⟩, fun a h => by cases h; exact hbg⟩
   have hil : i < l.length := (List.getElem?_eq_some_iff.1 hi).1
   obtain ⟨h1, h2⟩ := recVals_at l i r hi
   rw [← ht, List.getElem?_take, if_pos (by omega)] at h1 h2
   rw [Nat.zero_add]
   refine ⟨?_, ?_⟩
   · rw [cell_of_row w g _ _ _ _ hh]; simpa using h1
   · rw [cell_of_row w g _ _ _ _ hh]; simpa using h2
theorem infoRec : (Tryz.prog.info? 153).map (fun i => (i.zero, i.size, i.bytes)) = some (some (.agg #[.string ⟨#[]⟩, .string ⟨#[]⟩]), 2, 32) := by kernel_rfl
/-- What a block of records reads as, record by record. -/
def RecNews (w : World) (a : Addr) (l : List Rc) : Prop := ∀ j u, (recVals l)[j]? = some u → w.cell? (a.add j) = some u
theorem recNews_lit (w : World) (k s : ByteArray) (g : Nat) (hg : g = w.heap.size) : RecNews (w.alloc (.cells #[.string k, .string s] 153)) ⟨g, 0, none⟩ [⟨k, s⟩] := by
 subst hg
 intro j u hj
 rw [add_at, Nat.zero_add]
 have hh : (w.alloc (.cells #[.string k, .string s] 153)).heap[w.heap.size]? = some (.cells #[.string k, .string s] 153 (0, 0)) := heap_alloc_new w _
 rw [cell_of_row _ _ _ _ _ _ hh]
 simpa [recVals] using hj
theorem run_recs_append (w : World) (base : Nat) (v : Value) (l m : List Rc) (ty : Nat) (hown : OwnRecs w base v l) (ad : Addr) (cap : Nat) (hr : RecNews w ad m) (hn : l.length + m.length ≤ 1000000) (hbase : base ≤ w.heap.size) :
 ∃ v' w', (Builtin.append_ #[54, 54] ty #[v, .slice (some ad) m.length cap]).run Tryz.prog w = .ok v' w' ∧ OwnRecs w' base v' (l ++ m) ∧ w.grownBy w' v.ownBlock := by
 obtain ⟨i0, hi, hz0, hz1, hz2⟩ := info_parts infoRec
 obtain ⟨v', w', hrun, h2, h3, _⟩ := run_append_own (P := Tryz.prog) w base 54 ty 153 i0 (.agg #[.string ⟨#[]⟩, .string ⟨#[]⟩]) 2 32 Tryz.underlying54 hi hz0 hz1 hz2 rfl (by decide) v l.length (recVals l) hown ad m.length cap (recVals m) (recVals_len m) hr (recVals_one m) (by unfold maxLen; omega) (by omega) hbase
 refine ⟨v', w', hrun, ?_, h3⟩
 unfold OwnRecs
 rw [recVals_app, List.length_append]
 exact h2
theorem list_recs {w : World} {ops : Array Oper} {rest : List Oper} {o : Oper} {a : Act} {Q : Exit → Act → World → Prop} (hw : Region.wanted o (yielded ops a.tmps) = true) (s x : Operand)
 (ho : o.op = .call { callee := .builtin .append, args := #[s, x], argTypes := #[54, 54] })
 (base : Nat) (l m : List Rc) (v : Value) (hs : a.eval s = v) (hown : OwnRecs w base v l) (hbase : base ≤ w.heap.size)
 (ad : Addr) (n cap : Nat) (hnm : m.length = n) (hx : a.eval x = .slice (some ad) n cap) (hr : RecNews w ad m) (hn : l.length + n ≤ 1000000)
 (h : ∀ v' w', OwnRecs w' base v' (l ++ m) → w.grownBy w' v.ownBlock → wpList Tryz.prog ops Q rest (a.put o.dst v') w') :
 wpList Tryz.prog ops Q (o :: rest) a w := by
 subst hnm
 refine BigFrame.wpList_want hw fun K hK => ?_
 obtain ⟨v', w', hrun, h2, h3⟩ := run_recs_append w base v l m o.type hown ad cap hr hn hbase
 unfold Oper.wp execOp
 simp only [ho, resolve, invoke, builtin, Sem.run_bind, Sem.run_pure, Result.andThen_ok, List.map_toArray, List.map_cons, List.map_nil, hs, hx, hrun]
 exact hK _ _ (h v' w' h2 h3)
/-- A cell of another block than the records' is written. -/
theorem RecsAt.put {w : World} {base j len cap : Nat} {ad : Option Addr} {l : List Rc} {u : Value} (h : RecsAt w ad len cap l) (hb : ∀ a, ad = some a → base < a.block) : RecsAt (w.setCell ⟨base, j, none⟩ u) ad len cap l := by
 refine ⟨h.length, h.fits, h.room, ?_⟩
 rcases h.cells with h0 | ⟨b, off, e, hlt, hc⟩
 · exact .inl h0
 · have hne : b ≠ base := by have := hb _ e; simp only at this; omega
   have hx : ∀ i, (w.setCell ⟨base, j, none⟩ u).cell? ⟨b, i, none⟩ = w.cell? ⟨b, i, none⟩ := fun i => World.cell?_of_block (a := ⟨b, i, none⟩) (by
    show (w.heap.modify base _)[b]? = _
    rw [Array.getElem?_modify, if_neg (Ne.symm hne)])
   refine .inr ⟨b, off, e, by simpa using hlt, fun i r hi => ?_⟩
   rw [hx, hx]
   exact hc i r hi
end Go.Proofs.YtgohekjkbgfeeaaGreat
namespace Go.Proofs.YtgohekjkbgfeeaaGreat
open Go.RowKit
open Go.SeqMath
open Go.BatMath hiding AllB take_all
set_option linter.unusedVariables false

def recK : Kind Rc := ⟨fun r => [.string r.key, .string r.val], 2, 153, 54⟩
theorem recK_ok : recK.Ok 32 where
 und := Tryz.underlying54
 info := by
  obtain ⟨i, hi, hz, hs, hb⟩ := info_parts infoRec
  exact ⟨i, _, hi, hz, hs, hb, rfl⟩
 len := fun _ => rfl
 pos := by decide
 one := fun r u hu => by
  simp only [recK, List.mem_cons, List.not_mem_nil, or_false] at hu
  rcases hu with rfl | rfl <;> rfl
 few := by decide
theorem recsAt_row {w : World} {ad : Option Addr} {len cap : Nat} {l : List Rc} : RecsAt w ad len cap l ↔ RowAt recK w ad len cap l := by
 constructor
 · intro h
   refine ⟨h.length, h.fits, h.room, ?_⟩
   rcases h.cells with h0 | ⟨b, off, e, hlt, hc⟩
   · exact .inl h0
   · refine .inr ⟨b, off, e, hlt, fun i x hi j u hj => ?_⟩
     obtain ⟨h1, h2⟩ := hc i x hi
     rcases j with _ | _ | j
     · cases hj; exact h1
     · cases hj; exact h2
     · simp [recK] at hj
 · intro h
   refine ⟨h.length, h.fits, h.room, ?_⟩
   rcases h.cells with h0 | ⟨b, off, e, hlt, hc⟩
   · exact .inl h0
   · exact .inr ⟨b, off, e, hlt, fun i x hi => ⟨hc i x hi 0 _ rfl, hc i x hi 1 _ rfl⟩⟩
end Go.Proofs.YtgohekjkbgfeeaaGreat
namespace Go.Proofs.YtgohekjkbgfeeaaGreat
open Go.RowKit
open Go.SeqMath
open Go.BatMath
set_option linter.unusedVariables false

theorem bel_drewN {B : Nat} {a w : World} (h : Below B a w) (n : Nat) : Below B a (w.drewN n) := h.trans ⟨rfl, rfl, rfl, Nat.le_refl _, fun _ _ => rfl⟩
end Go.Proofs.YtgohekjkbgfeeaaGreat
namespace Go.Proofs.YtgohekjkbgfeeaaGreat
open Go.RowKit
open Go.CrcMath hiding AllB
set_option linter.unusedVariables false

theorem xorc (c b : Nat) (hc : c < 4294967296) (hb : b < 256) : bits .xor .u32 (c : Int) (b : Int) = ((c ^^^ b : Nat) : Int) := u32_xor_nat c b hc (by omega)
theorem and1 (d : Nat) (h : d < 4294967296) : bits .and .u32 (d : Int) 1 = ((d % 2 : Nat) : Int) := by
 have := u32_and_nat d 1 h (by omega)
 rw [nat_mask1] at this
 exact this
theorem xorp (d : Nat) (h : d < 4294967296) : bits .xor .u32 ((d : Int) / 2) 2197175160 = ((d / 2 ^^^ poly : Nat) : Int) := by
 have := u32_xor_nat (d / 2) 2197175160 (by omega) (by omega)
 exact this
theorem bstep_odd (d : Nat) (h : d % 2 = 1) : bstep d = d / 2 ^^^ poly := if_pos h
theorem bstep_even (d : Nat) (h : ¬ d % 2 = 1) : bstep d = d / 2 := if_neg h
theorem u32_eq {a b : Int} (h : a = b) : Value.int .u32 a = Value.int .u32 b := by rw [h]
theorem ret_u32 {a b : Int} (h : a = b) : Ending.returned (.int .u32 a) = .returned (.int .u32 b) := by rw [h]


theorem cplc (c : Nat) (h : c < 4294967296) : bits .xor .u32 IntKind.u32.max (c : Int) = ((cpl c : Nat) : Int) := by
 have e : IntKind.u32.max = ((full : Nat) : Int) := by decide
 rw [e, u32_xor_nat full c full_lt h, cpl_eq]
theorem usig : IntKind.u32.signed = false := rfl
theorem xor00 : bits .xor .u32 IntKind.u32.max 4294967295 = 0 := by decide
theorem run_next (c : Nat) (bs : List Nat) (k : Nat) (h : k < bs.length) : run c (bs.take (k + 1)) = nxt (run c (bs.take k)) (bs.getD k 0) := by
 rw [List.take_succ_eq_append_getElem h, run_snoc, List.getD_eq_getElem?_getD, List.getElem?_eq_getElem h]; rfl
end Go.Proofs.YtgohekjkbgfeeaaGreat
namespace Go.Proofs.YtgohekjkbgfeeaaGreat
open Go.RowKit
open Go.CrcMath hiding AllB
set_option linter.unusedVariables false
set_option maxHeartbeats 400000 in
theorem next_any (c b : Nat) (w : World) (hc : c < 4294967296) (hb : b < 256) :
 Calls Tryz.prog 104 #[.int .u32 c, .int .u8 b] w fun e w' => e = .returned (.int .u32 (nxt c b : Nat)) ∧ w = w' := by
 have hx := xorc c b hc hb
 obtain ⟨x, hxe⟩ : ∃ x, x = c ^^^ b := ⟨_, rfl⟩
 have hxl : x < 4294967296 := by rw [hxe]; exact xor_lt hc (by omega)
 rw [← hxe] at hx
 have HX : Hid (x = c ^^^ b) := hxe
 clear hxe
 go_enter Tryz.func104, Tryz.ntmps104
 go_wp2
 go_loop [0, 10] (fun s i => ∃ k : Nat, k ≤ 8 ∧ i = .int .i64 k ∧ s = .int .u32 (bsteps k x : Nat)) (fun _ i => (8 - intOf i).toNat)
 case atStart => exact ⟨0, by omega, rfl, rfl⟩
 case round =>
  obtain ⟨k, hk, rfl, rfl⟩ := hrel
  have hl := bsteps_lt hxl k
  obtain ⟨d, hd⟩ : ∃ d, d = bsteps k x := ⟨_, rfl⟩
  rw [← hd] at hl ⊢
  have HD : Hid (d = bsteps k x) := hd
  clear hd hx
  have h1 := and1 d hl
  have h2 := xorp d hl
  by_cases hlt : k < 8
  · by_cases ho : d % 2 = 1
    · have hb1 : (((d % 2 : Nat) : Int) == 1) = true := by simp; omega
      have S : Hid (bsteps (k + 1) x = d / 2 ^^^ poly) := by show bstep (bsteps k x) = _; rw [← HD.out]; exact bstep_odd d ho
      clear ho
      go_wp2
      go_round
      case rel => exact ⟨k + 1, by omega, by go_num, by rw [S.out]⟩
      case measure => simp [intOf]; omega
    · have hb1 : (((d % 2 : Nat) : Int) == 1) = false := by simp; omega
      have S : Hid (bsteps (k + 1) x = d / 2) := by show bstep (bsteps k x) = _; rw [← HD.out]; exact bstep_even d ho
      clear ho
      go_wp2
      go_round
      case rel => exact ⟨k + 1, by omega, by go_num, by rw [S.out]; exact u32_eq (by omega)⟩
      case measure => simp [intOf]; omega
  · have E : Hid (d = nxt c b) := by
     have : k = 8 := by omega
     subst this
     show d = bsteps 8 (c ^^^ b)
     rw [HD.out, HX.out]
    go_wp2
    go_ret
    exact ⟨ret_u32 (by rw [E.out]), rfl⟩
set_option maxHeartbeats 400000 in
theorem of_any (w : World) (ad : Option Addr) (len cap : Nat) (bs : List Nat) (h : Byt w ad len cap bs) (hL : len ≤ 140737488355328) :
 Calls Tryz.prog 72 #[.slice ad len cap] w fun e w' => e = .returned (.int .u32 (ofB bs : Nat)) ∧ w = w' := by
 obtain ⟨hlen, hfit, hall, hcs⟩ := h
 rcases hcs with h0 | ⟨b, off, rfl, hcell⟩
 · subst h0
   obtain rfl : bs = [] := by simpa using hlen
   have E : Hid (ofB [] = 0) := by show _ = _; decide
   clear hlen hfit hall
   have hcp := xor00
   have hsg := usig
   go_enter Tryz.func72, Tryz.ntmps72
   go_wp2
   refine wp_loop_rounds 1 ?_
   rw [rounds_succ]
   go_wp2
   go_ret
   exact ⟨ret_u32 (by rw [E.out]; rfl), rfl⟩
 · have hmx : ∀ k, run full (bs.take k) < 4294967296 := fun k => run_lt _ _ full_lt (take_all hall k)
   have HM := Lib.hid hmx
   have HC := Lib.hid hcell
   have HA := Lib.hid hall
   have HL := Lib.hid hlen
   clear hmx hcell hall hlen
   go_enter Tryz.func72, Tryz.ntmps72
   go_wp2
   go_loop [3, 8] (fun s i => ∃ k : Nat, k ≤ len ∧ i = .int .i64 k ∧ s = .int .u32 (run full (bs.take k) : Nat)) (fun _ i => len - (intOf i).toNat)
   case atStart => exact ⟨0, by omega, rfl, rfl⟩
   case round =>
    obtain ⟨k, hk, rfl, rfl⟩ := hrel
    have hl := HM.out k
    obtain ⟨d, hd⟩ : ∃ d, d = run full (bs.take k) := ⟨_, rfl⟩
    rw [← hd] at hl ⊢
    have HD : Hid (d = run full (bs.take k)) := hd
    clear hd
    by_cases hlt : k < len
    · have hc := HC.out k hlt
      have hx8 := getD_all HA.out k
      obtain ⟨x, hx⟩ : ∃ x, x = bs.getD k 0 := ⟨_, rfl⟩
      rw [← hx] at hc hx8
      have S : Hid (run full (bs.take (k + 1)) = nxt d x) := by
       show _ = _
       rw [run_next _ _ _ (by rw [HL.out]; exact hlt), ← HD.out, ← hx]
      clear hx
      go_wp2_with (go_at_call 104; refine (next_any _ _ _ hl hx8).mono ?_; rintro e w' ⟨rfl, rfl⟩)
      go_round
      case rel => exact ⟨k + 1, by omega, by go_num, by rw [S.out]⟩
      case measure => simp [intOf]; omega
    · have hcp := cplc d hl
      have hsg := usig
      have E : Hid (cpl d = ofB bs) := by
       show _ = _
       rw [HD.out, List.take_of_length_le (by rw [HL.out]; omega)]; rfl
      go_wp2
      go_ret
      exact ⟨ret_u32 (by rw [E.out]), rfl⟩
end Go.Proofs.YtgohekjkbgfeeaaGreat
