/- Parts of a proof. -/
import Derived.OwnWalk
import Derived.Test.YtjmfdildnojknaaGreatKORK2
set_option maxRecDepth 100000
set_option maxHeartbeats 16000000
set_option linter.unusedVariables false
namespace Go.Proofs.YtjmfdildnojknaaGreat
open Go.RowKit
section
variable {w w' w1 w2 : World} {kt k : Nat}
theorem grow_refl (w : World) (r : Option Nat) : w.grownBy w r := ⟨rfl, rfl, rfl, Nat.le_refl _, fun _ _ _ => rfl⟩
theorem grow_trans {r : Option Nat} (h : w.grownBy w1 r) (h2 : w1.grownBy w2 r) : w.grownBy w2 r :=
 ⟨h2.os.trans h.os, h2.tape.trans h.tape, h2.output.trans h.output, Nat.le_trans h.size h2.size, fun k hk hn => (h2.block k (Nat.lt_of_lt_of_le hk h.size) hn).trans (h.block k hk hn)⟩
theorem grow_drewN {r : Option Nat} (h : w.grownBy w1 r) (n : Nat) : w.grownBy (w1.drewN n) r := grow_trans h ⟨rfl, rfl, rfl, Nat.le_refl _, fun _ _ _ => rfl⟩
theorem grow_alloc {r : Option Nat} (h : w.grownBy w1 r) (o : Obj) : w.grownBy (w1.alloc o) r := grow_trans h (World.grownBy_alloc w1 o r)
theorem grow_set (h : w.grownBy w1 (some kt)) (j : Nat) (u : Value) : w.grownBy (w1.setCell ⟨kt, j, none⟩ u) (some kt) :=
 grow_trans h ⟨rfl, rfl, rfl, by simp, fun k hk hn => by
  show (w1.heap.modify kt _)[k]? = _
  rw [Array.getElem?_modify, if_neg (fun e => hn (by rw [e]))]⟩
theorem grow_below {r : Option Nat} (h : w.grownBy w1 r) (hb : Below w1.heap.size w1 w2) : w.grownBy w2 r :=
 grow_trans h ⟨hb.os, hb.tape, hb.output, hb.size, fun k hk _ => hb.block k hk⟩
theorem grow_own {r : Option Nat} (h : w.grownBy w1 (some kt)) (h2 : w1.grownBy w2 r) (hr : ∀ k, r = some k → w.heap.size ≤ k) : w.grownBy w2 (some kt) :=
 ⟨h2.os.trans h.os, h2.tape.trans h.tape, h2.output.trans h.output, Nat.le_trans h.size h2.size, fun k hk hn => (h2.block k (Nat.lt_of_lt_of_le hk h.size) (fun e => by have := hr k e.symm; omega)).trans (h.block k hk hn)⟩
theorem grow_new {w w1 : World} {kt k j : Nat} (h : w.grownBy w1 (some kt)) (hk : w.heap.size ≤ k) (u : Value) : w.grownBy (w1.setCell ⟨k, j, none⟩ u) (some kt) :=
 ⟨h.os, h.tape, h.output, by simpa using h.size, fun i hi hn => by
  show (w1.heap.modify k _)[i]? = _
  rw [Array.getElem?_modify, if_neg (by omega)]
  exact h.block i hi hn⟩
theorem box_set {cs : Array Value} {t : TypeId} (h : w.heap[k]? = some (.cells cs t (0, 0))) (j : Nat) (u : Value) : (w.setCell ⟨k, j, none⟩ u).heap[k]? = some (.cells (cs.setIfInBounds j u) t (0, 0)) := by
 have hlt := lt_of_block h
 have h' : w.heap[k] = .cells cs t (0, 0) := by simpa [Array.getElem?_eq_getElem hlt] using h
 show (w.heap.modify k _)[k]? = _
 rw [Array.getElem?_eq_getElem (by simpa using hlt), Array.getElem_modify_self, h']
 rfl
theorem box_off {o : Obj} (h : w.heap[k]? = some o) {j i : Nat} (hj : j ≠ k) (u : Value) : (w.setCell ⟨j, i, none⟩ u).heap[k]? = some o := by
 rw [← h]
 show (w.heap.modify j _)[k]? = _
 rw [Array.getElem?_modify, if_neg hj]
end
theorem size_set (w : World) (a : Addr) (u : Value) : (w.setCell a u).heap.size = w.heap.size := by simp
theorem below_grown {W W' : World} {k B : Nat} (h : W.grownBy W' (some k)) (hk : B ≤ k) (hB : B ≤ W.heap.size) : Below B W W' :=
 ⟨h.os, h.tape, h.output, h.size, fun j hj => h.block j (Nat.lt_of_lt_of_le hj hB) (fun e => by cases e; omega)⟩
theorem results_cell_one {fn : Func} {p : Tmp} {ty : TypeId} (h : fn.results = #[.cell p ty]) (tmps : Array Value) (P : Program) (w : World) :
 (results fn tmps).run P w = ((asAddr (tmps.getD p undef)).run P w).andThen fun a w₁ => (loadVar ty a).run P w₁ := by
 simp only [results, h]
 simp [Sem.run_bind, Result.andThen]
end Go.Proofs.YtjmfdildnojknaaGreat
namespace Go.Proofs.YtjmfdildnojknaaGreat
open Go.RowKit
open Go.BatMath hiding AllB getD_lt take_all
open Go.VarMath (backB)
theorem u8_low (x : Nat) (h : x < 256) : bits .and .u8 (x : Int) 1 = ((x % 2 : Nat) : Int) := by
 have h1 : (BitVec.ofInt 8 1).toNat = 2 ^ 1 - 1 := by decide
 have key : (BitVec.ofInt 8 (x : Int) &&& BitVec.ofInt 8 1).toNat = ((x : Int) % ((2 ^ 8 : Nat) : Int)).toNat % 2 ^ 1 := by
  rw [BitVec.toNat_and, BitVec.toNat_ofInt, h1, Nat.and_two_pow_sub_one_eq_mod]
 show IntKind.u8.wrap ((BitVec.ofInt 8 (x : Int) &&& BitVec.ofInt 8 1).toNat : Nat) = _
 rw [key, IntKind.wrap_u8]
 omega
theorem bits_join (k a b : Nat) (ha : a % 2 ^ k = 0) (hb : b < 2 ^ k) : a ||| b = a + b := by
 obtain ⟨c, rfl⟩ : ∃ c, a = 2 ^ k * c := ⟨a / 2 ^ k, by have := Nat.div_add_mod a (2 ^ k); omega⟩
 exact (Nat.two_pow_add_eq_or_of_lt hb c).symm
theorem i64_or (k a b : Nat) (ha : a % 2 ^ k = 0) (hb : b < 2 ^ k) (h : a + b < 9223372036854775808) : bits .or .i64 (a : Int) (b : Int) = ((a + b : Nat) : Int) := by
 have h1 : (BitVec.ofInt 64 (a : Int)).toNat = a := by rw [BitVec.toNat_ofInt]; omega
 have h2 : (BitVec.ofInt 64 (b : Int)).toNat = b := by rw [BitVec.toNat_ofInt]; omega
 show IntKind.i64.wrap ((BitVec.ofInt 64 (a : Int) ||| BitVec.ofInt 64 (b : Int)).toNat : Nat) = _
 rw [BitVec.toNat_or, h1, h2, bits_join k a b ha hb, IntKind.wrap_i64]
 omega
section
variable {w : World} {k : Nat} {b0 b1 b2 b3 : Int} {b4 : Bool} {b5 : Int} {v : Value}
theorem BoxAt.s0 (h : BoxAt w k b0 b1 b2 b3 b4 b5 v) (n : Int) : BoxAt (w.setCell ⟨k, 0, none⟩ (.int .i64 n)) k n b1 b2 b3 b4 b5 v := box_set h 0 _
theorem BoxAt.s1 (h : BoxAt w k b0 b1 b2 b3 b4 b5 v) (n : Int) : BoxAt (w.setCell ⟨k, 1, none⟩ (.int .i64 n)) k b0 n b2 b3 b4 b5 v := box_set h 1 _
theorem BoxAt.s2 (h : BoxAt w k b0 b1 b2 b3 b4 b5 v) (n : Int) : BoxAt (w.setCell ⟨k, 2, none⟩ (.int .i64 n)) k b0 b1 n b3 b4 b5 v := box_set h 2 _
theorem BoxAt.s3 (h : BoxAt w k b0 b1 b2 b3 b4 b5 v) (n : Int) : BoxAt (w.setCell ⟨k, 3, none⟩ (.int .i64 n)) k b0 b1 b2 n b4 b5 v := box_set h 3 _
theorem BoxAt.s4 (h : BoxAt w k b0 b1 b2 b3 b4 b5 v) (n : Bool) : BoxAt (w.setCell ⟨k, 4, none⟩ (.bool n)) k b0 b1 b2 b3 n b5 v := box_set h 4 _
theorem BoxAt.s5 (h : BoxAt w k b0 b1 b2 b3 b4 b5 v) (n : Int) : BoxAt (w.setCell ⟨k, 5, none⟩ (.int .i64 n)) k b0 b1 b2 b3 b4 n v := box_set h 5 _
theorem BoxAt.s6 (h : BoxAt w k b0 b1 b2 b3 b4 b5 v) (u : Value) : BoxAt (w.setCell ⟨k, 6, none⟩ u) k b0 b1 b2 b3 b4 b5 u := box_set h 6 _
theorem BoxAt.off (h : BoxAt w k b0 b1 b2 b3 b4 b5 v) {j i : Nat} (hj : j ≠ k) (u : Value) : BoxAt (w.setCell ⟨j, i, none⟩ u) k b0 b1 b2 b3 b4 b5 v := box_off h hj u
end
theorem from_lit {w : World} {b off len cap : Nat} {bs : List Nat} (h : Byt w (some ⟨b, off, none⟩) len cap bs) (k : Nat) (z : Int) (hz : z = (k : Int)) (hk : k ≤ len) :
 ∃ o c, (∀ W, (Instr.slice 30 (.slice (some ⟨b, off, none⟩) len cap) (some (.int .i64 z)) none none).run Tryz.prog W = .ok (.slice (some ⟨b, o, none⟩) (len - k) c) W) ∧ Byt w (some ⟨b, o, none⟩) (len - k) c (bs.drop k) := by
 subst hz
 exact ⟨_, _, fun W => run_from b off len cap k hk W, byt_from h k hk⟩
theorem part_lit {w : World} {b off len cap : Nat} {bs : List Nat} (h : Byt w (some ⟨b, off, none⟩) len cap bs) (k m : Nat) (z y : Int) (hz : z = (k : Int)) (hy : y = (k : Int) + (m : Int)) (hk : k + m ≤ len) :
 ∃ o c, (∀ W, (Instr.slice 30 (.slice (some ⟨b, off, none⟩) len cap) (some (.int .i64 z)) (some (.int .i64 y)) none).run Tryz.prog W = .ok (.slice (some ⟨b, o, none⟩) m c) W) ∧ Byt w (some ⟨b, o, none⟩) m c ((bs.drop k).take m) := by
 subst hz hy
 exact cut_run h k m hk
theorem Byt.get {w : World} {ad : Option Addr} {len cap : Nat} {bs : List Nat} (h : Byt w ad len cap bs) (hp : 0 < len) : ∃ b off, ad = some ⟨b, off, none⟩ ∧ ∀ i, i < len → w.cell? ⟨b, off + i, none⟩ = some (.int .u8 (bs.getD i 0 : Nat)) := by
 rcases h.cells with h0 | h1
 · omega
 exact h1
end Go.Proofs.YtjmfdildnojknaaGreat
namespace Go.Proofs.YtjmfdildnojknaaGreat
open Go Go.RowKit
open Go.BatMath hiding AllB getD_lt take_all
theorem bxq {w W : World} {K : Nat} {b0 b1 b2 b3 : Int} {b4 : Bool} {b5 : Int} {v : Value} (e : W = w.alloc (.cells #[.int .i64 b0, .int .i64 b1, .int .i64 b2, .int .i64 b3, .bool b4, .int .i64 b5, v] 29)) (k : K = w.heap.size) : Hid (BoxAt W K b0 b1 b2 b3 b4 b5 v) := by
  show BoxAt _ _ _ _ _ _ _ _ _
  rw [e, k]
  exact boxAt_new w _ _ _ _ _ _ _
theorem bx0 {w W : World} {b0 b1 b2 b3 : Int} {b4 : Bool} {b5 : Int} {v : Value} (e : W = w.alloc (.cells #[.int .i64 b0, .int .i64 b1, .int .i64 b2, .int .i64 b3, .bool b4, .int .i64 b5, v] 29)) : Hid (BoxAt W w.heap.size b0 b1 b2 b3 b4 b5 v) := bxq e rfl
section
variable {w : World} {k : Nat} {b0 b1 b2 b3 : Int} {b4 : Bool} {b5 : Int} {v : Value}
theorem BoxAt.cs (h : BoxAt w k b0 b1 b2 b3 b4 b5 v) : w.cell? ⟨k, 0, none⟩ = some (.int .i64 b0) ∧ w.cell? ⟨k, 1, none⟩ = some (.int .i64 b1) ∧ w.cell? ⟨k, 2, none⟩ = some (.int .i64 b2) ∧ w.cell? ⟨k, 3, none⟩ = some (.int .i64 b3) ∧ w.cell? ⟨k, 4, none⟩ = some (.bool b4) ∧ w.cell? ⟨k, 5, none⟩ = some (.int .i64 b5) ∧ w.cell? ⟨k, 6, none⟩ = some v := ⟨h.c0, h.c1, h.c2, h.c3, h.c4, h.c5, h.c6⟩
theorem BoxAt.fs (h : BoxAt w k b0 b1 b2 b3 b4 b5 v) : w.frozen? ⟨k, 0, none⟩ = false ∧ w.frozen? ⟨k, 1, none⟩ = false ∧ w.frozen? ⟨k, 2, none⟩ = false ∧ w.frozen? ⟨k, 3, none⟩ = false ∧ w.frozen? ⟨k, 4, none⟩ = false ∧ w.frozen? ⟨k, 5, none⟩ = false ∧ w.frozen? ⟨k, 6, none⟩ = false := ⟨h.free 0, h.free 1, h.free 2, h.free 3, h.free 4, h.free 5, h.free 6⟩
end
end Go.Proofs.YtjmfdildnojknaaGreat
namespace Go.ProdMath
open Go.SeqMath
open Go.BatMath
structure Tr where
 f : Int
 l : Int
 b : Int
structure Pd where
 id : Int
 epoch : Int
 last : List Tr
 opn : Int
def Pd.zero : Pd := ⟨0, 0, [], 0⟩
structure Dr where
 prod : Int
 first : Int
 last : Int
def Dr.zero : Dr := ⟨0, 0, 0⟩
def hitB (x : Tr) (s : Int) (n : Nat) : Bool := decide (x.f = s) && decide (x.l = lastI s n)
def dupL (l : List Tr) (s : Int) (n : Nat) : Option Int := (l.find? fun x => hitB x s n).map (·.b)
theorem dup_none (s : Int) (n : Nat) : dupL [] s n = none := rfl
theorem dup_hit {x : Tr} {l : List Tr} {s : Int} {n : Nat} (h : hitB x s n = true) : dupL (x :: l) s n = some x.b := by simp [dupL, h]
theorem dup_miss {x : Tr} {l : List Tr} {s : Int} {n : Nat} (h : hitB x s n = false) : dupL (x :: l) s n = dupL l s n := by simp [dupL, h]
def lastSeq (l : List Tr) : Int := match l.getLast? with | some x => x.l | none => 0
def checkD (p : Pd) (known : Bool) (b : Bat) : Int × Int :=
 if b.marker ≠ 0 then
  if known = false then (-1, 16) else if b.epoch < p.epoch then (-1, 14) else if p.opn < 0 then (-1, 16) else (-1, 0)
 else if known = false then (-1, 0)
 else if b.epoch < p.epoch then (-1, 14)
 else if p.epoch < b.epoch then
  if 0 ≤ p.opn then (-1, 16) else if b.seq ≠ 0 then (-1, 15) else (-1, 0)
 else match dupL p.last b.seq b.recs.length with
  | some n => (n, 0)
  | none =>
    if p.last ≠ [] ∧ followsB (lastSeq p.last) b.seq = false then (-1, 15)
    else if 0 ≤ p.opn ∧ b.txn = false then (-1, 16) else (-1, 0)
def oldLast (p : Pd) (known : Bool) (b : Bat) : List Tr := if known = true ∧ p.epoch = b.epoch then p.last else []
def oldOpen (p : Pd) (known : Bool) : Int := if known = true then p.opn else -1
def newLast (l : List Tr) (x : Tr) : List Tr := (l ++ [x]).drop (l.length + 1 - 5)
def applyD (p : Pd) (known : Bool) (b : Bat) : Pd :=
 if b.marker ≠ 0 then ⟨b.prod, b.epoch, oldLast p known b, -1⟩
 else ⟨b.prod, b.epoch, newLast (oldLast p known b) ⟨b.seq, lastI b.seq b.recs.length, b.base⟩, if b.txn = true ∧ oldOpen p known < 0 then b.base else oldOpen p known⟩
def atD : List Pd → Int → Nat
 | [], _ => 0
 | p :: l, id => if p.id < id then atD l id + 1 else 0
theorem atD_le : ∀ (l : List Pd) (id : Int), atD l id ≤ l.length
 | [], _ => Nat.le_refl _
 | p :: l, id => by
   unfold atD
   split
   · have := atD_le l id; simp; omega
   exact Nat.zero_le _
theorem atD_step : ∀ (l : List Pd) (id : Int) (i : Nat) (p : Pd), i ≤ atD l id → l[i]? = some p → (p.id < id ↔ i + 1 ≤ atD l id)
 | q :: l, id, 0, p, _, h => by
   cases h
   unfold atD
   split <;> simp_all
 | q :: l, id, i + 1, p, hi, h => by
   unfold atD at hi ⊢
   split at hi
   · rename_i hq
     rw [if_pos hq]
     have := atD_step l id i p (by omega) h
     omega
   omega
 | [], id, i, p, _, h => by cases h
def hasD (l : List Pd) (id : Int) : Bool := match l[atD l id]? with | some p => decide (p.id = id) | none => false
def getD (l : List Pd) (id : Int) : Pd := if hasD l id = true then (match l[atD l id]? with | some p => p | none => Pd.zero) else Pd.zero
noncomputable def tcheckD (l : List Pd) (b : Bat) : Int × Int :=
 if rightE b ≠ 0 then (-1, rightE b) else if b.prod < 0 then (-1, 0) else checkD (getD l b.prod) (hasD l b.prod) b
noncomputable def tapplyD (l : List Pd) (b : Bat) : List Pd :=
 if rightE b ≠ 0 ∨ b.prod < 0 then l
 else if hasD l b.prod = true then l.set (atD l b.prod) (applyD (getD l b.prod) true b)
 else l.take (atD l b.prod) ++ applyD Pd.zero false b :: l.drop (atD l b.prod)
def dropsB (l : List Pd) (b : Bat) : Bool := hasD l b.prod && (decide (b.marker = 2) && decide (0 ≤ (getD l b.prod).opn))
noncomputable def tdropD (l : List Pd) (b : Bat) : Option Dr :=
 if rightE b ≠ 0 ∨ b.prod < 0 then none
 else if dropsB l b = true then some ⟨b.prod, (getD l b.prod).opn, b.base⟩ else none
noncomputable def foldP : List Pd → List Bat → List Pd
 | l, [] => l
 | l, b :: bs => foldP (tapplyD l b) bs
noncomputable def foldR : List Pd → List Bat → List Dr
 | _, [] => []
 | l, b :: bs => (tdropD l b).toList ++ foldR (tapplyD l b) bs
theorem foldP_snoc : ∀ (l : List Pd) (bs : List Bat) (b : Bat), foldP l (bs ++ [b]) = tapplyD (foldP l bs) b
 | l, [], b => rfl
 | l, a :: bs, b => foldP_snoc (tapplyD l a) bs b
theorem foldR_snoc : ∀ (l : List Pd) (bs : List Bat) (b : Bat), foldR l (bs ++ [b]) = foldR l bs ++ (tdropD (foldP l bs) b).toList
 | l, [], b => by simp [foldR, foldP]
 | l, a :: bs, b => by
   show (tdropD l a).toList ++ foldR (tapplyD l a) (bs ++ [b]) = _
   rw [foldR_snoc (tapplyD l a) bs b, ← List.append_assoc]; rfl
def countD (b : Bat) : Int := if b.marker ≠ 0 then 1 else (b.recs.length : Int)
def endD (start : Int) (l : List Bat) : Int := match l.getLast? with | some b => b.base + countD b | none => start
noncomputable def bytesD : List Bat → Int
 | [] => 0
 | b :: l => sizeB b + bytesD l
def fewP (l : List Pd) : Prop := ∀ p ∈ l, p.last.length ≤ 5
theorem newLast_few (l : List Tr) (x : Tr) : (newLast l x).length ≤ 5 := by unfold newLast; rw [List.length_drop, List.length_append]; simp; omega
theorem get_few {l : List Pd} (h : fewP l) (id : Int) : (getD l id).last.length ≤ 5 := by
 unfold getD
 split
 · split
   · rename_i p hp; exact h p (List.mem_of_getElem? hp)
   exact Nat.zero_le _
 exact Nat.zero_le _
theorem apply_few {p : Pd} (h : p.last.length ≤ 5) (k : Bool) (b : Bat) : (applyD p k b).last.length ≤ 5 := by
 unfold applyD
 split
 · unfold oldLast; split
   · exact h
   exact Nat.zero_le _
 exact newLast_few _ _
theorem tapply_few {l : List Pd} (h : fewP l) (b : Bat) : fewP (tapplyD l b) := by
 unfold tapplyD
 split
 · exact h
 split
 · intro p hp
   rcases List.mem_or_eq_of_mem_set hp with h1 | h1
   · exact h p h1
   rw [h1]; exact apply_few (get_few h _) _ _
 intro p hp
 rcases List.mem_append.1 hp with h1 | h1
 · exact h p (List.mem_of_mem_take h1)
 rcases List.mem_cons.1 h1 with h1 | h1
 · rw [h1]; exact apply_few (Nat.zero_le _) _ _
 exact h p (List.mem_of_mem_drop h1)
theorem foldP_few : ∀ {l : List Pd} (bs : List Bat), fewP l → fewP (foldP l bs)
 | l, [], h => h
 | l, b :: bs, h => foldP_few bs (tapply_few h b)
theorem tapply_len (l : List Pd) (b : Bat) : (tapplyD l b).length ≤ l.length + 1 := by
 unfold tapplyD
 split
 · omega
 split
 · simp
 simp; have := atD_le l b.prod; omega
theorem foldP_len : ∀ (l : List Pd) (bs : List Bat), (foldP l bs).length ≤ l.length + bs.length
 | l, [] => by simp [foldP]
 | l, b :: bs => by
   have h1 := foldP_len (tapplyD l b) bs
   have h2 := tapply_len l b
   show (foldP (tapplyD l b) bs).length ≤ _
   simp; omega
def RowOk (bs : List Bat) : Prop := ∀ b ∈ bs, rightE b = 0 ∧ b.wf
theorem size_bd (b : Bat) : 0 ≤ sizeB b ∧ sizeB b ≤ 2404 := by
 unfold sizeB
 split
 · rename_i h
   have := ok_len (ok_of h)
   omega
 omega
theorem bytesD_snoc : ∀ (l : List Bat) (b : Bat), bytesD (l ++ [b]) = bytesD l + sizeB b
 | [], b => by simp [bytesD]
 | a :: l, b => by
   have := bytesD_snoc l b
   show sizeB a + bytesD (l ++ [b]) = sizeB a + bytesD l + sizeB b
   omega
theorem bytesD_bd : ∀ (l : List Bat), 0 ≤ bytesD l ∧ bytesD l ≤ 2404 * (l.length : Int)
 | [] => by simp [bytesD]
 | a :: l => by
   have h1 := bytesD_bd l
   have h2 := size_bd a
   show 0 ≤ sizeB a + bytesD l ∧ sizeB a + bytesD l ≤ _
   rw [List.length_cons]
   omega
noncomputable def putD (cap start : Int) (bs : List Bat) (b : Bat) : (Int × Int) × List Bat :=
 if (tcheckD (foldP [] bs) b).2 ≠ 0 then ((-1, (tcheckD (foldP [] bs) b).2), bs)
 else if 0 ≤ (tcheckD (foldP [] bs) b).1 then (((tcheckD (foldP [] bs) b).1, 0), bs)
 else if cap < bytesD bs + sizeB b then ((-1, 17), bs)
 else if 1099511627776 < endD start bs + countD b then ((-1, 18), bs)
 else ((b.base, 0), bs ++ [b])
noncomputable def produceD (cap start : Int) (bs : List Bat) (b : Bat) : (Int × Int) × List Bat :=
 if rightE (b.at (endD start bs)) ≠ 0 then ((-1, rightE (b.at (endD start bs))), bs)
 else if b.marker ≠ 0 then ((-1, 16), bs)
 else putD cap start bs (b.at (endD start bs))
noncomputable def markD (cap start : Int) (bs : List Bat) (p e m : Int) : (Int × Int) × List Bat :=
 if m = 0 then ((-1, 12), bs) else putD cap start bs ⟨endD start bs, p, e, -1, true, m, []⟩
theorem tcheck_right {l : List Pd} {b : Bat} (h : (tcheckD l b).2 = 0) : rightE b = 0 := by
 unfold tcheckD at h
 split at h
 · simp only at h; assumption
 rename_i h1; exact Classical.byContradiction fun h2 => h1 h2
inductive RowD (start : Int) : List Bat → Prop
 | nil : RowD start []
 | snoc {l : List Bat} {b : Bat} : RowD start l → b.base = endD start l → b.wf → (tcheckD (foldP [] l) b).2 = 0 → (tcheckD (foldP [] l) b).1 < 0 → endD start l + countD b ≤ 1099511627776 → RowD start (l ++ [b])
theorem rowD_ok {start : Int} {bs : List Bat} (h : RowD start bs) : RowOk bs := by
 induction h with
 | nil => intro b hb; cases hb
 | snoc _ _ h2 h1 _ _ ih =>
   intro b hb
   rcases List.mem_append.1 hb with h3 | h3
   · exact ih b h3
   rw [List.mem_singleton.1 h3]; exact ⟨tcheck_right h1, h2⟩
theorem end_last {start : Int} {bs : List Bat} {b : Bat} (h : bs.getLast? = some b) : endD start bs = b.base + countD b := by unfold endD; rw [h]
theorem rowD_end {start : Int} {bs : List Bat} (h : RowD start bs) (h0 : 0 ≤ start) (h1 : start ≤ 1099511627776) : 0 ≤ endD start bs ∧ endD start bs ≤ 1099511627776 := by
 cases h with
 | nil => exact ⟨h0, h1⟩
 | @snoc l b h2 hb hw hr hc he =>
   rw [end_last (b := b) (by simp), hb]
   have := ok_of (tcheck_right hr)
   have h3 := this.base0
   have h4 : 0 ≤ countD b := by unfold countD; split <;> omega
   omega
def Asc (l : List Pd) : Prop := l.Pairwise fun a b => a.id < b.id
def lookD (l : List Pd) (k : Int) : Option Pd := l.find? fun p => decide (p.id = k)
def insD : List Pd → Pd → List Pd
 | [], x => [x]
 | p :: l, x => if p.id < x.id then p :: insD l x else if p.id = x.id then x :: l else x :: p :: l
theorem look_cons (p : Pd) (l : List Pd) (k : Int) : lookD (p :: l) k = if p.id = k then some p else lookD l k := by
 unfold lookD
 rw [List.find?_cons]
 by_cases h : p.id = k
 · rw [if_pos h, decide_eq_true h]
 rw [if_neg h, decide_eq_false h]
theorem look_above {l : List Pd} {k : Int} (h : ∀ p ∈ l, k < p.id) : lookD l k = none := by
 unfold lookD
 rw [List.find?_eq_none]
 intro p hp
 have := h p hp
 simp; omega
theorem look_id {l : List Pd} {k : Int} {p : Pd} (h : lookD l k = some p) : p.id = k ∧ p ∈ l := by
 unfold lookD at h
 exact ⟨by simpa using List.find?_some h, List.mem_of_find?_eq_some h⟩
theorem asc_tail {p : Pd} {l : List Pd} (h : Asc (p :: l)) : Asc l := (List.pairwise_cons.1 h).2
theorem asc_head {p : Pd} {l : List Pd} (h : Asc (p :: l)) : ∀ q ∈ l, p.id < q.id := (List.pairwise_cons.1 h).1
theorem has_look : ∀ {l : List Pd} (h : Asc l) (k : Int), hasD l k = (lookD l k).isSome ∧ getD l k = (lookD l k).getD Pd.zero
 | [], _, k => ⟨rfl, rfl⟩
 | p :: l, h, k => by
   have ih := has_look (asc_tail h) k
   rw [look_cons]
   by_cases h1 : p.id < k
   · rw [if_neg (by omega)]
     have e1 : hasD (p :: l) k = hasD l k := by
      unfold hasD
      rw [show atD (p :: l) k = atD l k + 1 from by rw [atD, if_pos h1]]
      rfl
     have e2 : getD (p :: l) k = getD l k := by
      unfold getD
      rw [e1, show atD (p :: l) k = atD l k + 1 from by rw [atD, if_pos h1]]
      rfl
     rw [e1, e2]
     exact ih
   have e0 : atD (p :: l) k = 0 := by rw [atD, if_neg h1]
   by_cases h2 : p.id = k
   · rw [if_pos h2]
     have e1 : hasD (p :: l) k = true := by
      unfold hasD
      rw [e0]
      show decide (p.id = k) = true
      exact decide_eq_true h2
     refine ⟨by rw [e1]; rfl, ?_⟩
     unfold getD
     rw [e1, e0]; rfl
   rw [if_neg h2]
   have e1 : hasD (p :: l) k = false := by
    unfold hasD
    rw [e0]
    show decide (p.id = k) = false
    exact decide_eq_false h2
   have e3 : lookD l k = none := look_above fun q hq => by have := asc_head h q hq; omega
   rw [e3]
   refine ⟨e1, ?_⟩
   unfold getD
   rw [e1]; rfl
theorem ins_ids : ∀ (l : List Pd) (x : Pd) (q : Pd), q ∈ insD l x → q = x ∨ q ∈ l
 | [], x, q, h => .inl (by simpa [insD] using h)
 | p :: l, x, q, h => by
   unfold insD at h
   split at h
   · rcases List.mem_cons.1 h with h | h
     · exact .inr (by simp [h])
     rcases ins_ids l x q h with h | h
     · exact .inl h
     exact .inr (by simp [h])
   split at h
   · rcases List.mem_cons.1 h with h | h
     · exact .inl h
     exact .inr (by simp [h])
   rcases List.mem_cons.1 h with h | h
   · exact .inl h
   exact .inr h
theorem ins_asc : ∀ {l : List Pd} (x : Pd), Asc l → Asc (insD l x)
 | [], x, _ => List.pairwise_singleton _ _
 | p :: l, x, h => by
   unfold insD
   split
   · rename_i h1
     refine List.pairwise_cons.2 ⟨fun q hq => ?_, ins_asc x (asc_tail h)⟩
     rcases ins_ids l x q hq with e | e
     · rw [e]; exact h1
     exact asc_head h q e
   rename_i h1
   split
   · rename_i h2
     exact List.pairwise_cons.2 ⟨fun q hq => by have := asc_head h q hq; omega, asc_tail h⟩
   rename_i h2
   refine List.pairwise_cons.2 ⟨fun q hq => ?_, h⟩
   rcases List.mem_cons.1 hq with e | e
   · rw [e]; omega
   have := asc_head h q e; omega
theorem look_ins : ∀ {l : List Pd} (x : Pd) (k : Int), Asc l → lookD (insD l x) k = if x.id = k then some x else lookD l k
 | [], x, k, _ => by show lookD [x] k = _; rw [look_cons]
 | p :: l, x, k, h => by
   unfold insD
   split
   · rename_i h1
     rw [look_cons, look_ins x k (asc_tail h), look_cons]
     by_cases h2 : p.id = k
     · rw [if_pos h2, if_neg (by omega), if_pos h2]
     rw [if_neg h2, if_neg h2]
   rename_i h1
   split
   · rename_i h2
     rw [look_cons, look_cons]
     by_cases h3 : x.id = k
     · rw [if_pos h3, if_pos h3]
     rw [if_neg h3, if_neg h3, if_neg (by omega)]
   rw [look_cons]
theorem apply_id (p : Pd) (k : Bool) (b : Bat) : (applyD p k b).id = b.prod := by
 unfold applyD
 split <;> rfl
theorem tapply_ins : ∀ {l : List Pd} (h : Asc l) (b : Bat), rightE b = 0 → 0 ≤ b.prod → tapplyD l b = insD l (applyD ((lookD l b.prod).getD Pd.zero) (lookD l b.prod).isSome b) := by
 intro l h b h0 h1
 have hl := has_look h b.prod
 unfold tapplyD
 rw [if_neg (by omega)]
 have key : ∀ (l : List Pd) (x : Pd), x.id = b.prod → Asc l → (if hasD l b.prod = true then l.set (atD l b.prod) x else l.take (atD l b.prod) ++ x :: l.drop (atD l b.prod)) = insD l x := by
  intro l
  induction l with
  | nil => intro x hx _; rfl
  | cons p l ih =>
    intro x hx ha
    have hi := ih x hx (asc_tail ha)
    have hh := has_look ha b.prod
    have hh2 := has_look (asc_tail ha) b.prod
    by_cases h2 : p.id < b.prod
    · rw [show atD (p :: l) b.prod = atD l b.prod + 1 from by rw [atD, if_pos h2]]
      have e1 : hasD (p :: l) b.prod = hasD l b.prod := by rw [hh.1, hh2.1, look_cons, if_neg (by omega)]
      have e2 : insD (p :: l) x = p :: insD l x := by rw [insD, if_pos (show p.id < x.id by omega)]
      rw [e1, e2, ← hi]
      cases hasD l b.prod
      · rfl
      rfl
    rw [show atD (p :: l) b.prod = 0 from by rw [atD, if_neg h2]]
    by_cases h3 : p.id = b.prod
    · have e1 : hasD (p :: l) b.prod = true := by rw [hh.1, look_cons, if_pos h3]; rfl
      have e2 : insD (p :: l) x = x :: l := by rw [insD, if_neg (show ¬ p.id < x.id by omega), if_pos (show p.id = x.id by omega)]
      rw [e1, e2]; rfl
    have e1 : hasD (p :: l) b.prod = false := by
     rw [hh.1, look_cons, if_neg h3, look_above fun q hq => by have := asc_head ha q hq; omega]; rfl
    have e2 : insD (p :: l) x = x :: p :: l := by rw [insD, if_neg (show ¬ p.id < x.id by omega), if_neg (show ¬ p.id = x.id by omega)]
    rw [e1, e2]; rfl
 have k1 := key l (applyD ((lookD l b.prod).getD Pd.zero) (lookD l b.prod).isSome b) (apply_id _ _ _) h
 rw [← k1]
 split
 · rename_i hs
   rw [hl.2]
   rw [hl.1] at hs
   rw [hs]
 rename_i hs
 rw [hl.1] at hs
 have hn : lookD l b.prod = none := by cases hq : lookD l b.prod <;> simp_all
 rw [hn]; rfl
theorem tapply_no {l : List Pd} {b : Bat} (h : rightE b ≠ 0 ∨ b.prod < 0) : tapplyD l b = l := by unfold tapplyD; rw [if_pos h]
theorem tapply_asc {l : List Pd} (h : Asc l) (b : Bat) : Asc (tapplyD l b) := by
 by_cases h0 : rightE b ≠ 0 ∨ b.prod < 0
 · rw [tapply_no h0]; exact h
 rw [tapply_ins h b (Classical.byContradiction fun h1 => h0 (.inl h1)) (by omega)]
 exact ins_asc _ h
theorem fold_asc : ∀ {l : List Pd} (bs : List Bat), Asc l → Asc (foldP l bs)
 | l, [], h => h
 | l, b :: bs, h => fold_asc bs (tapply_asc h b)
noncomputable def stepD (s : Option Pd) (b : Bat) : Option Pd := some (applyD (s.getD Pd.zero) s.isSome b)
theorem look_tapply {l : List Pd} (h : Asc l) (b : Bat) (k : Int) : lookD (tapplyD l b) k = if rightE b = 0 ∧ 0 ≤ b.prod ∧ b.prod = k then stepD (lookD l k) b else lookD l k := by
 by_cases h0 : rightE b ≠ 0 ∨ b.prod < 0
 · rw [tapply_no h0, if_neg (fun h1 => by rcases h0 with h2 | h2; exact h2 h1.1; have := h1.2.1; omega)]
 have h1 : rightE b = 0 := Classical.byContradiction fun h1 => h0 (.inl h1)
 have h2 : 0 ≤ b.prod := by omega
 rw [tapply_ins h b h1 h2, look_ins _ _ h, apply_id]
 by_cases h3 : b.prod = k
 · rw [if_pos h3, if_pos ⟨h1, h2, h3⟩, h3]; rfl
 rw [if_neg h3, if_neg (fun h4 => h3 h4.2.2)]
noncomputable def stateD (k : Int) : Option Pd → List Bat → Option Pd
 | s, [] => s
 | s, b :: bs => stateD k (if rightE b = 0 ∧ 0 ≤ b.prod ∧ b.prod = k then stepD s b else s) bs
theorem look_fold (k : Int) : ∀ {l : List Pd} (bs : List Bat), Asc l → lookD (foldP l bs) k = stateD k (lookD l k) bs
 | l, [], h => rfl
 | l, b :: bs, h => by
   show lookD (foldP (tapplyD l b) bs) k = stateD k _ bs
   rw [look_fold k bs (tapply_asc h b), look_tapply h b k]
def IsLeast (l : List Pd) (v : Int) : Prop := (v = -1 ∧ ∀ p ∈ l, p.opn < 0) ∨ (0 ≤ v ∧ (∃ p ∈ l, p.opn = v) ∧ ∀ p ∈ l, 0 ≤ p.opn → v ≤ p.opn)
theorem least_one {l : List Pd} {v u : Int} (h : IsLeast l v) (h2 : IsLeast l u) : v = u := by
 rcases h with ⟨e, h⟩ | ⟨h0, ⟨p, hp, hv⟩, hm⟩ <;> rcases h2 with ⟨e2, h2⟩ | ⟨g0, ⟨q, hq, hu⟩, gm⟩
 · omega
 · have := h q hq; omega
 · have := h2 p hp; omega
 have h3 := hm q hq (by omega)
 have h4 := gm p hp (by omega)
 omega
def endsB (k : Int) (l : List Bat) : Bool := l.any fun c => decide (c.marker ≠ 0) && decide (c.prod = k)
def opensB (b : Bat) (l : List Bat) : Bool := b.txn && (decide (b.marker = 0) && !endsB b.prod l)
def firstOpen : List Bat → Int
 | [] => -1
 | b :: l => if opensB b l = true then b.base else firstOpen l
def pOpen (k : Int) : List Bat → Int
 | [] => -1
 | b :: l => if b.prod = k ∧ opensB b l = true then b.base else pOpen k l
def opnS (s : Option Pd) : Int := match s with | some p => p.opn | none => -1
theorem ends_cons (k : Int) (b : Bat) (l : List Bat) : endsB k (b :: l) = ((decide (b.marker ≠ 0) && decide (b.prod = k)) || endsB k l) := rfl
theorem opn_step (s : Option Pd) (b : Bat) : opnS (stepD s b) = if b.marker ≠ 0 then -1 else if b.txn = true ∧ opnS s < 0 then b.base else opnS s := by
 unfold stepD opnS applyD oldOpen
 cases s with
 | none =>
   by_cases h : b.marker ≠ 0
   · simp [h]
   simp [h]
 | some p =>
   by_cases h : b.marker ≠ 0
   · simp [h]
   simp [h]
theorem state_opn (k : Int) (hk : 0 ≤ k) : ∀ (s : Option Pd) (bs : List Bat), -1 ≤ opnS s → (∀ b ∈ bs, rightE b = 0 ∧ 0 ≤ b.base) → opnS (stateD k s bs) = if endsB k bs = false ∧ 0 ≤ opnS s then opnS s else pOpen k bs
 | s, [], hs, _ => by
   show opnS s = if endsB k [] = false ∧ 0 ≤ opnS s then opnS s else -1
   split
   · rfl
   rename_i h
   by_cases h2 : 0 ≤ opnS s
   · exact absurd ⟨rfl, h2⟩ h
   omega
 | s, b :: bs, hs0, h => by
   have hb := h b (by simp)
   have ih := fun s hs => state_opn k hk s bs hs fun c hc => h c (by simp [hc])
   rw [ends_cons]
   by_cases hp : b.prod = k
   rotate_left
   · have e1 : stateD k s (b :: bs) = stateD k s bs := by
      show stateD k (if rightE b = 0 ∧ 0 ≤ b.prod ∧ b.prod = k then stepD s b else s) bs = _
      rw [if_neg (fun h => hp h.2.2)]
     have e2 : pOpen k (b :: bs) = pOpen k bs := by
      show (if b.prod = k ∧ opensB b bs = true then b.base else pOpen k bs) = _
      rw [if_neg (fun h => hp h.1)]
     rw [e1, e2, decide_eq_false hp, Bool.and_false, Bool.false_or]
     exact ih s hs0
   have e1 : stateD k s (b :: bs) = stateD k (stepD s b) bs := by
    show stateD k (if rightE b = 0 ∧ 0 ≤ b.prod ∧ b.prod = k then stepD s b else s) bs = _
    rw [if_pos ⟨hb.1, by omega, hp⟩]
   have e2 : pOpen k (b :: bs) = if opensB b bs = true then b.base else pOpen k bs := by
    show (if b.prod = k ∧ opensB b bs = true then b.base else pOpen k bs) = _
    simp [hp]
   have hs := opn_step s b
   have hs1 : -1 ≤ opnS (stepD s b) := by
    rw [hs]
    split
    · omega
    split
    · have := hb.2; omega
    exact hs0
   have i1 := ih (stepD s b) hs1
   have hb0 := hb.2
   rw [e1, e2, i1]
   by_cases hm : b.marker = 0
   rotate_left
   · have e3 : opensB b bs = false := by unfold opensB; simp [hm]
     have e4 : (decide (b.marker ≠ 0) && decide (b.prod = k) || endsB k bs) = true := by simp [hm, hp]
     rw [if_pos hm] at hs
     rw [e3, e4, hs]
     rw [if_neg (by omega), if_neg (fun h => by cases h.1), if_neg (by decide)]
   have e3 : opensB b bs = (b.txn && !endsB k bs) := by unfold opensB; rw [hp]; simp [hm]
   rw [if_neg (by simp [hm])] at hs
   have e4 : (decide (b.marker ≠ 0) && decide (b.prod = k) || endsB k bs) = endsB k bs := by simp [hm]
   rw [e3, e4]
   cases he : endsB k bs
   rotate_left
   · cases ht : b.txn <;> simp
   cases ht : b.txn
   · rw [ht, if_neg (by simp)] at hs
     rw [hs]; rfl
   rw [ht] at hs
   by_cases h0 : opnS s < 0
   · rw [if_pos ⟨rfl, h0⟩] at hs
     rw [hs, if_pos ⟨rfl, hb0⟩, if_neg (by omega)]; rfl
   rw [if_neg (fun h => h0 h.2)] at hs
   rw [hs]
   rw [if_pos ⟨rfl, by omega⟩, if_pos ⟨rfl, by omega⟩]
theorem state_none (k : Int) (hk : k < 0) : ∀ (bs : List Bat), stateD k none bs = none
 | [] => rfl
 | b :: bs => by
   show stateD k (if rightE b = 0 ∧ 0 ≤ b.prod ∧ b.prod = k then stepD none b else none) bs = none
   rw [if_neg (by omega)]
   exact state_none k hk bs
theorem pOpen_bd (k : Int) : ∀ (bs : List Bat), (∀ b ∈ bs, 0 ≤ b.base) → pOpen k bs = -1 ∨ ∃ b ∈ bs, pOpen k bs = b.base
 | [], _ => .inl rfl
 | b :: bs, h => by
   unfold pOpen
   split
   · exact .inr ⟨b, by simp, rfl⟩
   rcases pOpen_bd k bs fun c hc => h c (by simp [hc]) with e | ⟨c, hc, e⟩
   · exact .inl e
   exact .inr ⟨c, by simp [hc], e⟩
theorem first_least : ∀ (bs : List Bat), (bs.Pairwise fun a b => a.base < b.base) → (∀ b ∈ bs, 0 ≤ b.base) → (∀ b ∈ bs, b.txn = true → 0 ≤ b.prod) →
 (firstOpen bs = -1 ∧ ∀ k, pOpen k bs = -1) ∨ (0 ≤ firstOpen bs ∧ (∃ k, 0 ≤ k ∧ pOpen k bs = firstOpen bs) ∧ ∀ k, 0 ≤ pOpen k bs → firstOpen bs ≤ pOpen k bs)
 | [], _, _, _ => .inl ⟨rfl, fun k => rfl⟩
 | b :: bs, hp, h0, ht => by
   have h1 := List.pairwise_cons.1 hp
   by_cases ho : opensB b bs = true
   · have e : firstOpen (b :: bs) = b.base := by unfold firstOpen; rw [if_pos ho]
     have hb := h0 b (by simp)
     have htx : b.txn = true := by unfold opensB at ho; simp at ho; exact ho.1
     refine .inr ⟨by rw [e]; exact hb, ⟨b.prod, ht b (by simp) htx, ?_⟩, fun k hk => ?_⟩
     · rw [e]; unfold pOpen; rw [if_pos ⟨rfl, ho⟩]
     rw [e]
     unfold pOpen at hk ⊢
     split
     · omega
     rename_i h2
     rw [if_neg h2] at hk
     rcases pOpen_bd k bs fun c hc => h0 c (by simp [hc]) with e2 | ⟨c, hc, e2⟩
     · omega
     have := h1.1 c hc; omega
   have e : firstOpen (b :: bs) = firstOpen bs := by
    show (if opensB b bs = true then b.base else firstOpen bs) = _
    rw [if_neg ho]
   have e2 : ∀ k, pOpen k (b :: bs) = pOpen k bs := fun k => by
    show (if b.prod = k ∧ opensB b bs = true then b.base else pOpen k bs) = _
    rw [if_neg (fun h => ho h.2)]
   rw [e]
   simp only [e2]
   exact first_least bs h1.2 (fun c hc => h0 c (by simp [hc])) (fun c hc => ht c (by simp [hc]))
theorem asc_nil : Asc [] := List.Pairwise.nil
theorem fold_state (bs : List Bat) (k : Int) : lookD (foldP [] bs) k = stateD k none bs := look_fold k bs asc_nil
theorem look_mem {l : List Pd} (h : Asc l) {p : Pd} (hp : p ∈ l) : lookD l p.id = some p := by
 induction l with
 | nil => cases hp
 | cons q l ih =>
   rw [look_cons]
   rcases List.mem_cons.1 hp with e | e
   · rw [e, if_pos rfl]
   have := asc_head h p e
   rw [if_neg (by omega)]
   exact ih (asc_tail h) e
theorem fold_least (bs : List Bat) (hr : ∀ b ∈ bs, rightE b = 0) (hp : bs.Pairwise fun a b => a.base < b.base) (h0 : ∀ b ∈ bs, 0 ≤ b.base) (ht : ∀ b ∈ bs, b.txn = true → 0 ≤ b.prod) : IsLeast (foldP [] bs) (firstOpen bs) := by
 have hasc := fold_asc bs asc_nil
 have hst : ∀ p ∈ foldP [] bs, 0 ≤ p.id ∧ p.opn = pOpen p.id bs := by
  intro p hp
  have h1 := look_mem hasc hp
  rw [fold_state] at h1
  by_cases hk : 0 ≤ p.id
  · refine ⟨hk, ?_⟩
    have h2 := state_opn p.id hk none bs (by decide) (fun b hb => ⟨hr b hb, h0 b hb⟩)
    rw [h1, if_neg (fun h => by have := h.2; revert this; decide)] at h2
    exact h2
  rw [state_none _ (by omega)] at h1; cases h1
 rcases first_least bs hp h0 ht with ⟨e, h⟩ | ⟨hv, ⟨k, hk, hke⟩, hm⟩
 · exact .inl ⟨e, fun p hp => by rw [(hst p hp).2, h]; decide⟩
 refine .inr ⟨hv, ?_, fun p hp hp0 => ?_⟩
 · have h2 := state_opn k hk none bs (by decide) (fun b hb => ⟨hr b hb, h0 b hb⟩)
   rw [if_neg (fun h => by have := h.2; revert this; decide)] at h2
   cases hs : stateD k none bs with
   | none =>
     rw [hs] at h2
     have h3 : pOpen k bs = -1 := h2.symm
     omega
   | some p =>
     rw [hs] at h2
     have h3 : p.opn = pOpen k bs := h2
     have h4 := fold_state bs k
     rw [hs] at h4
     exact ⟨p, (look_id h4).2, by omega⟩
 rw [(hst p hp).2] at hp0 ⊢
 exact hm _ hp0
theorem right_count {b : Bat} (h : rightE b = 0) : 1 ≤ countD b := by
 unfold countD
 split
 · omega
 rename_i hm
 unfold rightE at h
 split at h
 · omega
 split at h
 · rename_i h2
   have := List.length_pos_iff.2 h2.2
   omega
 omega
theorem right_txn {b : Bat} (h : rightE b = 0) (ht : b.txn = true) : 0 ≤ b.prod := by
 unfold rightE at h
 split at h
 · omega
 split at h
 · split at h
   · rename_i h2; exact (head_of h2.2.1).1
   omega
 split at h
 · rename_i h2
   rcases h2.1 with h3 | h3
   · have := (none_of h3).2.2.2
     rw [ht] at this; cases this
   exact (head_of h3.1).1
 omega
theorem row_bases {start : Int} {bs : List Bat} (h : RowD start bs) (h0 : 0 ≤ start) : (bs.Pairwise fun a b => a.base < b.base) ∧ (∀ b ∈ bs, 0 ≤ b.base ∧ b.base < endD start bs) ∧ start ≤ endD start bs := by
 induction h with
 | nil => exact ⟨List.Pairwise.nil, (fun b hb => by cases hb), Int.le_refl _⟩
 | @snoc l b h2 hb hw hr hc he ih =>
   obtain ⟨i1, i2, i3⟩ := ih
   have h3 := right_count (tcheck_right hr)
   have e : endD start (l ++ [b]) = endD start l + countD b := by rw [end_last (b := b) (by simp), hb]
   refine ⟨List.pairwise_append.2 ⟨i1, List.pairwise_singleton _ _, fun a ha c hc => ?_⟩, fun c hc => ?_, by omega⟩
   · rw [List.mem_singleton.1 hc, hb]
     exact (i2 a ha).2
   rcases List.mem_append.1 hc with h4 | h4
   · have := i2 c h4; omega
   rw [List.mem_singleton.1 h4]; omega
end Go.ProdMath
namespace Go.FoMath
open Go.ProdMath
open Go.BatMath
structure Gt where
 off : Int
 prod : Int
 rc : Rc
def recsG (p : Int) : Int → List Rc → List Gt
 | _, [] => []
 | n, r :: l => ⟨n, p, r⟩ :: recsG p (n + 1) l
def batG (b : Bat) (a z : Int) : List Gt := if b.marker = 0 then (recsG b.prod b.base b.recs).filter (fun g => decide (a ≤ g.off ∧ g.off < z)) else []
def recordsD : List Bat → Int → Int → List Gt
 | [], _, _ => []
 | b :: l, a, z => batG b a z ++ recordsD l a z
def stableD (start : Int) (bs : List Bat) : Int := if firstOpen bs = -1 then endD start bs else firstOpen bs
theorem recsG_mem {p : Int} : ∀ {l : List Rc} {n : Int} {g : Gt}, g ∈ recsG p n l → n ≤ g.off ∧ g.off < n + (l.length : Int)
 | [], n, g, h => by cases h
 | r :: l, n, g, h => by
   rcases List.mem_cons.1 h with rfl | h
   · simp only [List.length_cons]; omega
   have := recsG_mem h
   simp only [List.length_cons]
   omega
theorem batG_mem {b : Bat} {a z : Int} {g : Gt} (h : g ∈ batG b a z) : b.marker = 0 ∧ b.base ≤ g.off ∧ g.off < b.base + countD b ∧ a ≤ g.off ∧ g.off < z := by
 unfold batG at h
 split at h
 · rename_i hm
   obtain ⟨h1, h2⟩ := List.mem_filter.1 h
   have h3 := recsG_mem h1
   have h4 := of_decide_eq_true h2
   have hc : countD b = (b.recs.length : Int) := by unfold countD; rw [if_neg (by omega)]
   rw [hc]
   exact ⟨hm, h3.1, h3.2, h4⟩
 cases h
def Chain (E : Int) : List Bat → Prop
 | [] => True
 | b :: l => 1 ≤ countD b ∧ 0 ≤ b.base ∧ b.base + countD b ≤ E ∧ (∀ c ∈ l, b.base + countD b ≤ c.base) ∧ Chain E l
theorem Chain.base {E : Int} : ∀ {l : List Bat}, Chain E l → ∀ b ∈ l, 0 ≤ b.base ∧ 1 ≤ countD b ∧ b.base + countD b ≤ E
 | [], _, b, hb => by cases hb
 | c :: l, h, b, hb => by
   obtain ⟨h1, h2, h3, h4, h5⟩ := h
   rcases List.mem_cons.1 hb with rfl | hb
   · exact ⟨h2, h1, h3⟩
   exact h5.base b hb
theorem chain_app {E E' : Int} : ∀ {l m : List Bat}, Chain E l → Chain E' m → E ≤ E' → (∀ c ∈ m, E ≤ c.base) → Chain E' (l ++ m)
 | [], m, _, h2, _, _ => h2
 | b :: l, m, h, h2, he, hm => by
   obtain ⟨h1, h0, h3, h4, h5⟩ := h
   refine ⟨h1, h0, by omega, fun c hc => ?_, chain_app h5 h2 he hm⟩
   rcases List.mem_append.1 hc with hc | hc
   · exact h4 c hc
   have := hm c hc; omega
theorem recordsD_mem {a z : Int} {g : Gt} : ∀ {l : List Bat}, g ∈ recordsD l a z → a ≤ g.off ∧ g.off < z ∧ ∃ b ∈ l, g ∈ batG b a z
 | [], h => by cases h
 | b :: l, h => by
   rcases List.mem_append.1 h with h | h
   · have := batG_mem h
     exact ⟨this.2.2.2.1, this.2.2.2.2, b, by simp, h⟩
   obtain ⟨h1, h2, c, hc, h3⟩ := recordsD_mem h
   exact ⟨h1, h2, c, by simp [hc], h3⟩
def nextD (l : List Gt) (n : Nat) (top o : Int) : Int := match l[n - 1]? with
 | some g => g.off + 1
 | none => max top o
theorem next_some {l : List Gt} {n : Nat} {top o : Int} {g : Gt} (h : l[n - 1]? = some g) : nextD l n top o = g.off + 1 := by unfold nextD; rw [h]
theorem next_none {l : List Gt} {n : Nat} {top o : Int} (h : l.length < n) : nextD l n top o = max top o := by
 unfold nextD
 rw [List.getElem?_eq_none (by omega)]
end Go.FoMath
namespace Go.Proofs.YtjmfdildnojknaaGreat
open Go.RowKit Go.OpenShut
structure Kind (α : Type) where
 enc : α → List Value
 size : Nat
 ty : TypeId
 sl : TypeId
structure Kind.Ok {α : Type} (K : Kind α) (bytes : Nat) : Prop where
 und : Tryz.prog.underlying K.sl = some (.slice K.ty)
 info : ∃ i z, Tryz.prog.info? K.ty = some i ∧ i.zero = some z ∧ i.size = K.size ∧ i.bytes = bytes ∧ z.cells.size = K.size
 len : ∀ x, (K.enc x).length = K.size
 pos : 0 < K.size
 one : ∀ x, ∀ u ∈ K.enc x, u.oneCell' = true
 few : bytes ≤ 1000
variable {α : Type} {K : Kind α} {bytes : Nat} {w w' : World}
def Kind.all (K : Kind α) (l : List α) : List Value := l.flatMap K.enc
theorem Kind.Ok.all_len (hK : K.Ok bytes) : ∀ l : List α, (K.all l).length = l.length * K.size
 | [] => by simp [Kind.all]
 | x :: l => by
   have := Kind.Ok.all_len hK l
   unfold Kind.all at *
   rw [List.flatMap_cons, List.length_append, this, hK.len, List.length_cons, Nat.succ_mul, Nat.add_comm]
theorem Kind.all_app (K : Kind α) (a b : List α) : K.all (a ++ b) = K.all a ++ K.all b := by simp [Kind.all]
theorem Kind.Ok.all_one (hK : K.Ok bytes) (l : List α) : ∀ u ∈ K.all l, u.oneCell' = true := by
 intro u hu
 obtain ⟨x, _, hx⟩ := List.mem_flatMap.1 hu
 exact hK.one x u hx
theorem Kind.Ok.all_at (hK : K.Ok bytes) : ∀ (l : List α) (i : Nat) (x : α), l[i]? = some x → ∀ j, j < K.size → (K.all l)[i * K.size + j]? = (K.enc x)[j]?
 | [], i, x, h, j, hj => by cases h
 | y :: l, 0, x, h, j, hj => by
   cases h
   show ((y :: l).flatMap K.enc)[0 * K.size + j]? = _
   rw [List.flatMap_cons, Nat.zero_mul, Nat.zero_add, List.getElem?_append_left (by rw [hK.len]; exact hj)]
 | y :: l, i + 1, x, h, j, hj => by
   have ih := Kind.Ok.all_at hK l i x h j hj
   show ((y :: l).flatMap K.enc)[(i + 1) * K.size + j]? = _
   rw [List.flatMap_cons, List.getElem?_append_right (by rw [hK.len, Nat.succ_mul]; omega), hK.len, show (i + 1) * K.size + j - K.size = i * K.size + j by rw [Nat.succ_mul]; omega]
   exact ih
structure RowAt (K : Kind α) (w : World) (ad : Option Addr) (len cap : Nat) (l : List α) : Prop where
 length : l.length = len
 fits : len ≤ cap
 room : ad = none → cap = 0
 cells : len = 0 ∨ ∃ b off, ad = some ⟨b, off, none⟩ ∧ b < w.heap.size ∧ ∀ i x, l[i]? = some x → ∀ j u, (K.enc x)[j]? = some u → w.cell? ⟨b, off + (i * K.size + j), none⟩ = some u
theorem RowAt.keep {ad : Option Addr} {len cap : Nat} {l : List α} (h : RowAt K w ad len cap l) (hb : Below w.heap.size w w') : RowAt K w' ad len cap l := by
 refine ⟨h.length, h.fits, h.room, ?_⟩
 rcases h.cells with h0 | ⟨b, off, e, hlt, hc⟩
 · exact .inl h0
 refine .inr ⟨b, off, e, Nat.lt_of_lt_of_le hlt hb.size, fun i x hi j u hj => ?_⟩
 rw [hb.cell (p := ⟨b, off + (i * K.size + j), none⟩) hlt]
 exact hc i x hi j u hj
theorem RowAt.grown {ad : Option Addr} {len cap : Nat} {l : List α} {r : Option Nat} (h : RowAt K w ad len cap l) (hg : w.grownBy w' r) (hr : ∀ a, ad = some a → some a.block ≠ r) : RowAt K w' ad len cap l := by
 refine ⟨h.length, h.fits, h.room, ?_⟩
 rcases h.cells with h0 | ⟨b, off, e, hlt, hc⟩
 · exact .inl h0
 exact .inr ⟨b, off, e, Nat.lt_of_lt_of_le hlt hg.size, fun i x hi j u hj => hg.cell (hc i x hi j u hj) (show some b ≠ r from hr _ e)⟩
theorem rowAt_nil (w : World) : RowAt K w none 0 0 ([] : List α) := ⟨rfl, Nat.le_refl _, fun _ => rfl, .inl rfl⟩
theorem RowAt.get {ad : Option Addr} {len cap : Nat} {l : List α} (h : RowAt K w ad len cap l) {i : Nat} (hi : i < len) :
 ∃ b off x, ad = some ⟨b, off, none⟩ ∧ b < w.heap.size ∧ l[i]? = some x ∧ ∀ j u, (K.enc x)[j]? = some u → w.cell? ⟨b, off + (i * K.size + j), none⟩ = some u := by
 have hl := h.length
 rcases h.cells with h0 | ⟨b, off, e, hlt, hc⟩
 · omega
 have hx : l[i]? = some (l[i]'(by omega)) := List.getElem?_eq_getElem (by omega)
 exact ⟨b, off, _, e, hlt, hx, hc i _ hx⟩
theorem RowAt.news (hK : K.Ok bytes) {b off len cap : Nat} {l : List α} (h : RowAt K w (some ⟨b, off, none⟩) len cap l) : ∀ j u, (K.all l)[j]? = some u → w.cell? ((⟨b, off, none⟩ : Addr).add j) = some u := by
 intro j u hj
 have hjl : j < l.length * K.size := by
  have := (List.getElem?_eq_some_iff.1 hj).1
  rwa [hK.all_len] at this
 have hp := hK.pos
 have hil : j / K.size < l.length := Nat.div_lt_of_lt_mul (by rwa [Nat.mul_comm])
 have hx : l[j / K.size]? = some (l[j / K.size]'hil) := List.getElem?_eq_getElem hil
 have hm := Nat.mod_lt j hp
 have he : j / K.size * K.size + j % K.size = j := by rw [Nat.mul_comm]; exact Nat.div_add_mod j K.size
 have h1 := hK.all_at l _ _ hx _ hm
 rw [he] at h1
 rw [add_at]
 rcases h.cells with h0 | ⟨b', off', e, _, hc⟩
 · have hl0 : l.length = 0 := by have := h.length; omega
   exact absurd hil (by rw [hl0]; exact Nat.not_lt_zero _)
 cases e
 have h2 := hc _ _ hx _ u (by rw [← h1]; exact hj)
 rwa [he] at h2
def OwnRow (K : Kind α) (w : World) (base : Nat) (v : Value) (l : List α) : Prop := w.ownsRow base K.ty K.size v l.length (K.all l)
theorem ownRow_nil (K : Kind α) (w : World) (base : Nat) : OwnRow K w base (.slice none 0 0) [] := World.ownsRow_nil w base K.ty K.size
theorem OwnRow.low {base base' : Nat} {v : Value} {l : List α} (h : OwnRow K w base v l) (hb : base' ≤ base) : OwnRow K w base' v l := by
 refine ⟨h.1, ?_⟩
 rcases h.2 with h0 | ⟨g, cap, cur, h1, h2, h3⟩
 · exact .inl h0
 exact .inr ⟨g, cap, cur, h1, Nat.le_trans hb h2, h3⟩
theorem OwnRow.on {base : Nat} {v : Value} {l : List α} (h : OwnRow K w base v l) (hb : Below w.heap.size w w') : OwnRow K w' base v l := owns_keep h hb (Nat.le_refl _)
theorem OwnRow.alloc {base : Nat} {v : Value} {l : List α} (h : OwnRow K w base v l) (o : Obj) : OwnRow K (w.alloc o) base v l := World.ownsRow.alloc h o
theorem OwnRow.lt {base : Nat} {v : Value} {l : List α} (h : OwnRow K w base v l) : ∀ k, v.ownBlock = some k → base ≤ k ∧ k < w.heap.size := World.ownsRow.lt h
theorem OwnRow.grown {base : Nat} {v : Value} {l : List α} {r : Option Nat} (h : OwnRow K w base v l) (hg : w.grownBy w' r) (hr : ∀ k, v.ownBlock = some k → some k ≠ r) : OwnRow K w' base v l := by
 refine World.ownsRow.kept h hg ?_
 cases hv : v.ownBlock with
 | none => exact .inl rfl
 | some k => exact .inr (hr k hv)
theorem OwnRow.at (hK : K.Ok bytes) {base : Nat} {v : Value} {l : List α} (h : OwnRow K w base v l) : ∃ ad cap, v = .slice ad l.length cap ∧ RowAt K w ad l.length cap l ∧ (∀ a, ad = some a → base ≤ a.block ∧ a.block < w.heap.size) := by
 rcases h.2 with ⟨rfl, h0⟩ | ⟨g, cap, cur, rfl, hb, hh, hc, _, hs, ht⟩
 · refine ⟨none, 0, by rw [h0], ?_, fun a ha => by cases ha⟩
   obtain rfl := List.eq_nil_of_length_eq_zero h0
   exact rowAt_nil w
 refine ⟨_, cap, rfl, ⟨rfl, hc, (fun e => by cases e), .inr ⟨g, 0, rfl, (Array.getElem?_eq_some_iff.1 hh).1, fun i x hi j u hj => ?_⟩⟩, fun a ha => by cases ha; exact ⟨hb, (Array.getElem?_eq_some_iff.1 hh).1⟩⟩
 have hjs : j < K.size := by have := (List.getElem?_eq_some_iff.1 hj).1; rwa [hK.len] at this
 have h1 := hK.all_at l i x hi j hjs
 rw [hj, ← ht, List.getElem?_take] at h1
 rw [Nat.zero_add, cell_of_row w g _ _ _ _ hh]
 split at h1
 · simpa using h1
 cases h1
theorem ownRow_lit (hK : K.Ok bytes) (w : World) (base : Nat) (l : List α) (hb : base ≤ w.heap.size) (hm : l.length ≤ 1000000) (cs : Array Value) (hcs : cs = (K.all l).toArray) (n : Nat) (hn : l.length = n) : OwnRow K (w.alloc (.cells cs K.ty)) base (.slice (some ⟨w.heap.size, 0, none⟩) n n) l := by
 subst hcs hn
 have := World.ownsRow_lit (e := K.ty) (size := K.size) (base := base) w (K.all l).toArray l.length hb (by unfold maxLen; omega) (by rw [List.size_toArray, hK.all_len])
 unfold OwnRow
 simpa using this
theorem rowAt_lit (hK : K.Ok bytes) (w : World) (l : List α) (hm : l.length ≤ 1000000) (cs : Array Value) (hcs : cs = (K.all l).toArray) (n : Nat) (hn : l.length = n) : RowAt K (w.alloc (.cells cs K.ty)) (some ⟨w.heap.size, 0, none⟩) n n l := by
 obtain ⟨ad, cap, e, h, _⟩ := (ownRow_lit hK w 0 l (Nat.zero_le _) hm cs hcs n hn).at hK
 cases e
 exact h
theorem append_block (hK : K.Ok bytes) (w w' : World) (base : Nat) (v v' : Value) (l m : List α) (ty : Nat) (hown : OwnRow K w base v l) (a : Addr) (cap : Nat) (hnews : ∀ j u, (K.all m)[j]? = some u → w.cell? (a.add j) = some u) (hn : (l.length + m.length) * bytes ≤ 140737488355328) (hn2 : l.length + m.length ≤ 140737488355328)
 (hrun : (Builtin.append_ #[K.sl, K.sl] ty #[v, .slice (some a) m.length cap]).run Tryz.prog w = .ok v' w') : ∀ k, v'.ownBlock = some k → v.ownBlock = some k ∨ k = w.heap.size := by
 obtain ⟨i, z, hi, hz, hs, hby, hzs⟩ := hK.info
 have hu := hK.und
 have hml := hK.all_len m
 rw [← hs] at hml
 intro k hk
 rcases hown.2 with ⟨rfl, h0⟩ | ⟨g, cp, cur, rfl, hbg, hg, hnc, hcm, hcs, htake⟩
 · by_cases hm : m.length = 0
   · have : m = [] := List.eq_nil_of_length_eq_zero hm
     subst this
     have hrun2 : (Builtin.append_ #[K.sl, K.sl] ty #[.slice none 0 0, .slice (some a) 0 cap]).run Tryz.prog w = .ok (.slice none 0 0) w := by
      simp [Builtin.append_, run_underlying hu, sizeOf, typeInfo, hi, Builtin.lenOf, Builtin.firstCells, loadCells, loadCellsFrom]
     rw [List.length_nil, hrun2] at hrun
     injection hrun with e1 e2
     subst e1
     cases hk
   rw [run_append_nil (P := Tryz.prog) w K.sl ty K.ty i z hu hi hz a m.length cap (K.all m) hml hnews (by omega) (by omega) (by rw [hby]; have : m.length * bytes ≤ (l.length + m.length) * bytes := Nat.mul_le_mul_right _ (by omega); omega)] at hrun
   injection hrun with e1 e2
   subst e1
   cases hk
   exact .inr rfl
 by_cases hroom : l.length + m.length ≤ cp
 · rw [run_append_room (P := Tryz.prog) w K.sl ty K.ty i hu hi g l.length cp cur hg a m.length cap (K.all m) hml hnews (hK.all_one m) hroom (by rw [hml, hcs, ← hs, ← Nat.add_mul]; exact Nat.mul_le_mul_right _ hroom)] at hrun
   injection hrun with e1 e2
   subst e1
   exact .inl hk
 have hlo : (K.all l).length = l.length * i.size := by rw [hs]; exact hK.all_len l
 rw [run_append_grow (P := Tryz.prog) w K.sl ty K.ty i z hu hi hz ⟨g, 0, none⟩ l.length cp (K.all l) hlo (World.ownsRow.cells hown (g := g) rfl) a m.length cap (K.all m) hml hnews (by omega) (by omega) (growslice_fits (by omega) (by rw [hby]; exact hn))] at hrun
 injection hrun with e1 e2
 subst e1
 cases hk
 exact .inr rfl
theorem run_row_append (hK : K.Ok bytes) (w : World) (base : Nat) (v : Value) (l m : List α) (ty : Nat) (hown : OwnRow K w base v l) (ad : Option Addr) (n cap : Nat) (hr : RowAt K w ad n cap m) (hn : (l.length + n) * bytes ≤ 140737488355328) (hn2 : l.length + n ≤ 140737488355328) (hbase : base ≤ w.heap.size) :
 ∃ v' w', (Builtin.append_ #[K.sl, K.sl] ty #[v, .slice ad n cap]).run Tryz.prog w = .ok v' w' ∧ OwnRow K w' base v' (l ++ m) ∧ w.grownBy w' v.ownBlock ∧ (v ≠ .slice none 0 0 → v' ≠ .slice none 0 0) ∧ (∀ k, v'.ownBlock = some k → v.ownBlock = some k ∨ w.heap.size ≤ k) := by
 obtain ⟨i, z, hi, hz, hs, hby, hzs⟩ := hK.info
 obtain rfl := hr.length
 have hu := hK.und
 rcases ad with _ | ⟨b, off, x⟩
 · have hc := hr.room rfl
   have hf := hr.fits
   obtain rfl : m = [] := List.eq_nil_of_length_eq_zero (by omega)
   subst hc
   refine ⟨v, w, ?_, by rw [List.append_nil]; exact hown, ⟨rfl, rfl, rfl, Nat.le_refl _, fun _ _ _ => rfl⟩, fun h => h, fun k hk => .inl hk⟩
   exact run_append_owned_none (P := Tryz.prog) (w := w) base K.sl ty K.ty i K.size hu hi v _ _ hown
 have hx : x = none ∨ m.length = 0 := by
  rcases hr.cells with h0 | ⟨_, _, e, _⟩
  · exact .inr h0
  cases e; exact .inl rfl
 have hnews : ∀ j u, (K.all m)[j]? = some u → w.cell? ((⟨b, off, x⟩ : Addr).add j) = some u := by
  intro j u hj
  rcases hx with rfl | h0
  · exact hr.news hK j u hj
  obtain rfl := List.eq_nil_of_length_eq_zero h0
  simp [Kind.all] at hj
 obtain ⟨v', w', hrun, h2, h3, h4⟩ := run_append_own (P := Tryz.prog) w base K.sl ty K.ty i z K.size bytes hu hi hz hs hby hzs hK.pos v l.length (K.all l) hown ⟨b, off, x⟩ m.length cap (K.all m) (hK.all_len m) hnews (hK.all_one m) (by unfold maxLen; omega) hn hbase
 refine ⟨v', w', hrun, ?_, h3, fun hne h => hne (h4.1 h).1, ?_⟩
 · unfold OwnRow
   rw [K.all_app, List.length_append]
   exact h2
 intro k hk
 rcases append_block hK w w' base v v' l m ty hown _ cap hnews hn hn2 hrun k hk with h | h
 · exact .inl h
 exact .inr (by omega)
def Appended (K : Kind α) (w : World) (base : Nat) (v : Value) (l : List α) (v' : Value) (w' : World) : Prop :=
 OwnRow K w' base v' l ∧ w.grownBy w' v.ownBlock ∧ (v ≠ .slice none 0 0 → v' ≠ .slice none 0 0) ∧ (∀ k, v'.ownBlock = some k → v.ownBlock = some k ∨ w.heap.size ≤ k)
theorem list_row {w : World} {ops : Array Oper} {rest : List Oper} {o : Oper} {a : Act} {Q : Exit → Act → World → Prop} (hw : Region.wanted o (yielded ops a.tmps) = true) (hK : K.Ok bytes) (s x : Operand)
 (ho : o.op = .call { callee := .builtin .append, args := #[s, x], argTypes := #[K.sl, K.sl] })
 (base : Nat) (l m : List α) (v : Value) (hs : a.eval s = v) (hown : OwnRow K w base v l) (hbase : base ≤ w.heap.size)
 (ad : Option Addr) (n cap : Nat) (hx : a.eval x = .slice ad n cap) (hr : RowAt K w ad n cap m) (hn : l.length + n ≤ 100000000000)
 (h : ∀ v' w', Appended K w base v (l ++ m) v' w' → wpList Tryz.prog ops Q rest (a.put o.dst v') w') :
 wpList Tryz.prog ops Q (o :: rest) a w := by
 refine BigFrame.wpList_want hw fun C hC => ?_
 have hf := hK.few
 obtain ⟨v', w', hrun, h2⟩ := run_row_append hK w base v l m o.type hown ad n cap hr (Nat.le_trans (Nat.mul_le_mul hn hf) (by omega)) (by omega) hbase
 unfold Oper.wp execOp
 simp only [ho, resolve, invoke, builtin, Sem.run_bind, Sem.run_pure, Result.andThen_ok, List.map_toArray, List.map_cons, List.map_nil, hs, hx, hrun]
 exact hC _ _ (h v' w' h2)
theorem held_row {w : World} {ops : Array Oper} {o : Oper} {a : Act} {C : Act → World → Prop} {Q : Exit → Act → World → Prop} {Z : Prop} [Decidable (Region.wanted o (yielded ops a.tmps) = true)] (hw : Region.wanted o (yielded ops a.tmps) = true) (hK : K.Ok bytes) (s x : Operand)
 (ho : o.op = .call { callee := .builtin .append, args := #[s, x], argTypes := #[K.sl, K.sl] })
 (base : Nat) (l m : List α) (v : Value) (hs : a.eval s = v) (hown : OwnRow K w base v l) (hbase : base ≤ w.heap.size)
 (ad : Option Addr) (n cap : Nat) (hx : a.eval x = .slice ad n cap) (hr : RowAt K w ad n cap m) (hn : l.length + n ≤ 100000000000)
 (h : ∀ v' w', Appended K w base v (l ++ m) v' w' → C (a.put o.dst v') w') :
 if Region.wanted o (yielded ops a.tmps) = true then Oper.wp Tryz.prog o a w C Q else Z := by
 rw [if_pos hw]
 have hf := hK.few
 obtain ⟨v', w', hrun, h2⟩ := run_row_append hK w base v l m o.type hown ad n cap hr (Nat.le_trans (Nat.mul_le_mul hn hf) (by omega)) (by omega) hbase
 unfold Oper.wp execOp
 simp only [ho, resolve, invoke, builtin, Sem.run_bind, Sem.run_pure, Result.andThen_ok, List.map_toArray, List.map_cons, List.map_nil, hs, hx, hrun]
 exact h v' w' h2
end Go.Proofs.YtjmfdildnojknaaGreat
namespace Go.Proofs.YtjmfdildnojknaaGreat
open Go.RowKit
open Go.BatMath hiding AllB getD_lt take_all
def recVals (l : List Rc) : List Value := l.flatMap fun r => [.string r.key, .string r.val]
theorem recVals_len : ∀ l : List Rc, (recVals l).length = l.length * 2
 | [] => rfl
 | r :: l => by rw [recVals, List.flatMap_cons, List.length_append]; have := recVals_len l; unfold recVals at this; rw [this]; simp; omega
theorem recVals_app (a b : List Rc) : recVals (a ++ b) = recVals a ++ recVals b := by simp [recVals]
theorem recVals_at : ∀ (l : List Rc) (i : Nat) (r : Rc), l[i]? = some r → (recVals l)[i * 2]? = some (.string r.key) ∧ (recVals l)[i * 2 + 1]? = some (.string r.val)
 | [], i, r, h => by cases h
 | x :: l, 0, r, h => by
   cases h
   exact ⟨rfl, rfl⟩
 | x :: l, i + 1, r, h => by
   have ih := recVals_at l i r h
   have e : recVals (x :: l) = .string x.key :: .string x.val :: recVals l := rfl
   rw [e, show (i + 1) * 2 = i * 2 + 1 + 1 by omega]
   exact ih
theorem recVals_one (l : List Rc) : ∀ u ∈ recVals l, u.oneCell' = true := by
 intro u hu
 obtain ⟨r, _, h⟩ := List.mem_flatMap.1 hu
 rcases List.mem_cons.1 h with rfl | h
 · rfl
 rcases List.mem_cons.1 h with rfl | h
 · rfl
 cases h
def OwnRecs (w : World) (base : Nat) (v : Value) (l : List Rc) : Prop := w.ownsRow base 84 2 v l.length (recVals l)
theorem ownRecs_nil (w : World) (base : Nat) : OwnRecs w base (.slice none 0 0) [] := World.ownsRow_nil w base 84 2
theorem OwnRecs.on {w w' : World} {base : Nat} {v : Value} {l : List Rc} (h : OwnRecs w base v l) (hb : Below w.heap.size w w') : OwnRecs w' base v l := by
 refine ⟨h.1, ?_⟩
 rcases h.2 with hn | ⟨g, cap, cur, rfl, hbg, hh, r⟩
 · exact .inl hn
 exact .inr ⟨g, cap, cur, rfl, hbg, (hb.block g (lt_of_block hh)).trans hh, r⟩
theorem OwnRecs.set {w : World} {base k j : Nat} {u v : Value} {l : List Rc} (h : OwnRecs w base v l) (hk : k < base) : OwnRecs (w.setCell ⟨k, j, none⟩ u) base v l := by
 refine ⟨h.1, ?_⟩
 rcases h.2 with hn | ⟨g, cap, cur, rfl, hbg, hh, r⟩
 · exact .inl hn
 exact .inr ⟨g, cap, cur, rfl, hbg, box_off hh (by omega) u, r⟩
theorem OwnRecs.at {w : World} {base : Nat} {v : Value} {l : List Rc} (h : OwnRecs w base v l) : ∃ ad cap, v = .slice ad l.length cap ∧ RecsAt w ad l.length cap l ∧ (∀ a, ad = some a → base ≤ a.block) := by
 rcases h.2 with ⟨hn, h0⟩ | ⟨g, cap, cur, rfl, hbg, hh, hc, _, _, ht⟩
 · have hl := List.eq_nil_of_length_eq_zero h0
   subst hl
   exact ⟨none, 0, hn, recsAt_nil w, fun a h => by cases h⟩
 refine ⟨_, _, rfl, ⟨rfl, hc, (fun h => by cases h), .inr ⟨g, 0, rfl, lt_of_block hh, fun i r hi => ?_⟩⟩, fun a h => by cases h; exact hbg⟩
 have hil : i < l.length := (List.getElem?_eq_some_iff.1 hi).1
 obtain ⟨h1, h2⟩ := recVals_at l i r hi
 rw [← ht, List.getElem?_take, if_pos (by omega)] at h1 h2
 rw [Nat.zero_add]
 refine ⟨?_, ?_⟩
 · rw [cell_of_row w g _ _ _ _ hh]; simpa using h1
 rw [cell_of_row w g _ _ _ _ hh]; simpa using h2
theorem infoRec : (Tryz.prog.info? 84).map (fun i => (i.zero, i.size, i.bytes)) = some (some (.agg #[.string ⟨#[]⟩, .string ⟨#[]⟩]), 2, 32) := by kernel_rfl
def RecNews (w : World) (a : Addr) (l : List Rc) : Prop := ∀ j u, (recVals l)[j]? = some u → w.cell? (a.add j) = some u
theorem recNews_lit (w : World) (k s : ByteArray) (g : Nat) (hg : g = w.heap.size) : RecNews (w.alloc (.cells #[.string k, .string s] 84)) ⟨g, 0, none⟩ [⟨k, s⟩] := by
 subst hg
 intro j u hj
 rw [add_at, Nat.zero_add]
 have hh : (w.alloc (.cells #[.string k, .string s] 84)).heap[w.heap.size]? = some (.cells #[.string k, .string s] 84 (0, 0)) := heap_alloc_new w _
 rw [cell_of_row _ _ _ _ _ _ hh]
 simpa [recVals] using hj
theorem run_recs_append (w : World) (base : Nat) (v : Value) (l m : List Rc) (ty : Nat) (hown : OwnRecs w base v l) (ad : Addr) (cap : Nat) (hr : RecNews w ad m) (hn : l.length + m.length ≤ 1000000) (hbase : base ≤ w.heap.size) :
 ∃ v' w', (Builtin.append_ #[27, 27] ty #[v, .slice (some ad) m.length cap]).run Tryz.prog w = .ok v' w' ∧ OwnRecs w' base v' (l ++ m) ∧ w.grownBy w' v.ownBlock := by
 obtain ⟨i0, hi, hz0, hz1, hz2⟩ := info_parts infoRec
 obtain ⟨v', w', hrun, h2, h3, _⟩ := run_append_own (P := Tryz.prog) w base 27 ty 84 i0 (.agg #[.string ⟨#[]⟩, .string ⟨#[]⟩]) 2 32 Tryz.underlying27 hi hz0 hz1 hz2 rfl (by decide) v l.length (recVals l) hown ad m.length cap (recVals m) (recVals_len m) hr (recVals_one m) (by unfold maxLen; omega) (by omega) hbase
 refine ⟨v', w', hrun, ?_, h3⟩
 unfold OwnRecs
 rw [recVals_app, List.length_append]
 exact h2
theorem list_recs {w : World} {ops : Array Oper} {rest : List Oper} {o : Oper} {a : Act} {Q : Exit → Act → World → Prop} (hw : Region.wanted o (yielded ops a.tmps) = true) (s x : Operand)
 (ho : o.op = .call { callee := .builtin .append, args := #[s, x], argTypes := #[27, 27] })
 (base : Nat) (l m : List Rc) (v : Value) (hs : a.eval s = v) (hown : OwnRecs w base v l) (hbase : base ≤ w.heap.size)
 (ad : Addr) (n cap : Nat) (hnm : m.length = n) (hx : a.eval x = .slice (some ad) n cap) (hr : RecNews w ad m) (hn : l.length + n ≤ 1000000)
 (h : ∀ v' w', OwnRecs w' base v' (l ++ m) → w.grownBy w' v.ownBlock → wpList Tryz.prog ops Q rest (a.put o.dst v') w') :
 wpList Tryz.prog ops Q (o :: rest) a w := by
 subst hnm
 refine BigFrame.wpList_want hw fun K hK => ?_
 obtain ⟨v', w', hrun, h2, h3⟩ := run_recs_append w base v l m o.type hown ad cap hr hn hbase
 unfold Oper.wp execOp
 simp only [ho, resolve, invoke, builtin, Sem.run_bind, Sem.run_pure, Result.andThen_ok, List.map_toArray, List.map_cons, List.map_nil, hs, hx, hrun]
 exact hK _ _ (h v' w' h2 h3)
theorem BoxAt.grown {w w' : World} {k base : Nat} {b0 b1 b2 b3 : Int} {b4 : Bool} {b5 : Int} {u v : Value} {l : List Rc} (h : BoxAt w k b0 b1 b2 b3 b4 b5 u) (ho : OwnRecs w base v l) (hk : k < base) (hg : w.grownBy w' v.ownBlock) : BoxAt w' k b0 b1 b2 b3 b4 b5 u := by
 unfold BoxAt at *
 rw [hg.block k (lt_of_block h) (fun e => by have := (ho.lt k e.symm).1; omega)]
 exact h
theorem Below.recs {w0 w w' : World} {base B : Nat} {v : Value} {l : List Rc} (h : Below B w0 w) (ho : OwnRecs w base v l) (hB : B ≤ base) (hs : B ≤ w.heap.size) (hg : w.grownBy w' v.ownBlock) : Below B w0 w' :=
 h.grown hg hs (fun k hk => by have := (ho.lt k hk).1; omega)
theorem RecsAt.put {w : World} {base j len cap : Nat} {ad : Option Addr} {l : List Rc} {u : Value} (h : RecsAt w ad len cap l) (hb : ∀ a, ad = some a → base < a.block) : RecsAt (w.setCell ⟨base, j, none⟩ u) ad len cap l := by
 refine ⟨h.length, h.fits, h.room, ?_⟩
 rcases h.cells with h0 | ⟨b, off, e, hlt, hc⟩
 · exact .inl h0
 have hne : b ≠ base := by have := hb _ e; simp only at this; omega
 have hx : ∀ i, (w.setCell ⟨base, j, none⟩ u).cell? ⟨b, i, none⟩ = w.cell? ⟨b, i, none⟩ := fun i => World.cell?_of_block (a := ⟨b, i, none⟩) (by
  show (w.heap.modify base _)[b]? = _
  rw [Array.getElem?_modify, if_neg (Ne.symm hne)])
 refine .inr ⟨b, off, e, by simpa using hlt, fun i r hi => ?_⟩
 rw [hx, hx]
 exact hc i r hi
end Go.Proofs.YtjmfdildnojknaaGreat
namespace Go.Proofs.YtjmfdildnojknaaGreat
open Go.RowKit
open Go.SeqMath
open Go.BatMath hiding AllB getD_lt take_all
def recK : Kind Rc := ⟨fun r => [.string r.key, .string r.val], 2, 84, 27⟩
theorem recK_ok : recK.Ok 32 where
 und := Tryz.underlying27
 info := by
  obtain ⟨i, hi, hz, hs, hb⟩ := info_parts infoRec
  exact ⟨i, _, hi, hz, hs, hb, rfl⟩
 len := fun _ => rfl
 pos := by decide
 one := fun r u hu => by
  simp only [recK, List.mem_cons, List.not_mem_nil, or_false] at hu
  rcases hu with rfl | rfl <;> rfl
 few := by decide
theorem recsAt_row {w : World} {ad : Option Addr} {len cap : Nat} {l : List Rc} : RecsAt w ad len cap l ↔ RowAt recK w ad len cap l := by
 constructor
 · intro h
   refine ⟨h.length, h.fits, h.room, ?_⟩
   rcases h.cells with h0 | ⟨b, off, e, hlt, hc⟩
   · exact .inl h0
   refine .inr ⟨b, off, e, hlt, fun i x hi j u hj => ?_⟩
   obtain ⟨h1, h2⟩ := hc i x hi
   rcases j with _ | _ | j
   · cases hj; exact h1
   · cases hj; exact h2
   simp [recK] at hj
 intro h
 refine ⟨h.length, h.fits, h.room, ?_⟩
 rcases h.cells with h0 | ⟨b, off, e, hlt, hc⟩
 · exact .inl h0
 exact .inr ⟨b, off, e, hlt, fun i x hi => ⟨hc i x hi 0 _ rfl, hc i x hi 1 _ rfl⟩⟩
end Go.Proofs.YtjmfdildnojknaaGreat
namespace Go.Proofs.YtjmfdildnojknaaGreat
open Go
section
variable {P : Program} {ops : Array Oper} {Q : Exit → Act → World → Prop} {md : Region.Mode} {S : World → Prop} {Z : List Nat}
def Closed (md : Region.Mode) (ops : Array Oper) (L : Array Bool) : Prop := ∀ j o, ops[j]? = some o → L.getD j false = true → ∀ e ∈ o.after, Region.binds md e = true → L.getD e.on false = true
def closedB (md : Region.Mode) (ops : Array Oper) (L : Array Bool) : Bool := (List.range ops.size).all fun j => !(L.getD j false) || match ops[j]? with | some o => o.after.all fun e => !(Region.binds md e) || L.getD e.on false | none => true
theorem closed_of {L : Array Bool} (h : closedB md ops L = true) : Closed md ops L := by
 intro j o ho hl e he hb
 have hj : j < ops.size := (Array.getElem?_eq_some_iff.1 ho).1
 have h1 := List.all_eq_true.1 h j (List.mem_range.2 hj)
 rw [hl, ho] at h1
 simp only [Bool.not_true, Bool.false_or, Array.all_eq_true'] at h1
 have h2 := h1 e he
 rw [hb] at h2
 simpa using h2
def waitsB (md : Region.Mode) (ops : Array Oper) (i : Nat) : Nat → Nat → Bool
 | 0, _ => false
 | n + 1, z => match ops[z]? with | some o => o.after.any fun e => Region.binds md e && (e.on == i || waitsB md ops i n e.on) | none => false
theorem waits_closed {i : Nat} {L : Array Bool} (hc : Closed md ops L) : ∀ (n z : Nat), waitsB md ops i n z = true → L.getD z false = true → L.getD i false = true
 | 0, z, h, _ => by cases h
 | n + 1, z, h, hz => by
   unfold waitsB at h
   cases ho : ops[z]? with
   | none => rw [ho] at h; cases h
   | some o =>
     rw [ho] at h
     obtain ⟨e, he, h1⟩ := Array.any_eq_true'.1 h
     rw [Bool.and_eq_true, Bool.or_eq_true] at h1
     have h2 := hc z o ho hz e he h1.1
     rcases h1.2 with h3 | h3
     · rw [beq_iff_eq] at h3; rw [← h3]; exact h2
     exact waits_closed hc n _ h3 h2
def ZFree (Z : List Nat) (L : Array Bool) : Prop := ∀ z ∈ Z, L.getD z false = false
def wpAnyZ (P : Program) (md : Region.Mode) (ops : Array Oper) (Q : Exit → Act → World → Prop) (Z : List Nat) (S : World → Prop) : Nat → Array Bool → Act → World → Prop
 | 0, listed, a, w => Region.ready md ops listed = [] ∧ Q .normal a w
 | fuel + 1, listed, a, w =>
   (Region.ready md ops listed = [] → Q .normal a w) ∧
   ∀ i ∈ Region.ready md ops listed, wpOp P ops Q i (fun a' w' => (ZFree Z (listed.setIfInBounds i true) → S w') ∧ wpAnyZ P md ops Q Z S fuel (listed.setIfInBounds i true) a' w') a w
theorem wpAny_of_z : ∀ (fuel : Nat) (listed : Array Bool) (a : Act) (w : World), wpAnyZ P md ops Q Z S fuel listed a w → wpAny P md ops Q fuel listed a w
 | 0, _, _, _, h => h
 | fuel + 1, _, _, _, h => ⟨h.1, fun i hi => wpOp_mono (fun a' w' h' => wpAny_of_z fuel _ a' w' h'.2) (h.2 i hi)⟩
theorem closed_step {j : Nat} {L : Array Bool} (hc : Closed md ops L) (hj : j ∈ Region.ready md ops L) : Closed md ops (L.setIfInBounds j true) := by
 intro k o ho hl e he hb
 by_cases hkj : j = k
 · subst hkj
   obtain ⟨_, o', ho', hall⟩ := mem_ready.1 hj
   rw [ho] at ho'
   cases ho'
   exact getD_set_true (hall e he hb)
 rw [getD_set_ne false hkj] at hl
 exact getD_set_true (hc k o ho hl e he hb)
theorem unlisted {i : Nat} {L : Array Bool} (h : L.getD i true = false) : L.getD i false = false := by
 rcases Nat.lt_or_ge i L.size with h' | h'
 · simp [h'] at h ⊢; exact h
 simp [Array.getElem?_eq_none h'] at h
theorem wpAnyZ_first {i n : Nat} {oi : Oper} {v : Value} (hi : ops[i]? = some oi) (hsel : ∀ (j : Nat) (o : Oper) cs b, ops[j]? = some o → o.op ≠ .select cs b)
 (hQ : ∀ c a w, Q (.panic c) (a.put oi.dst v) w → Q (.panic c) a w) (hz : ∀ z ∈ Z, waitsB md ops i n z = true) (hiz : i ∉ Z) :
 ∀ (fuel : Nat) (listed : Array Bool) (a : Act) (w : World),
   (∀ j oj, ops[j]? = some oj → j ≠ i → listed.getD j true = false → (∀ e ∈ oj.after, Region.binds md e = true → e.on ≠ i) → oi.apart ops oj = true) →
   i ∈ Region.ready md ops listed → Closed md ops listed → YieldsIf P ops S oi v a → S w →
   wpAnyZ P md ops Q Z S fuel (listed.setIfInBounds i true) (a.put oi.dst v) w → wpAnyZ P md ops Q Z S (fuel + 1) listed a w := by
 have free : ∀ L, Closed md ops L → L.getD i true = false → ZFree Z L := fun L hc hu z hzZ => by
  cases hzl : L.getD z false
  · rfl
  have := waits_closed hc n z (hz z hzZ) hzl
  rw [unlisted hu] at this
  cases this
 intro fuel
 induction fuel with
 | zero =>
   intro listed a w _ hr _ hy hS H
   refine ⟨fun h => (by rw [h] at hr; cases hr), fun j hj => ?_⟩
   by_cases hji : j = i
   · subst hji; exact hy.wpOp hi hS ⟨fun _ => hS, H⟩
   have := ready_mono hj hji
   rw [H.1] at this
   cases this
 | succ fuel ih =>
   intro listed a w hfree hr hc hy hS H
   refine ⟨fun h => (by rw [h] at hr; cases hr), fun j hj => ?_⟩
   by_cases hji : j = i
   · subst hji; exact hy.wpOp hi hS ⟨fun _ => hS, H⟩
   have h1 := H.2 j (ready_mono hj hji)
   obtain ⟨hjun, oj, hoj, hall⟩ := mem_ready.1 hj
   have hnot : ∀ e ∈ oj.after, Region.binds md e = true → e.on ≠ i := fun e he hb heq => by
    have h1 := hall e he hb
    have h0 := (mem_ready.1 hr).1
    rw [heq] at h1
    rw [unlisted h0] at h1
    cases h1
   have h2 := wpOp_putIf hoj (hfree j oj hoj hji hjun hnot) (fun cs b => hsel i oi cs b hi) (fun cs b => hsel j oj cs b hoj) hQ hy h1
   have hfree' : ∀ k ok, ops[k]? = some ok → k ≠ i → (listed.setIfInBounds j true).getD k true = false →
    (∀ e ∈ ok.after, Region.binds md e = true → e.on ≠ i) → oi.apart ops ok = true := fun k ok hk hki hun hno => by
    refine hfree k ok hk hki ?_ hno
    by_cases hjk : j = k
    · subst hjk; exact hjun
    rw [getD_set_ne true hjk] at hun; exact hun
   have hr' := ready_mono hr (Ne.symm hji)
   have hc' := closed_step hc hj
   have hzf := free _ hc' (mem_ready.1 hr').1
   have hzf2 : ZFree Z ((listed.setIfInBounds i true).setIfInBounds j true) := fun z hzZ => by
    have hne : i ≠ z := fun e => hiz (e ▸ hzZ)
    rw [Array.setIfInBounds_comm _ _ (Ne.symm hji), getD_set_ne false hne]
    exact hzf z hzZ
   refine wpOp_mono (fun a' w' h3 => ⟨fun _ => h3.2.1 hzf2, ih (listed.setIfInBounds j true) a' w' hfree' hr' hc' h3.1 (h3.2.1 hzf2) ?_⟩) h2
   rw [Array.setIfInBounds_comm _ _ hji]
   exact h3.2.2
theorem wpAnyZ_take {i : Nat} {oi : Oper} {v : Value} {fuel : Nat} {listed : Array Bool} {a : Act} {w : World} (hi : ops[i]? = some oi)
 (hs : Region.noSelect ops = true) (hf : Region.free md ops listed i = true) (hr : (Region.ready md ops listed).contains i = true) (hc : closedB md ops listed = true) (hz : (Z.all fun z => waitsB md ops i 12 z && !(z == i)) = true)
 (hQ : ∀ c a w, Q (.panic c) (a.put oi.dst v) w → Q (.panic c) a w) (hy : YieldsIf P ops S oi v a) (hS : S w)
 (h : wpAnyZ P md ops Q Z S fuel (listed.setIfInBounds i true) (a.put oi.dst v) w) : wpAnyZ P md ops Q Z S (fuel + 1) listed a w := by
 have hz' := List.all_eq_true.1 hz
 refine wpAnyZ_first (n := 12) hi (Region.noSelect_spec hs) hQ (fun z hzZ => ?_) (fun hiZ => ?_) fuel listed a w (Region.free_spec hi hf) (by simpa using hr) (closed_of hc) hy hS h
 · have := hz' z hzZ; rw [Bool.and_eq_true] at this; exact this.1
 have := hz' i hiZ; simp at this
def AllReadyZ (P : Program) (md : Region.Mode) (ops : Array Oper) (Q : Exit → Act → World → Prop) (Z : List Nat) (S : World → Prop) (fuel : Nat) (listed : Array Bool) (a : Act) (w : World) (rs : List Nat) : Prop :=
 ∀ i ∈ rs, wpOp P ops Q i (fun a' w' => (ZFree Z (listed.setIfInBounds i true) → S w') ∧ wpAnyZ P md ops Q Z S fuel (listed.setIfInBounds i true) a' w') a w
theorem AllReadyZ.nil {fuel : Nat} {listed : Array Bool} {a : Act} {w : World} : AllReadyZ P md ops Q Z S fuel listed a w [] := fun _ h => by cases h
theorem AllReadyZ.cons {fuel : Nat} {listed : Array Bool} {a : Act} {w : World} {i : Nat} {o : Oper} {rs : List Nat} (ho : ops[i]? = some o)
 (h : ∀ K' : Act → World → Prop, Shut (∀ a w, (ZFree Z (listed.setIfInBounds i true) → S w) → ((ZFree Z (listed.setIfInBounds i true) → S w) → wpAnyZ P md ops Q Z S fuel (listed.setIfInBounds i true) a w) → K' a w) → if Region.wanted o (yielded ops a.tmps) = true then Oper.wp P o a w K' Q else K' (a.put o.dst undef) w)
 (hs : AllReadyZ P md ops Q Z S fuel listed a w rs) : AllReadyZ P md ops Q Z S fuel listed a w (i :: rs) := fun j hj => by
 rcases List.mem_cons.1 hj with rfl | hj
 · exact wpOp_step ho (fun K' hK => h K' (fun a w hS hW => hK a w ⟨hS, hW hS⟩))
 exact hs j hj
theorem wpAnyZ_ready {rs : List Nat} {fuel : Nat} {listed : Array Bool} {a : Act} {w : World} (hr : Region.ready md ops listed = rs) (hne : rs ≠ [])
 (h : AllReadyZ P md ops Q Z S fuel listed a w rs) : wpAnyZ P md ops Q Z S (fuel + 1) listed a w :=
 ⟨fun h0 => absurd (hr ▸ h0) hne, by rw [hr]; exact h⟩
theorem wpAnyZ_done {listed : Array Bool} {a : Act} {w : World} (hr : Region.ready md ops listed = []) (h : Q .normal a w) :
 ∀ fuel, wpAnyZ P md ops Q Z S fuel listed a w
 | 0 => ⟨hr, h⟩
 | _ + 1 => ⟨fun _ => h, by rw [hr]; simp⟩
theorem wp_region_z {id : Nat} {a : Act} {w : World} (Z : List Nat) (S : World → Prop) (hm : P.follows .mixedOrders = true)
 (h : wpAnyZ P .any ops Q Z S ops.size (Array.replicate ops.size false) a w.drew) : (Code.region id ops true).wp P Q a w :=
 wp_region_any hm (wpAny_of_z _ _ _ _ h)
theorem wpAnyZ_strengthen {S' : World → Prop} (h : ∀ w, S' w → S w) :
 ∀ (fuel : Nat) (listed : Array Bool) (a : Act) (w : World), wpAnyZ P md ops Q Z S' fuel listed a w → wpAnyZ P md ops Q Z S fuel listed a w
 | 0, _, _, _, hh => hh
 | fuel + 1, _, _, _, hh => ⟨hh.1, fun i hi => wpOp_mono (fun _ _ hk => ⟨fun hz => h _ (hk.1 hz), wpAnyZ_strengthen h fuel _ _ _ hk.2⟩) (hh.2 i hi)⟩
theorem zfree_no {i : Nat} {listed : Array Bool} {Z : List Nat} {p : Prop} (h : (Z.contains i && decide (i < listed.size)) = true) : ZFree Z (listed.setIfInBounds i true) → p := by
 intro hz
 rw [Bool.and_eq_true] at h
 have := hz i (by simpa using h.1)
 have hlt : i < listed.size := of_decide_eq_true h.2
 simp [hlt] at this
end
section
variable {P : Program} {ops : Array Oper} {Q : Exit → Act → World → Prop} {md : Region.Mode} {S : World → Prop} {Z : List Nat}
theorem zt (i : Nat) {v : Value} {o1 : Option Nat} {o2 o3 o4 o5 o6} {fuel : Nat} {listed l2 : Array Bool} {a a2 : Act} {w : World}
    (h : wpAnyZ P md ops Q Z S fuel l2 a2 w)
    (hi : ops[i]? = some ⟨o1, o2, o3, o4, o5, o6⟩ := by exact rfl)
    (hk : (Region.noSelect ops && (Region.free md ops listed i && ((Region.ready md ops listed).contains i && (closedB md ops listed && Z.all fun z => waitsB md ops i 12 z && !(z == i))))) = true := by kernel_rfl)
    (hQ : ∀ c a w, Q (.panic c) (a.put o1 v) w → Q (.panic c) a w := by exact fun _ _ _ h => h) (hS : S w := by assumption)
    (hy : YieldsIf P ops S ⟨o1, o2, o3, o4, o5, o6⟩ v a := by first | exact .inr ⟨by rfl, rfl⟩ | exact .inl ⟨by rfl, by intro W hSw; (try dsimp only at hSw); go_simp; (try with_reducible rfl)⟩)
    (hl : listed.setIfInBounds i true = l2 := by (try simp only [List.setIfInBounds_toArray, List.set_cons_zero, List.set_cons_succ]); exact rfl)
    (ha : a.put o1 v = a2 := by (try simp only [Act.put, List.setIfInBounds_toArray, List.set_cons_zero, List.set_cons_succ]); exact rfl) : wpAnyZ P md ops Q Z S (fuel + 1) listed a w := by
  simp only [Bool.and_eq_true] at hk
  obtain ⟨h1, h2, h3, h4, h5⟩ := hk
  subst hl ha
  exact wpAnyZ_take hi h1 h2 h3 h4 h5 hQ hy hS h
theorem zr (i : Nat) {o1 : Option Nat} {o2 o3 o4 o5 o6} {fuel : Nat} {listed : Array Bool} {a : Act} {w : World}
    (h : ∀ K' : Act → World → Prop, Shut (∀ a w, (ZFree Z (listed.setIfInBounds i true) → S w) → ((ZFree Z (listed.setIfInBounds i true) → S w) → wpAnyZ P md ops Q Z S fuel (listed.setIfInBounds i true) a w) → K' a w) → if Region.wanted ⟨o1, o2, o3, o4, o5, o6⟩ (yielded ops a.tmps) = true then Oper.wp P ⟨o1, o2, o3, o4, o5, o6⟩ a w K' Q else K' (a.put o1 undef) w)
    (ho : ops[i]? = some ⟨o1, o2, o3, o4, o5, o6⟩ := by exact rfl) (hr : Region.ready md ops listed = [i] := by kernel_rfl) :
    wpAnyZ P md ops Q Z S (fuel + 1) listed a w :=
  wpAnyZ_ready hr (by simp) (AllReadyZ.cons ho h AllReadyZ.nil)
theorem zc {C : Act → World → Prop} {fuel : Nat} {l l2 : Array Bool} {a a2 : Act} {w : World}
    (hC : Shut (∀ a w, (ZFree Z l → S w) → ((ZFree Z l → S w) → wpAnyZ P md ops Q Z S fuel l a w) → C a w)) (hS : S w) (h : wpAnyZ P md ops Q Z S fuel l2 a2 w)
    (hl : l = l2 := by (try simp only [List.setIfInBounds_toArray, List.set_cons_zero, List.set_cons_succ]); exact rfl)
    (ha : a = a2 := by (try simp only [Act.put, List.setIfInBounds_toArray, List.set_cons_zero, List.set_cons_succ]); exact rfl) : C a w := by
  subst hl ha
  exact hC.out _ _ (fun _ => hS) (fun _ => h)
end
end Go.Proofs.YtjmfdildnojknaaGreat
namespace Go.Proofs.YtjmfdildnojknaaGreat
open Go Go.RowKit
section
variable {P : Program} {ops : Array Oper} {Q : Exit → Act → World → Prop} {md : Region.Mode} {S : World → Prop} {Z : List Nat}
theorem zs {id : Nat} {a : Act} {w : World} (Z : List Nat) {S : World → Prop} (KS : Hid (∀ V, Below w.heap.size w V → S V)) (h : ∀ u, Hid (Below w.heap.size w u) → S u → wpAnyZ P .any ops (NoPanic Q) Z S ops.size (Array.replicate ops.size false) a u) (hm : P.follows .mixedOrders = true := by kernel_rfl) : (Code.region id ops true).wp P Q a w :=
  wp_region_noPanic (wp_region_z Z S hm (h _ (Below.refl _ w).drew (KS _ (Below.refl _ w).drew)))
theorem zk {id : Nat} {a : Act} {w : World} (Z : List Nat) {C S : World → Prop} (KS : Hid (∀ V, C V → S V)) (h : wpAnyZ P .any ops Q Z S ops.size (Array.replicate ops.size false) a w.drew) (hm : P.follows .mixedOrders = true := by kernel_rfl) : (Code.region id ops true).wp P Q a w := wp_region_z Z S hm h
theorem hq {C S : World → Prop} (KS : Hid (∀ V, C V → S V)) (V : World) (h : S V) : S V := h
theorem zd {fuel : Nat} {listed : Array Bool} {a : Act} {w : World} (h : Q .normal a w) (hr : Region.ready md ops listed = [] := by kernel_rfl) : wpAnyZ P md ops (NoPanic Q) Z S fuel listed a w :=
  wpAnyZ_done hr (NoPanic.normal h) fuel
theorem zl {i : Nat} {C : Act → World → Prop} {fuel : Nat} {listed l2 : Array Bool} {a a2 : Act} {w : World}
    (hC : Shut (∀ a w, (ZFree Z (listed.setIfInBounds i true) → S w) → ((ZFree Z (listed.setIfInBounds i true) → S w) → wpAnyZ P md ops Q Z S fuel (listed.setIfInBounds i true) a w) → C a w))
    (h : wpAnyZ P md ops Q Z S fuel l2 a2 w) (hz : (Z.contains i && decide (i < listed.size)) = true := by kernel_rfl)
    (hl : listed.setIfInBounds i true = l2 := by (try simp only [List.setIfInBounds_toArray, List.set_cons_zero, List.set_cons_succ]); exact rfl)
    (ha : a = a2 := by (try simp only [Act.put, List.setIfInBounds_toArray, List.set_cons_zero, List.set_cons_succ]); exact rfl) : C a w := by
  subst hl ha
  exact hC.out _ _ (zfree_no hz) (fun _ => h)
end
end Go.Proofs.YtjmfdildnojknaaGreat
namespace Go.Proofs.YtjmfdildnojknaaGreat
open Go.RowKit
open Go.SeqMath
open Go.BatMath
theorem bel_drewN {B : Nat} {a w : World} (h : Below B a w) (n : Nat) : Below B a (w.drewN n) := h.trans ⟨rfl, rfl, rfl, Nat.le_refl _, fun _ _ => rfl⟩
def SaysB (r : Bool) (w : World) (e : Ending) (w' : World) : Prop := e = .returned (.bool r) ∧ Below w.heap.size w w'
theorem saysB_mk {r s : Bool} {w w' : World} (h : s = r) (hb : Below w.heap.size w w') : SaysB r w (.returned (.bool s)) w' := ⟨by rw [h], hb⟩
def SameAt (w : World) (l m : List Rc) (v : Value) (wr : World) : Prop := ∃ j : Nat, j ≤ l.length ∧ v = .int .i64 j ∧ l.take j = m.take j ∧ Below w.heap.size w wr
theorem ba_toList_inj {s t : ByteArray} (h : s.toList = t.toList) : s = t := by
 rw [ByteArray.toList_eq, ByteArray.toList_eq] at h
 cases s; cases t
 simp only at h
 rw [Array.toList_inj.1 h]
theorem ba_ne {s t : ByteArray} (h : s ≠ t) : (s.toList == t.toList) = false := by
 rw [beq_eq_false_iff_ne]
 exact fun e => h (ba_toList_inj e)
theorem RecsAt.at {w W : World} {ad : Option Addr} {len cap : Nat} {l : List Rc} (h : RecsAt w ad len cap l) (hb : Below w.heap.size w W) (j : Nat) (hj : j < len) :
 ∃ bk off r, ad = some ⟨bk, off, none⟩ ∧ bk < w.heap.size ∧ l[j]? = some r ∧ W.cell? ⟨bk, off + j * 2, none⟩ = some (.string r.key) ∧ W.cell? ⟨bk, off + j * 2 + 1, none⟩ = some (.string r.val) := by
 have hl := h.length
 have hjl : j < l.length := by omega
 rcases h.cells with h0 | ⟨bk, off, e, hlt, hc⟩
 · omega
 have hi : l[j]? = some (l[j]'hjl) := List.getElem?_eq_getElem hjl
 obtain ⟨h1, h2⟩ := hc j _ hi
 exact ⟨bk, off, _, e, hlt, hi, (hb.cell (p := ⟨bk, _, none⟩) hlt).trans h1, (hb.cell (p := ⟨bk, _, none⟩) hlt).trans h2⟩
theorem take_same {l m : List Rc} {j : Nat} {r : Rc} (h : l.take j = m.take j) (hl : l[j]? = some r) (hm : m[j]? = some r) : l.take (j + 1) = m.take (j + 1) := by
 obtain ⟨h1, e1⟩ := List.getElem?_eq_some_iff.1 hl
 obtain ⟨h2, e2⟩ := List.getElem?_eq_some_iff.1 hm
 rw [List.take_succ_eq_append_getElem h1, List.take_succ_eq_append_getElem h2, h, e1, e2]
theorem refRecs_any (w : World) (a1 a2 : Option Addr) (n1 n2 c1 c2 : Nat) (l1 l2 : List Rc) (h1 : RecsAt w a1 n1 c1 l1) (h2 : RecsAt w a2 n2 c2 l2) (hL : n1 ≤ 140737488355328) (r : Bool) (hr : r = true ↔ l1 = l2) :
 Calls Tryz.prog 87 #[.slice a1 n1 c1, .slice a2 n2 c2] w (SaysB r w) := by
 have q1 := h1.length
 have q2 := h2.length
 have H1 := qh h1
 have H2 := qh h2
 have HR := qh hr
 have Q1 := qh q1
 have Q2 := qh q2
 clear h1 h2 hr q1 q2
 by_cases hn : n1 = n2
 rotate_left
 · have hn1 : ((n1 : Int) != (n2 : Int)) = true := by simp; omega
   have hfin : Hid (false = r) := by
    show false = r
    cases r
    · rfl
    have e := HR.out.1 rfl
    exact absurd (by rw [← Q1.out, ← Q2.out, e]) hn
   go_enter Tryz.func87, Tryz.ntmps87
   go_wp2
   go_ret
   exact saysB_mk hfin.out (Below.refl _ _)
 subst hn
 go_enter Tryz.func87, Tryz.ntmps87
 go_wp2_with fail
 go_loopw [13] (fun v13 wr => SameAt w l1 l2 v13 wr) (fun v13 _ => n1 - (intOf v13).toNat)
 case atStart => exact ⟨0, Nat.zero_le _, rfl, rfl, Below.refl _ _⟩
 obtain ⟨j, hj, rfl, htk, hbel⟩ := hrel
 have HBEL := qh hbel
 have HTK := qh htk
 rw [Q1.out] at hj
 clear hbel htk
 by_cases hlt : j < n1
 rotate_left
 · obtain rfl : j = n1 := by omega
   have hfin : Hid (true = r) := by
    show true = r
    have := HTK.out
    rw [List.take_of_length_le (by rw [Q1.out]; exact Nat.le_refl _), List.take_of_length_le (by rw [Q2.out]; exact Nat.le_refl _)] at this
    exact (HR.out.2 this).symm
   go_wp2
   go_ret
   exact saysB_mk hfin.out HBEL.out
 obtain ⟨b1, o1, r1, rfl, hb1, hi1, hk1, hv1⟩ := H1.out.at HBEL.out j hlt
 obtain ⟨b2, o2, r2, rfl, hb2, hi2, hk2, hv2⟩ := H2.out.at HBEL.out j hlt
 have HI1 := qh hi1
 have HI2 := qh hi2
 clear hi1 hi2
 by_cases he : r1 = r2
 · subst he
   obtain ⟨k1, v1⟩ := r1
   simp only at hk1 hv1 hk2 hv2
   have HLE : Hid (j + 1 ≤ l1.length) := by show _ ≤ _; rw [Q1.out]; exact hlt
   have HT2 := qh (take_same HTK.out HI1.out HI2.out)
   go_wp2_with fail
   go_quiet (fail)
   go_wp2
   go_roundw
   case rel => exact ⟨j + 1, HLE.out, by go_num, HT2.out, bel_drewN HBEL.out _⟩
   simp [intOf]; omega
 have HE : Hid (r1 ≠ r2) := he
 obtain ⟨k1, v1⟩ := r1
 obtain ⟨k2, v2⟩ := r2
 simp only at hk1 hv1 hk2 hv2
 have hfin : Hid (false = r) := by
  show false = r
  cases r
  · rfl
  have e := HR.out.1 rfl
  have a := HI1.out
  rw [e, HI2.out] at a
  exact absurd (Option.some.inj a).symm HE.out
 by_cases hk : k1 = k2
 · subst hk
   have hv : v1 ≠ v2 := fun e => he (by rw [e])
   have hvv := ba_ne hv
   clear he hv
   go_wp2_with fail
   go_quiet (fail)
   go_wp2
   go_ret
   exact saysB_mk hfin.out (bel_drewN HBEL.out _)
 have hkk := ba_ne hk
 clear he hk
 go_wp2_with fail
 go_quiet (fail)
 go_wp2
 go_ret
 exact saysB_mk hfin.out (bel_drewN HBEL.out _)
theorem refSame_any (w : World) (x y : Bat) (ad1 ad2 : Option Addr) (n1 n2 c1 c2 : Nat) (h1 : RecsAt w ad1 n1 c1 x.recs) (h2 : RecsAt w ad2 n2 c2 y.recs) (hL : n1 ≤ 140737488355328) (r : Bool) (hr : r = true ↔ x = y) :
 Calls Tryz.prog 51 #[.agg #[.int .i64 x.base, .int .i64 x.prod, .int .i64 x.epoch, .int .i64 x.seq, .bool x.txn, .int .i64 x.marker, .slice ad1 n1 c1], .agg #[.int .i64 y.base, .int .i64 y.prod, .int .i64 y.epoch, .int .i64 y.seq, .bool y.txn, .int .i64 y.marker, .slice ad2 n2 c2]] w (SaysB r w) := by
 have HF : Hid (x ≠ y → false = r) := by
  intro h
  cases r
  · rfl
  exact absurd (hr.1 rfl) h
 obtain ⟨a0, a1, a2, a3, a4, a5, l1⟩ := x
 obtain ⟨b0, b1, b2, b3, b4, b5, l2⟩ := y
 simp only at h1 h2 ⊢
 have H1 := qh h1
 have H2 := qh h2
 have HR := qh hr
 have HBB : ∀ {p q r s t u v p' q' r' s' t' u' v' : Value}, Hid (Below w.heap.size w ((w.alloc (.cells #[p, q, r, s, t, u, v] 29)).alloc (.cells #[p', q', r', s', t', u', v'] 29))) := (bal _ _).alloc (by simp) _
 clear h1 h2 hr
 by_cases h0 : a0 = b0
 rotate_left
 · have e0 : (a0 == b0) = false := by simpa using h0
   have hfin : Hid (false = r) := HF.out (fun h => h0 (by have := congrArg Bat.base h; exact this))
   clear h0
   go_enter Tryz.func51, Tryz.ntmps51
   go_wp2
   go_ret
   exact saysB_mk hfin.out HBB.out
 subst h0
 by_cases h1 : a1 = b1
 rotate_left
 · have e1 : (a1 == b1) = false := by simpa using h1
   have hfin : Hid (false = r) := HF.out (fun h => h1 (by have := congrArg Bat.prod h; exact this))
   clear h1
   go_enter Tryz.func51, Tryz.ntmps51
   go_wp2
   go_ret
   exact saysB_mk hfin.out HBB.out
 subst h1
 by_cases h2 : a2 = b2
 rotate_left
 · have e2 : (a2 == b2) = false := by simpa using h2
   have hfin : Hid (false = r) := HF.out (fun h => h2 (by have := congrArg Bat.epoch h; exact this))
   clear h2
   go_enter Tryz.func51, Tryz.ntmps51
   go_wp2
   go_ret
   exact saysB_mk hfin.out HBB.out
 subst h2
 by_cases h3 : a3 = b3
 rotate_left
 · have e3 : (a3 == b3) = false := by simpa using h3
   have hfin : Hid (false = r) := HF.out (fun h => h3 (by have := congrArg Bat.seq h; exact this))
   clear h3
   go_enter Tryz.func51, Tryz.ntmps51
   go_wp2
   go_ret
   exact saysB_mk hfin.out HBB.out
 subst h3
 by_cases h4 : a4 = b4
 rotate_left
 · have hfin : Hid (false = r) := HF.out (fun h => h4 (by have := congrArg Bat.txn h; exact this))
   cases a4
   · cases b4
     · exact absurd rfl h4
     go_enter Tryz.func51, Tryz.ntmps51
     go_wp2
     go_ret
     exact saysB_mk hfin.out HBB.out
   cases b4
   · go_enter Tryz.func51, Tryz.ntmps51
     go_wp2
     go_ret
     exact saysB_mk hfin.out HBB.out
   exact absurd rfl h4
 subst h4
 by_cases h5 : a5 = b5
 rotate_left
 · have e5 : (a5 == b5) = false := by simpa using h5
   have hfin : Hid (false = r) := HF.out (fun h => h5 (by have := congrArg Bat.marker h; exact this))
   clear h5
   cases a4
   all_goals
    go_enter Tryz.func51, Tryz.ntmps51
    go_wp2
    go_ret
    exact saysB_mk hfin.out HBB.out
 subst h5
 have hrr : Hid (r = true ↔ l1 = l2) := by
  show r = true ↔ l1 = l2
  rw [HR.out]
  exact ⟨fun h => by have := congrArg Bat.recs h; exact this, fun h => by rw [h]⟩
 cases a4
 all_goals
  go_enter Tryz.func51, Tryz.ntmps51
  go_wp2_with fail
  refine (refRecs_any _ _ _ _ _ _ _ l1 l2 (H1.out.keep (HBB.out)) (H2.out.keep (HBB.out)) hL r hrr.out).mono ?_
  rintro e w1 ⟨rfl, hb⟩
  have HB1 := qh (HBB.out.trans (hb.mono HBB.out.size))
  clear hb
  go_wp2
  go_ret
  exact saysB_mk rfl HB1.out
end Go.Proofs.YtjmfdildnojknaaGreat
