/- Rows that are literals, laid in any order; a literal of bytes that is marked. FilesNumbers, plain: the names of as many files as may be, and more. FilesNumbers: one ask more, laid in any order of its parts. -/
import Derived.Test.YtjocfkkcnkpjdaaDoorRowCut
import Derived.Test.YtjocfkkcnkpjdaaDoorKindBytes
import Derived.Test.YtjocfkkcnkpjdaaDoorGrow
import Derived.Lib.SlBytesConst
import Derived.Test.YtjocfkkcnkpjdaaDoorFlAsk
import Derived.Test.YtjocfkkcnkpjdaaDoorFlPlayLaw
/-! Rows that are literals, laid in any order; a literal of bytes that is marked. -/
namespace Go.Proofs.YtjocfkkcnkpjdaaDoor
open Go.RowKit
set_option linter.unusedVariables false

theorem rowAt_block {α : Type} {K : Kind α} {bytes : Nat} (hK : K.Ok bytes) {w : World} {g n : Nat} {cs : Array Value} {fr : Nat × Nat} {l : List α} (h : w.heap[g]? = some (.cells cs K.ty fr)) (hcs : cs = (K.all l).toArray) (hn : l.length = n) : RowAt K w (some ⟨g, 0, none⟩) n n l := by
  subst hcs
  refine ⟨hn, Nat.le_refl _, (fun e => by cases e), .inr ⟨g, 0, rfl, (Array.getElem?_eq_some_iff.1 h).1, fun i x hi j u hj => ?_⟩⟩
  have hjs : j < K.size := by have := (List.getElem?_eq_some_iff.1 hj).1; rwa [hK.len] at this
  have h1 := hK.all_at l i x hi j hjs
  rw [Nat.zero_add, cell_of_row w g _ _ _ _ h, List.getElem?_toArray, h1, hj]
/-- A literal of bytes is marked behind its end. -/
theorem mark_heap {w : World} {g : Nat} {cs : Array Value} {t : TypeId} (h : w.heap[g]? = some (.cells cs t (0, 0))) (k : Nat) : (w.freeze ⟨g, k, none⟩ 1).heap[g]? = some (.cells cs t (k, k + 1)) := by
  have hlt := lt_of_block h
  have h' : w.heap[g] = .cells cs t (0, 0) := by simpa [Array.getElem?_eq_getElem hlt] using h
  unfold World.freeze
  rw [if_neg (by decide)]
  show (w.heap.modify g _)[g]? = _
  rw [Array.getElem?_eq_getElem (by simpa using hlt), Array.getElem_modify_self, h']
  rfl
theorem mark_other {w : World} {g j : Nat} (h : j ≠ g) (k : Nat) : (w.freeze ⟨g, k, none⟩ 1).heap[j]? = w.heap[j]? := by
  unfold World.freeze
  rw [if_neg (by decide)]
  show (w.heap.modify g _)[j]? = _
  rw [Array.getElem?_modify, if_neg (fun e => h e.symm)]
theorem mark_below {w w0 : World} {g B : Nat} (h : Below B w0 w) (hg : B ≤ g) (k : Nat) : Below B w0 (w.freeze ⟨g, k, none⟩ 1) := by
  have hs : (w.freeze ⟨g, k, none⟩ 1).heap.size = w.heap.size := by
    unfold World.freeze
    rw [if_neg (by decide)]
    show (w.heap.modify g _).size = _
    simp
  refine ⟨?_, ?_, ?_, by rw [hs]; exact h.size, fun j hj => by rw [mark_other (by omega)]; exact h.block j hj⟩
  · exact h.os
  · exact h.tape
  · exact h.output
theorem conv_at {P : Program} {w : World} {t e : TypeId} {g n c : Nat} {C : Array Value} (ht : P.underlying t = some (.slice e)) (he : P.underlying e = some (.int .u8)) (h : w.heap[g]? = some (.cells C e (0, 0))) :
    (convert t t (.slice (some ⟨g, 0, none⟩) n c)).run P w = .ok (.slice (some ⟨g, 0, none⟩) n c) (w.freeze ⟨g, C.size, none⟩ 1) := by
  have hsh : w.shape? g = some (e, C.size) := by
    unfold World.shape?
    rw [h]
  simp [convert, run_underlying ht, run_underlying he, markStringish, hsh]
end Go.Proofs.YtjocfkkcnkpjdaaDoor

/-! FilesNumbers, plain: the names of as many files as may be, and more. -/
namespace Go.FsMath
open Go.RuneMath
set_option linter.unusedVariables false

def chF (c : Nat) : ByteArray := ⟨#[(97 + c).toUInt8]⟩
def nmF (i : Nat) : ByteArray := ⟨#[102, (97 + i % 26).toUInt8, (97 + i / 26).toUInt8]⟩
def fullF : Nat → Fs
  | 0 => ⟨[], -1, 0⟩
  | i + 1 => (appendF (fullF i) (nmF i) [1]).2
def okF : Nat → Fs → Nat → Bool
  | 0, s, i => true
  | n + 1, s, i => ((appendF s (nmF i) [1]).1 == (if i < 64 then 0 else 17)) && okF n (appendF s (nmF i) [1]).2 (i + 1)
theorem okF_all : okF 67 ⟨[], -1, 0⟩ 0 = true := by kernel_rfl
theorem okF_at : ∀ (n i : Nat) (s : Fs), okF n s i = true → ∀ j, j < n → s = fullF i → (appendF (fullF (i + j)) (nmF (i + j)) [1]).1 = (if i + j < 64 then 0 else 17)
  | 0, i, s, h, j, hj, e => by omega
  | n + 1, i, s, h, j, hj, e => by
    rw [okF, Bool.and_eq_true] at h
    subst e
    rcases j with _ | j
    · simpa using h.1
    · have := okF_at n (i + 1) _ h.2 j (by omega) rfl
      rw [show i + 1 + j = i + (j + 1) by omega] at this
      exact this
theorem full_ans {i : Nat} (h : i < 67) : (appendF (fullF i) (nmF i) [1]).1 = (if i < 64 then 0 else 17) := by
  have := okF_at 67 0 _ okF_all i h rfl
  rwa [Nat.zero_add] at this
theorem full_len : (fullF 67).l.length = 64 := by kernel_rfl
theorem full_faa : (appendF (fullF 67) ⟨#[102, 97, 97]⟩ [2]).1 = 0 := by kernel_rfl
theorem Sm.full (i : Nat) : Sm (fullF i) i i i := by
  induction i with
  | zero => exact ⟨Nat.zero_le _, fun f hf => (by cases hf), by show (0 : Int) ≤ 0; omega, by show (0 : Int) ≤ _; omega, by show (-1 : Int) ≤ -1; omega, by show (-1 : Int) ≤ _; omega⟩
  | succ i ih => exact (ih.append (nmF i) [1]).more (by omega) (by simp) (by omega)
theorem enc_low : ∀ c : Nat, c < 26 → Utf8.encode ((97 + c : Nat) : Int) = chF c := by decide
theorem nm_join (i : Nat) : (⟨#[102]⟩ ++ chF (i % 26)) ++ chF (i / 26) = nmF i := rfl
theorem nm_size (i : Nat) : (nmF i).size = 3 := rfl
end Go.FsMath

/-! FilesNumbers: one ask more, laid in any order of its parts. -/
namespace Go.Proofs.YtjocfkkcnkpjdaaDoor
open Go.RowKit
open Go.RuneMath
open Go.FsMath
set_option linter.unusedVariables false

def AskAd (x : Ak) (a : Addr) : Prop := x.pad = some a ∨ x.kad = some a ∨ x.gad = some a
theorem AskIn.grown {w w' : World} {x : Ak} {r : Option Nat} (h : AskIn w x) (hg : w.grownBy w' r) (hr : ∀ a, AskAd x a → some a.block ≠ r) : AskIn w' x :=
  ⟨h.p.grown hg fun a ha => hr a (.inl ha), h.pa, h.pl, h.k.grown hg fun a ha => hr a (.inr (.inl ha)), h.ki, h.g.grown hg fun a ha => hr a (.inr (.inr ha)), h.ga, h.kind0, h.a0, h.b0, h.n0⟩
/-- The asks that are laid so far. -/
structure NuAt (W wr : World) (v : Value) (ls : List Ak) (i : Nat) : Prop where
  below : Below W.heap.size W wr
  own : OwnRow askK wr W.heap.size v ls
  n : ls.length = i
  ins : ∀ x ∈ ls, AskIn wr x
  off : ∀ x ∈ ls, ∀ a, AskAd x a → a.block < wr.heap.size ∧ ∀ k, v.ownBlock = some k → a.block ≠ k
theorem NuAt.start {W w : World} (hb : Below W.heap.size W w) : NuAt W w (.slice none 0 0) [] 0 := ⟨hb, ownRow_nil askK w _, rfl, fun x hx => (by cases hx), fun x hx => (by cases hx)⟩
theorem NuAt.put {W wo w3 w4 : World} {v v' : Value} {ls : List Ak} {i : Nat} {x : Ak} (h : NuAt W wo v ls i) (hB : Below wo.heap.size wo w3) (hx : AskIn w3 x) (hax : ∀ a, AskAd x a → wo.heap.size ≤ a.block ∧ a.block < w3.heap.size) (hap : Appended askK w3 W.heap.size v (ls ++ [x]) v' w4) : NuAt W w4 v' (ls ++ [x]) (i + 1) := by
  have ho := h.own.on hB
  have hz := hB.size
  have hz4 := hap.2.1.size
  refine ⟨(h.below.trans (hB.mono h.below.size)).grown hap.2.1 (Nat.le_trans h.below.size hB.size) fun k hk => (ho.lt k hk).1, hap.1, by rw [List.length_append, h.n]; rfl, fun y hy => ?_, fun y hy a ha => ?_⟩
  · rcases List.mem_append.1 hy with h1 | h1
    · exact ((h.ins y h1).keep hB).grown hap.2.1 fun a ha e => (h.off y h1 a ha).2 _ e.symm rfl
    · rw [List.mem_singleton.1 h1]
      exact hx.grown hap.2.1 fun a ha e => by
        have h2 := (hax a ha).1
        have h3 := (h.own.lt a.block e.symm).2
        omega
  · rcases List.mem_append.1 hy with h1 | h1
    · have h2 := h.off y h1 a ha
      refine ⟨by have := h2.1; omega, fun k hk e => ?_⟩
      rcases hap.2.2.2 k hk with h3 | h3
      · exact h2.2 k h3 e
      · have := h2.1; omega
    · rw [List.mem_singleton.1 h1] at ha
      have h2 := hax a ha
      refine ⟨by omega, fun k hk e => ?_⟩
      rcases hap.2.2.2 k hk with h3 | h3
      · have := (h.own.lt k h3).2; omega
      · omega
theorem NuAt.store {W w : World} {g n cap j i : Nat} {ls : List Ak} {x : Ak} (h : NuAt W w (.slice (some ⟨g, 0, none⟩) n cap) ls i) (hn : ls.length = n) (hx : ls[j]? = some x) {z : Int} (hz : -9223372036854775808 ≤ z ∧ z ≤ 9223372036854775807) :
    NuAt W (w.setCell ⟨g, j * 7 + 3, none⟩ (.int .i64 z)) (.slice (some ⟨g, 0, none⟩) n cap) (ls.set j { x with n := z }) i := by
  have hg := grow_one w g (j * 7 + 3) (.int .i64 z)
  have hlt := h.own.lt g rfl
  have hold : ∀ y ∈ ls, ∀ a, AskAd y a → some a.block ≠ some g := fun y hy a ha e => (h.off y hy a ha).2 g rfl (by cases e; rfl)
  have hmem := List.mem_of_getElem? hx
  refine ⟨h.below.setCell hlt.1 _, own_store (K := askK) askK_ok h.own hn hx 3 _ (by decide) rfl, by rw [List.length_set]; exact h.n, fun y hy => ?_, fun y hy a ha => ?_⟩
  · rcases List.mem_or_eq_of_mem_set hy with h1 | h1
    · exact (h.ins y h1).grown hg (hold y h1)
    · subst h1
      exact ((h.ins x hmem).grown hg (hold x hmem)).other (k := x.kind) (n := z) (h.ins x hmem).kind0 hz
  · rcases List.mem_or_eq_of_mem_set hy with h1 | h1
    · have := h.off y h1 a ha
      exact ⟨by rw [size_set]; exact this.1, this.2⟩
    · subst h1
      have := h.off x hmem a ha
      exact ⟨by rw [size_set]; exact this.1, this.2⟩
/-- A block that was laid behind wo. -/
structure Blk (wo u : World) (g : Nat) (o : Obj) : Prop where
  low : wo.heap.size ≤ g
  at' : u.heap[g]? = some o
theorem Blk.lt {wo u : World} {g : Nat} {o : Obj} (h : Blk wo u g o) : g < u.heap.size := (Array.getElem?_eq_some_iff.1 h.at').1
theorem Blk.alloc {wo u : World} {g : Nat} {o : Obj} (h : Blk wo u g o) (o' : Obj) : Blk wo (u.alloc o') g o := ⟨h.low, ((alloc_below u o').block g h.lt).trans h.at'⟩
theorem Blk.new {wo u : World} (hb : Below wo.heap.size wo u) (o : Obj) : Blk wo (u.alloc o) u.heap.size o := ⟨hb.size, heap_alloc_new u o⟩
theorem Blk.mark {wo u : World} {g j : Nat} {o o' : Obj} (h : Blk wo u g o) (hj : Blk wo u j o') (hne : o ≠ o') (k : Nat) : Blk wo (u.freeze ⟨j, k, none⟩ 1) g o := ⟨h.low, (mark_other (fun e => hne (by
  have h1 := h.at'
  rw [e, hj.at'] at h1
  exact (Option.some.inj h1).symm)) k).trans h.at'⟩
theorem Blk.marked {wo u : World} {g : Nat} {cs : Array Value} {t : TypeId} (h : Blk wo u g (.cells cs t (0, 0))) (k : Nat) : Blk wo (u.freeze ⟨g, k, none⟩ 1) g (.cells cs t (k, k + 1)) := ⟨h.low, mark_heap h.at' k⟩
theorem below_new {wo u : World} (h : Below wo.heap.size wo u) (o : Obj) : Below wo.heap.size wo (u.alloc o) := h.alloc h.size o
def someB : List Nat := [115, 111, 109, 101, 32, 98, 121, 116, 101, 115]
def PO (fr : Nat × Nat) : Obj := .cells #[.int .u8 115, .int .u8 111, .int .u8 109, .int .u8 101, .int .u8 32, .int .u8 98, .int .u8 121, .int .u8 116, .int .u8 101, .int .u8 115] 5 fr
def KO (k0 : Int) (k : Nat) : Obj := .cells #[.int .i64 k0, .int .i64 (k : Int), .int .i64 2, .int .i64 99] 2
def GO (b0 k : Nat) : Obj := .cells #[.int .u8 (b0 : Int), .int .u8 (k : Int), .int .u8 3] 5
theorem ko_po {k0 : Int} {k : Nat} {fr : Nat × Nat} : KO k0 k ≠ PO fr := by
  intro h
  unfold KO PO at h
  injection h with h1
  have := congrArg Array.size h1
  simp at this
theorem go_po {b0 k : Nat} {fr : Nat × Nat} : GO b0 k ≠ PO fr := by
  intro h
  unfold GO PO at h
  injection h with h1
  have := congrArg Array.size h1
  simp at this
def AO (kd xa xb xn : Int) (gp m1 gk m2 gg m3 : Nat) : Obj := .cells #[.int .i64 kd, .int .i64 xa, .int .i64 xb, .int .i64 xn, .slice (some ⟨gp, 0, none⟩) m1 10, .slice (some ⟨gk, 0, none⟩) m2 4, .slice (some ⟨gg, 0, none⟩) m3 3] 26
/-- One of these asks. -/
def AX (kd xa xb xn k0 : Int) (b0 k gp m1 gk m2 gg m3 : Nat) : Ak := ⟨kd, xa, xb, xn, some ⟨gp, 0, none⟩, m1, 10, someB.take m1, some ⟨gk, 0, none⟩, m2, 4, [k0, (k : Int), 2, 99].take m2, some ⟨gg, 0, none⟩, m3, 3, [b0, k, 3].take m3⟩
def I64 (z : Int) : Prop := -9223372036854775808 ≤ z ∧ z ≤ 9223372036854775807
theorem ask_of {wo u : World} {gp gk gg m1 m2 m3 b0 k : Nat} {fp : Nat × Nat} {k0 kd xa xb xn : Int} (hP : Blk wo u gp (PO fp)) (hK : Blk wo u gk (KO k0 k)) (hG : Blk wo u gg (GO b0 k))
    (h1 : m1 ≤ 10) (h2 : m2 ≤ 4) (h3 : m3 ≤ 3) (hb : b0 < 256) (hk : k < 256) (hk0 : I64 k0) (r1 : I64 kd) (r2 : I64 xa) (r3 : I64 xb) (r4 : I64 xn) :
    AskIn u (AX kd xa xb xn k0 b0 k gp m1 gk m2 gg m3) := by
  have hp : RowAt byteK u (some ⟨gp, 0, none⟩) 10 10 someB := rowAt_block byteK_ok hP.at' rfl rfl
  have hkk : RowAt keepK u (some ⟨gk, 0, none⟩) 4 4 [k0, (k : Int), 2, 99] := rowAt_block keepK_ok hK.at' rfl rfl
  have hg : RowAt byteK u (some ⟨gg, 0, none⟩) 3 3 [b0, k, 3] := rowAt_block byteK_ok hG.at' rfl rfl
  unfold I64 at *
  refine ⟨hp.take m1 h1, fun x hx => ?_, by show m1 ≤ _; omega, hkk.take m2 h2, fun x hx => ?_, hg.take m3 h3, fun x hx => ?_, r1, r2, r3, r4⟩
  · exact (all_small (bs := someB) (by decide)) x (List.mem_of_mem_take hx)
  · have h := List.mem_of_mem_take hx
    simp only [List.mem_cons, List.not_mem_nil, or_false] at h
    rcases h with rfl | rfl | rfl | rfl <;> omega
  · have h := List.mem_of_mem_take hx
    simp only [List.mem_cons, List.not_mem_nil, or_false] at h
    rcases h with rfl | rfl | rfl <;> omega

/-! The region, and acts that are alike but for what it writes. -/
def regOf (n : Nat) : Code → Option (Array Oper)
  | .region id ops _ => if id == n then some ops else none
  | .seq a b => (match regOf n a with | some o => some o | none => regOf n b)
  | .cond _ a b => (match regOf n a with | some o => some o | none => regOf n b)
  | .block _ b => regOf n b
  | .loop b => regOf n b
  | .scope b => regOf n b
  | .rangeFunc _ _ _ b => regOf n b
  | _ => none
noncomputable def ops8 : Array Oper := (Tryd.f3.body.bind (regOf 8)).getD #[]
def D8 : List Nat := [38, 39, 43, 47, 51, 57, 61, 62, 63, 64, 2]
structure Sim (a0 a : Act) : Prop where
  defers : a.defers = a0.defers
  size : a.tmps.size = a0.tmps.size
  same : ∀ t, t ∉ D8 → a.tmps.getD t undef = a0.tmps.getD t undef
theorem put_same {a : Act} {d : Nat} (h : d < a.tmps.size) (v : Value) : (a.put (some d) v).eval (.tmp d) = v := by
  show (a.tmps.setIfInBounds d v).getD d undef = v
  simp [Array.getD, h]
theorem put_ne {a : Act} {d t : Nat} (h : d ≠ t) (v : Value) : (a.put (some d) v).eval (.tmp t) = a.eval (.tmp t) := by
  show (a.tmps.setIfInBounds d v).getD t undef = a.tmps.getD t undef
  simp only [Array.getD_eq_getD_getElem?]
  rw [Array.getElem?_setIfInBounds_ne h]
theorem Sim.put {a0 a : Act} (h : Sim a0 a) {d : Nat} (hd : d ∈ D8) (v : Value) : Sim a0 (a.put (some d) v) :=
  ⟨h.defers, by show (a.tmps.setIfInBounds d v).size = _; rw [Array.size_setIfInBounds]; exact h.size, fun t ht => (put_ne (a := a) (fun e => ht (by rw [← e]; exact hd)) v).trans (h.same t ht)⟩
theorem Sim.lt {a0 a : Act} (h : Sim a0 a) {d : Nat} (hd : d < a0.tmps.size) : d < a.tmps.size := by rw [h.size]; exact hd
/-- What is known where the region begins, and what is wanted of its end. -/
structure Lit8 (W wo : World) (vv : Value) (ls : List Ak) (i k m1 m2 m3 b0 : Nat) (k0 kd xa xb xn : Int) (Q : Exit → Act → World → Prop) (a0 : Act) : Prop where
  size : 135 ≤ a0.tmps.size
  e15 : a0.eval (.tmp 15) = vv
  e25 : a0.eval (.tmp 25) = .int .i64 kd
  e29 : a0.eval (.tmp 29) = .int .i64 xa
  e32 : a0.eval (.tmp 32) = .int .i64 xb
  e37 : a0.eval (.tmp 37) = .int .i64 xn
  e42 : a0.eval (.tmp 42) = .int .i64 (m1 : Int)
  e45 : a0.eval (.tmp 45) = .int .i64 k0
  e46 : a0.eval (.tmp 46) = .int .i64 (k : Int)
  e50 : a0.eval (.tmp 50) = .int .i64 (m2 : Int)
  e54 : a0.eval (.tmp 54) = .int .u8 (b0 : Int)
  e56 : a0.eval (.tmp 56) = .int .u8 (k : Int)
  e60 : a0.eval (.tmp 60) = .int .i64 (m3 : Int)
  i100 : i < 100
  l1 : m1 ≤ 10
  l2 : m2 ≤ 4
  l3 : m3 ≤ 3
  lb : b0 < 256
  lk : k < 256
  r0 : I64 k0
  r1 : I64 kd
  r2 : I64 xa
  r3 : I64 xb
  r4 : I64 xn
  nu : NuAt W wo vv ls i
  q : ∀ c a b w, Q (.panic c) a w → Q (.panic c) b w
  fin : ∀ a w x, Sim a0 a → NuAt W w (a.eval (.tmp 2)) (ls ++ [x]) (i + 1) → Q .normal a w
theorem Sim.ev {a0 a : Act} (h : Sim a0 a) {t : Nat} (ht : t ∉ D8) {v : Value} (h0 : a0.eval (.tmp t) = v) : a.eval (.tmp t) = v := (h.same t ht).trans h0
/-- One that comes up, and what it does. -/
def OneUp (P : Program) (Q : Exit → Act → World → Prop) (ops : Array Oper) (fuel : Nat) (L : Array Bool) (a : Act) (w : World) (i : Nat) : Prop :=
  ∃ o v w' L', ops[i]? = some o ∧ o.guard = none ∧ (execOp a.eval o).run P w = .ok (.value v) w' ∧ L.setIfInBounds i true = L' ∧ wpAnyH P .any ops Q (fun _ => True) fuel L' (a.put o.dst v) w'
theorem wanted_none {o : Oper} (h : o.guard = none) (f : Nat → Option Bool) : Region.wanted o f = true := by unfold Region.wanted; rw [h]
theorem anyH_step {P : Program} {Q : Exit → Act → World → Prop} {ops : Array Oper} {fuel : Nat} {L : Array Bool} {a : Act} {w : World} {rs : List Nat} (hr : Region.ready .any ops L = rs) (hne : rs ≠ []) (h : ∀ i ∈ rs, OneUp P Q ops fuel L a w i) : wpAnyH P .any ops Q (fun _ => True) (fuel + 1) L a w := by
  refine ⟨fun e => absurd (hr.symm.trans e) hne, fun i hi => ?_⟩
  rw [hr] at hi
  obtain ⟨o, v, w', L', ho, hg, hrun, hL, hn⟩ := h i hi
  unfold wpOp
  simp only [ho, wanted_none hg, if_true]
  refine .inl ?_
  unfold Oper.wp
  rw [hrun]
  subst hL
  exact ⟨trivial, hn⟩
theorem anyH_take {P : Program} {Q : Exit → Act → World → Prop} {ops : Array Oper} {fuel : Nat} {L L' : Array Bool} {a : Act} {w : World} {i : Nat} {o : Oper} {v : Value} (ho : ops[i]? = some o) (hg : o.guard = none) (hs : Region.noSelect ops = true) (hf : Region.free .any ops L i = true) (hr : (Region.ready .any ops L).contains i = true)
    (hQ : ∀ c a b w, Q (.panic c) a w → Q (.panic c) b w) (hrun : ∀ w, (execOp a.eval o).run P w = .ok (.value v) w) (hL : L.setIfInBounds i true = L') (h : wpAnyH P .any ops Q (fun _ => True) fuel L' (a.put o.dst v) w) : wpAnyH P .any ops Q (fun _ => True) (fuel + 1) L a w :=
  wpAnyH_take ho hs hf hr (fun c a w h => hQ c _ _ w h) (.inl ⟨wanted_none hg _, fun w _ => hrun w⟩) trivial (hL ▸ h)
def Ls (l : List Nat) : Array Bool := ((List.range 51).map fun i => l.contains i).toArray
theorem nosel8 : Region.noSelect ops8 = true := by kernel_rfl
def o23 : Oper := ⟨some 38, .buildSlice 23 10 #[(0, .const (.int .u8 115)), (1, .const (.int .u8 111)), (2, .const (.int .u8 109)), (3, .const (.int .u8 101)), (4, .const (.int .u8 32)), (5, .const (.int .u8 98)), (6, .const (.int .u8 121)), (7, .const (.int .u8 116)), (8, .const (.int .u8 101)), (9, .const (.int .u8 115))], 23, "law.go:106", #[], none⟩
theorem at23 : ops8[23]? = some o23 := by kernel_rfl
def o24 : Oper := ⟨some 39, .convert 23 23 (.tmp 38), 23, "law.go:106", #[{ on := 23, ground := .data }], none⟩
theorem at24 : ops8[24]? = some o24 := by kernel_rfl
def o28 : Oper := ⟨some 43, .slice 23 (.tmp 39) none (some (.tmp 42)) none, 23, "law.go:106", #[{ on := 24, ground := .data }, { on := 27, ground := .data }], none⟩
theorem at28 : ops8[28]? = some o28 := by kernel_rfl
def o32 : Oper := ⟨some 47, .buildSlice 24 4 #[(0, .tmp 45), (1, .tmp 46), (2, .const (.int .i64 2)), (3, .const (.int .i64 99))], 24, "law.go:106", #[{ on := 30, ground := .data }, { on := 31, ground := .data }], none⟩
theorem at32 : ops8[32]? = some o32 := by kernel_rfl
def o36 : Oper := ⟨some 51, .slice 24 (.tmp 47) none (some (.tmp 50)) none, 24, "law.go:106", #[{ on := 32, ground := .data }, { on := 35, ground := .data }], none⟩
theorem at36 : ops8[36]? = some o36 := by kernel_rfl
def o42 : Oper := ⟨some 57, .buildSlice 23 3 #[(0, .tmp 54), (1, .tmp 56), (2, .const (.int .u8 3))], 23, "law.go:106", #[{ on := 39, ground := .data }, { on := 41, ground := .data }], none⟩
theorem at42 : ops8[42]? = some o42 := by kernel_rfl
def o46 : Oper := ⟨some 61, .slice 23 (.tmp 57) none (some (.tmp 60)) none, 23, "law.go:106", #[{ on := 42, ground := .data }, { on := 45, ground := .data }], none⟩
theorem at46 : ops8[46]? = some o46 := by kernel_rfl
def o47 : Oper := ⟨some 62, .build 26 #[(0, .tmp 25), (1, .tmp 29), (2, .tmp 32), (3, .tmp 37), (4, .tmp 43), (5, .tmp 51), (6, .tmp 61)], 26, "law.go:106", #[{ on := 10, ground := .data }, { on := 14, ground := .data }, { on := 17, ground := .data }, { on := 22, ground := .data }, { on := 28, ground := .data }, { on := 36, ground := .data }, { on := 46, ground := .data }], none⟩
theorem at47 : ops8[47]? = some o47 := by kernel_rfl
def o48 : Oper := ⟨some 63, .buildSlice 22 1 #[(0, .tmp 62)], 22, "law.go:106", #[{ on := 47, ground := .data }], none⟩
theorem at48 : ops8[48]? = some o48 := by kernel_rfl
def o49 : Oper := ⟨some 64, .call { callee := .builtin .append, args := #[.tmp 15, .tmp 63], argTypes := #[22, 22] }, 22, "law.go:106", #[{ on := 0, ground := .data }, { on := 48, ground := .data }], none⟩
theorem at49 : ops8[49]? = some o49 := by kernel_rfl
noncomputable def o50 : Oper := (ops8[50]?).getD default
theorem at50 : ops8[50]? = some o50 := by kernel_rfl
theorem op50 : o50.op = .assign (.tmp 64) := by kernel_rfl
theorem dst50 : o50.dst = some 2 := by kernel_rfl

section
variable {a : Act} {w : World}
theorem ev_get {t : Nat} {v : Value} (h : a.eval (.tmp t) = v) : a.tmps[t]?.getD undef = v := by
  rw [← h]
  exact (Array.getD_eq_getD_getElem? (xs := a.tmps)).symm
theorem run23 : (execOp a.eval o23).run Tryd.prog w = .ok (.value (.slice (some ⟨w.heap.size, 0, none⟩) 10 10)) (w.alloc (PO (0, 0))) := by
  unfold o23 PO
  go_simp
theorem run24 {wo : World} {g : Nat} (h : a.eval (.tmp 38) = .slice (some ⟨g, 0, none⟩) 10 10) (hb : Blk wo w g (PO (0, 0))) : (execOp a.eval o24).run Tryd.prog w = .ok (.value (.slice (some ⟨g, 0, none⟩) 10 10)) (w.freeze ⟨g, 10, none⟩ 1) := by
  have hcv : (convert 23 23 (.slice (some ⟨g, 0, none⟩) 10 10)).run Tryd.prog w = .ok (.slice (some ⟨g, 0, none⟩) 10 10) (w.freeze ⟨g, 10, none⟩ 1) := conv_at Tryd.underlying23 Tryd.underlying5 hb.at'
  unfold o24
  simp only [execOp, h, Sem.run_bind, hcv, Result.andThen_ok, Sem.run_pure]
theorem run28 {g m : Nat} (hm : m ≤ 10) (h : a.eval (.tmp 39) = .slice (some ⟨g, 0, none⟩) 10 10) (h2 : a.eval (.tmp 42) = .int .i64 (m : Int)) : (execOp a.eval o28).run Tryd.prog w = .ok (.value (.slice (some ⟨g, 0, none⟩) m 10)) w := by
  have s : (Instr.slice 23 (.slice (some ⟨g, 0, none⟩) 10 10) none (some (.int .i64 (m : Int))) none).run Tryd.prog w = .ok (.slice (some ⟨g, 0, none⟩) m 10) w := row_upto byteK_ok (some ⟨g, 0, none⟩) 10 10 m hm w
  have h := ev_get h
  have h2 := ev_get h2
  unfold o28
  go_simp
theorem run32 {k0 : Int} {k : Nat} (h : a.eval (.tmp 45) = .int .i64 k0) (h2 : a.eval (.tmp 46) = .int .i64 (k : Int)) : (execOp a.eval o32).run Tryd.prog w = .ok (.value (.slice (some ⟨w.heap.size, 0, none⟩) 4 4)) (w.alloc (KO k0 k)) := by
  have h := ev_get h
  have h2 := ev_get h2
  unfold o32 KO
  go_simp
theorem run36 {g m : Nat} (hm : m ≤ 4) (h : a.eval (.tmp 47) = .slice (some ⟨g, 0, none⟩) 4 4) (h2 : a.eval (.tmp 50) = .int .i64 (m : Int)) : (execOp a.eval o36).run Tryd.prog w = .ok (.value (.slice (some ⟨g, 0, none⟩) m 4)) w := by
  have s : (Instr.slice 24 (.slice (some ⟨g, 0, none⟩) 4 4) none (some (.int .i64 (m : Int))) none).run Tryd.prog w = .ok (.slice (some ⟨g, 0, none⟩) m 4) w := row_upto keepK_ok (some ⟨g, 0, none⟩) 4 4 m hm w
  have h := ev_get h
  have h2 := ev_get h2
  unfold o36
  go_simp
theorem run42 {b0 k : Nat} (h : a.eval (.tmp 54) = .int .u8 (b0 : Int)) (h2 : a.eval (.tmp 56) = .int .u8 (k : Int)) : (execOp a.eval o42).run Tryd.prog w = .ok (.value (.slice (some ⟨w.heap.size, 0, none⟩) 3 3)) (w.alloc (GO b0 k)) := by
  have h := ev_get h
  have h2 := ev_get h2
  unfold o42 GO
  go_simp
theorem run46 {g m : Nat} (hm : m ≤ 3) (h : a.eval (.tmp 57) = .slice (some ⟨g, 0, none⟩) 3 3) (h2 : a.eval (.tmp 60) = .int .i64 (m : Int)) : (execOp a.eval o46).run Tryd.prog w = .ok (.value (.slice (some ⟨g, 0, none⟩) m 3)) w := by
  have s : (Instr.slice 23 (.slice (some ⟨g, 0, none⟩) 3 3) none (some (.int .i64 (m : Int))) none).run Tryd.prog w = .ok (.slice (some ⟨g, 0, none⟩) m 3) w := row_upto byteK_ok (some ⟨g, 0, none⟩) 3 3 m hm w
  have h := ev_get h
  have h2 := ev_get h2
  unfold o46
  go_simp
def AV (kd xa xb xn : Int) (gp m1 gk m2 gg m3 : Nat) : Value := .agg #[.int .i64 kd, .int .i64 xa, .int .i64 xb, .int .i64 xn, .slice (some ⟨gp, 0, none⟩) m1 10, .slice (some ⟨gk, 0, none⟩) m2 4, .slice (some ⟨gg, 0, none⟩) m3 3]
theorem run47 {kd xa xb xn : Int} {gp m1 gk m2 gg m3 : Nat} (h1 : a.eval (.tmp 25) = .int .i64 kd) (h2 : a.eval (.tmp 29) = .int .i64 xa) (h3 : a.eval (.tmp 32) = .int .i64 xb) (h4 : a.eval (.tmp 37) = .int .i64 xn) (h5 : a.eval (.tmp 43) = .slice (some ⟨gp, 0, none⟩) m1 10) (h6 : a.eval (.tmp 51) = .slice (some ⟨gk, 0, none⟩) m2 4) (h7 : a.eval (.tmp 61) = .slice (some ⟨gg, 0, none⟩) m3 3) :
    (execOp a.eval o47).run Tryd.prog w = .ok (.value (AV kd xa xb xn gp m1 gk m2 gg m3)) w := by
  have h1 := ev_get h1
  have h2 := ev_get h2
  have h3 := ev_get h3
  have h4 := ev_get h4
  have h5 := ev_get h5
  have h6 := ev_get h6
  have h7 := ev_get h7
  unfold o47 AV
  go_simp
theorem run48 {kd xa xb xn : Int} {gp m1 gk m2 gg m3 : Nat} (h : a.eval (.tmp 62) = AV kd xa xb xn gp m1 gk m2 gg m3) : (execOp a.eval o48).run Tryd.prog w = .ok (.value (.slice (some ⟨w.heap.size, 0, none⟩) 1 1)) (w.alloc (AO kd xa xb xn gp m1 gk m2 gg m3)) := by
  unfold AV at h
  have h := ev_get h
  unfold o48 AO
  go_simp
theorem run49 {base g : Nat} {v : Value} {l : List Ak} {x : Ak} (h : a.eval (.tmp 15) = v) (h2 : a.eval (.tmp 63) = .slice (some ⟨g, 0, none⟩) 1 1) (hown : OwnRow askK w base v l) (hbase : base ≤ w.heap.size) (hr : RowAt askK w (some ⟨g, 0, none⟩) 1 1 [x]) (hn : l.length < 100) :
    ∃ v' w', (execOp a.eval o49).run Tryd.prog w = .ok (.value v') w' ∧ Appended askK w base v (l ++ [x]) v' w' := by
  obtain ⟨v', w', hrun, h3⟩ := run_row_append askK_ok w base v l [x] 22 hown _ 1 1 hr (by omega) (by omega) hbase
  have hrun' : (Builtin.append_ #[22, 22] 22 #[v, .slice (some ⟨g, 0, none⟩) 1 1]).run Tryd.prog w = .ok v' w' := hrun
  refine ⟨v', w', ?_, h3⟩
  unfold execOp o49
  simp only [resolve, invoke, builtin, Sem.run_bind, Sem.run_pure, Result.andThen_ok, List.map_toArray, List.map_cons, List.map_nil, h, h2, hrun']
theorem run50 : (execOp a.eval o50).run Tryd.prog w = .ok (.value (a.eval (.tmp 64))) w := by
  unfold execOp
  rw [op50]
  rfl
end
theorem one_nil {p : Nat → Prop} : ∀ i ∈ ([] : List Nat), p i := fun i h => by cases h
theorem one_cons {p : Nat → Prop} {j : Nat} {l : List Nat} (h : p j) (hl : ∀ i ∈ l, p i) : ∀ i ∈ j :: l, p i := fun i hi => by
  rcases List.mem_cons.1 hi with rfl | h1
  · exact h
  · exact hl i h1
theorem st211 {W wo : World} {vv : Value} {ls : List Ak} {i k m1 m2 m3 b0 : Nat} {k0 kd xa xb xn : Int} {Q : Exit → Act → World → Prop} {a0 : Act} (c : Lit8 W wo vv ls i k m1 m2 m3 b0 k0 kd xa xb xn Q a0) {a : Act} {w : World} (hs : Sim a0 a) (hb : Below wo.heap.size wo w) (hp : ∃ g, a.eval (.tmp 43) = .slice (some ⟨g, 0, none⟩) m1 10 ∧ Blk wo w g (PO (10, 11))) (hk : ∃ g, a.eval (.tmp 51) = .slice (some ⟨g, 0, none⟩) m2 4 ∧ Blk wo w g (KO k0 k)) (hg : ∃ g, a.eval (.tmp 61) = .slice (some ⟨g, 0, none⟩) m3 3 ∧ Blk wo w g (GO b0 k)) : wpAnyH Tryd.prog .any ops8 Q (fun _ => True) 4 (Ls [0, 1, 2, 3, 4, 5, 6, 7, 8, 9, 10, 11, 12, 13, 14, 15, 16, 17, 18, 19, 20, 21, 22, 23, 24, 25, 26, 27, 28, 29, 30, 31, 32, 33, 34, 35, 36, 37, 38, 39, 40, 41, 42, 43, 44, 45, 46]) a w := by
  obtain ⟨gp, ep, bp⟩ := hp
  obtain ⟨gk, ek, bk⟩ := hk
  obtain ⟨gg, eg, bg⟩ := hg
  refine anyH_take (L' := (Ls [0, 1, 2, 3, 4, 5, 6, 7, 8, 9, 10, 11, 12, 13, 14, 15, 16, 17, 18, 19, 20, 21, 22, 23, 24, 25, 26, 27, 28, 29, 30, 31, 32, 33, 34, 35, 36, 37, 38, 39, 40, 41, 42, 43, 44, 45, 46, 47])) at47 rfl nosel8 (by kernel_rfl) (by kernel_rfl) c.q (fun w => run47 (hs.ev (by decide) c.e25) (hs.ev (by decide) c.e29) (hs.ev (by decide) c.e32) (hs.ev (by decide) c.e37) ep ek eg) (by kernel_rfl) ?_
  have hs1 := hs.put (d := 62) (by decide) (AV kd xa xb xn gp m1 gk m2 gg m3)
  have e62 := put_same (a := a) (d := 62) (hs.lt (Nat.lt_of_lt_of_le (by decide : 62 < 135) c.size)) (AV kd xa xb xn gp m1 gk m2 gg m3)
  refine anyH_step (rs := [48]) (by kernel_rfl) (by simp) (one_cons ⟨o48, _, _, (Ls [0, 1, 2, 3, 4, 5, 6, 7, 8, 9, 10, 11, 12, 13, 14, 15, 16, 17, 18, 19, 20, 21, 22, 23, 24, 25, 26, 27, 28, 29, 30, 31, 32, 33, 34, 35, 36, 37, 38, 39, 40, 41, 42, 43, 44, 45, 46, 47, 48]), at48, rfl, run48 e62, (by kernel_rfl), ?_⟩ one_nil)
  obtain ⟨a1, ha1⟩ : ∃ z, z = a.put o47.dst (AV kd xa xb xn gp m1 gk m2 gg m3) := ⟨_, rfl⟩
  have hs1 : Sim a0 a1 := by rw [ha1]; exact hs1
  rw [← ha1]
  clear ha1 e62
  obtain ⟨u, hu⟩ : ∃ z, z = w.alloc (AO kd xa xb xn gp m1 gk m2 gg m3) := ⟨_, rfl⟩
  obtain ⟨gx, hgx⟩ : ∃ z, z = w.heap.size := ⟨_, rfl⟩
  have hbu : Below w.heap.size w u := by rw [hu]; exact alloc_below _ _
  have hbw : Below wo.heap.size wo u := hb.trans (hbu.mono hb.size)
  have hak := ask_of bp bk bg c.l1 c.l2 c.l3 c.lb c.lk c.r0 c.r1 c.r2 c.r3 c.r4
  obtain ⟨x, hx⟩ : ∃ x, x = AX kd xa xb xn k0 b0 k gp m1 gk m2 gg m3 := ⟨_, rfl⟩
  have had : ∀ a, AskAd x a → wo.heap.size ≤ a.block ∧ a.block < u.heap.size := fun a ha => by
    have hz := hbu.size
    rw [hx] at ha
    rcases ha with h | h | h <;> cases h
    · exact ⟨bp.low, Nat.lt_of_lt_of_le bp.lt hz⟩
    · exact ⟨bk.low, Nat.lt_of_lt_of_le bk.lt hz⟩
    · exact ⟨bg.low, Nat.lt_of_lt_of_le bg.lt hz⟩
  have hrx : RowAt askK u (some ⟨gx, 0, none⟩) 1 1 [x] := by
    rw [hu, hgx, hx]
    exact rowAt_lit askK_ok w [AX kd xa xb xn k0 b0 k gp m1 gk m2 gg m3] (by simp) _ rfl 1 rfl
  rw [← hx] at hak
  rw [← hu, ← hgx]
  have hs2 := hs1.put (d := 63) (by decide) (.slice (some ⟨gx, 0, none⟩) 1 1)
  have e63 := put_same (a := a1) (d := 63) (hs1.lt (Nat.lt_of_lt_of_le (by decide : 63 < 135) c.size)) (.slice (some ⟨gx, 0, none⟩) 1 1)
  obtain ⟨v', w', hrun, hap⟩ := run49 (a := a1.put (some 63) (.slice (some ⟨gx, 0, none⟩) 1 1)) (hs2.ev (by decide) c.e15) e63 (c.nu.own.on hbw) (Nat.le_trans c.nu.below.size hbw.size) hrx (by rw [c.nu.n]; exact c.i100)
  have hnu := c.nu.put hbw (hak.keep hbu) had hap
  refine anyH_step (rs := [49]) (by kernel_rfl) (by simp) (one_cons ⟨o49, v', w', (Ls [0, 1, 2, 3, 4, 5, 6, 7, 8, 9, 10, 11, 12, 13, 14, 15, 16, 17, 18, 19, 20, 21, 22, 23, 24, 25, 26, 27, 28, 29, 30, 31, 32, 33, 34, 35, 36, 37, 38, 39, 40, 41, 42, 43, 44, 45, 46, 47, 48, 49]), at49, rfl, hrun, (by kernel_rfl), ?_⟩ one_nil)
  obtain ⟨a2, ha2⟩ : ∃ z, z = a1.put o48.dst (.slice (some ⟨gx, 0, none⟩) 1 1) := ⟨_, rfl⟩
  have hs2 : Sim a0 a2 := by rw [ha2]; exact hs2
  rw [← ha2]
  have hs3 := hs2.put (d := 64) (by decide) v'
  have e64 := put_same (a := a2) (d := 64) (hs2.lt (Nat.lt_of_lt_of_le (by decide : 64 < 135) c.size)) v'
  obtain ⟨a3, ha3⟩ : ∃ z, z = a2.put o49.dst v' := ⟨_, rfl⟩
  have hs3 : Sim a0 a3 := by rw [ha3]; exact hs3
  have e64 : a3.eval (.tmp 64) = v' := by rw [ha3]; exact e64
  rw [← ha3]
  refine anyH_step (rs := [50]) (by kernel_rfl) (by simp) (one_cons ⟨o50, v', w', (Ls [0, 1, 2, 3, 4, 5, 6, 7, 8, 9, 10, 11, 12, 13, 14, 15, 16, 17, 18, 19, 20, 21, 22, 23, 24, 25, 26, 27, 28, 29, 30, 31, 32, 33, 34, 35, 36, 37, 38, 39, 40, 41, 42, 43, 44, 45, 46, 47, 48, 49, 50]), at50, (by kernel_rfl), (by rw [run50, e64]), (by kernel_rfl), ?_⟩ one_nil)
  rw [dst50]
  refine wpAnyH_done (by kernel_rfl) (c.fin _ _ x (hs3.put (by decide) v') ?_) _
  rw [put_same (hs3.lt (Nat.lt_of_lt_of_le (by decide : 2 < 135) c.size))]
  exact hnu
theorem st210 {W wo : World} {vv : Value} {ls : List Ak} {i k m1 m2 m3 b0 : Nat} {k0 kd xa xb xn : Int} {Q : Exit → Act → World → Prop} {a0 : Act} (c : Lit8 W wo vv ls i k m1 m2 m3 b0 k0 kd xa xb xn Q a0) {a : Act} {w : World} (hs : Sim a0 a) (hb : Below wo.heap.size wo w) (hp : ∃ g, a.eval (.tmp 43) = .slice (some ⟨g, 0, none⟩) m1 10 ∧ Blk wo w g (PO (10, 11))) (hk : ∃ g, a.eval (.tmp 51) = .slice (some ⟨g, 0, none⟩) m2 4 ∧ Blk wo w g (KO k0 k))  : wpAnyH Tryd.prog .any ops8 Q (fun _ => True) 6 (Ls [0, 1, 2, 3, 4, 5, 6, 7, 8, 9, 10, 11, 12, 13, 14, 15, 16, 17, 18, 19, 20, 21, 22, 23, 24, 25, 26, 27, 28, 29, 30, 31, 32, 33, 34, 35, 36, 37, 38, 39, 40, 41, 43, 44, 45]) a w := by
  obtain ⟨gp, ep, bp⟩ := hp
  obtain ⟨gk, ek, bk⟩ := hk
  exact anyH_step (rs := [42]) (by kernel_rfl) (by simp) (one_cons ⟨o42, .slice (some ⟨w.heap.size, 0, none⟩) 3 3, w.alloc (GO b0 k), (Ls [0, 1, 2, 3, 4, 5, 6, 7, 8, 9, 10, 11, 12, 13, 14, 15, 16, 17, 18, 19, 20, 21, 22, 23, 24, 25, 26, 27, 28, 29, 30, 31, 32, 33, 34, 35, 36, 37, 38, 39, 40, 41, 42, 43, 44, 45]), at42, rfl, run42 (hs.ev (by decide) c.e54) (hs.ev (by decide) c.e56), (by kernel_rfl), by
    have hs1 := hs.put (d := 57) (by decide) (.slice (some ⟨w.heap.size, 0, none⟩) 3 3)
    have hb1 : Below wo.heap.size wo (w.alloc (GO b0 k)) := below_new hb _
    refine anyH_take (v := .slice (some ⟨w.heap.size, 0, none⟩) m3 3) (L' := (Ls [0, 1, 2, 3, 4, 5, 6, 7, 8, 9, 10, 11, 12, 13, 14, 15, 16, 17, 18, 19, 20, 21, 22, 23, 24, 25, 26, 27, 28, 29, 30, 31, 32, 33, 34, 35, 36, 37, 38, 39, 40, 41, 42, 43, 44, 45, 46])) at46 rfl nosel8 (by kernel_rfl) (by kernel_rfl) c.q (fun w2 => run46 c.l3 (put_same (hs.lt (Nat.lt_of_lt_of_le (by decide : 57 < 135) c.size)) _) (hs1.ev (by decide) c.e60)) (by kernel_rfl) ?_
    have hs2 := hs1.put (d := 61) (by decide) (.slice (some ⟨w.heap.size, 0, none⟩) m3 3)
    exact st211 c hs2 hb1 ⟨_, (put_ne (by decide) _).trans ((put_ne (by decide) _).trans ep), (bp.alloc _)⟩ ⟨_, (put_ne (by decide) _).trans ((put_ne (by decide) _).trans ek), (bk.alloc _)⟩ ⟨_, put_same (hs1.lt (Nat.lt_of_lt_of_le (by decide : 61 < 135) c.size)) _, Blk.new hb _⟩⟩ one_nil)
theorem st201 {W wo : World} {vv : Value} {ls : List Ak} {i k m1 m2 m3 b0 : Nat} {k0 kd xa xb xn : Int} {Q : Exit → Act → World → Prop} {a0 : Act} (c : Lit8 W wo vv ls i k m1 m2 m3 b0 k0 kd xa xb xn Q a0) {a : Act} {w : World} (hs : Sim a0 a) (hb : Below wo.heap.size wo w) (hp : ∃ g, a.eval (.tmp 43) = .slice (some ⟨g, 0, none⟩) m1 10 ∧ Blk wo w g (PO (10, 11)))  (hg : ∃ g, a.eval (.tmp 61) = .slice (some ⟨g, 0, none⟩) m3 3 ∧ Blk wo w g (GO b0 k)) : wpAnyH Tryd.prog .any ops8 Q (fun _ => True) 6 (Ls [0, 1, 2, 3, 4, 5, 6, 7, 8, 9, 10, 11, 12, 13, 14, 15, 16, 17, 18, 19, 20, 21, 22, 23, 24, 25, 26, 27, 28, 29, 30, 31, 33, 34, 35, 37, 38, 39, 40, 41, 42, 43, 44, 45, 46]) a w := by
  obtain ⟨gp, ep, bp⟩ := hp
  obtain ⟨gg, eg, bg⟩ := hg
  exact anyH_step (rs := [32]) (by kernel_rfl) (by simp) (one_cons ⟨o32, .slice (some ⟨w.heap.size, 0, none⟩) 4 4, w.alloc (KO k0 k), (Ls [0, 1, 2, 3, 4, 5, 6, 7, 8, 9, 10, 11, 12, 13, 14, 15, 16, 17, 18, 19, 20, 21, 22, 23, 24, 25, 26, 27, 28, 29, 30, 31, 32, 33, 34, 35, 37, 38, 39, 40, 41, 42, 43, 44, 45, 46]), at32, rfl, run32 (hs.ev (by decide) c.e45) (hs.ev (by decide) c.e46), (by kernel_rfl), by
    have hs1 := hs.put (d := 47) (by decide) (.slice (some ⟨w.heap.size, 0, none⟩) 4 4)
    have hb1 : Below wo.heap.size wo (w.alloc (KO k0 k)) := below_new hb _
    refine anyH_take (v := .slice (some ⟨w.heap.size, 0, none⟩) m2 4) (L' := (Ls [0, 1, 2, 3, 4, 5, 6, 7, 8, 9, 10, 11, 12, 13, 14, 15, 16, 17, 18, 19, 20, 21, 22, 23, 24, 25, 26, 27, 28, 29, 30, 31, 32, 33, 34, 35, 36, 37, 38, 39, 40, 41, 42, 43, 44, 45, 46])) at36 rfl nosel8 (by kernel_rfl) (by kernel_rfl) c.q (fun w2 => run36 c.l2 (put_same (hs.lt (Nat.lt_of_lt_of_le (by decide : 47 < 135) c.size)) _) (hs1.ev (by decide) c.e50)) (by kernel_rfl) ?_
    have hs2 := hs1.put (d := 51) (by decide) (.slice (some ⟨w.heap.size, 0, none⟩) m2 4)
    exact st211 c hs2 hb1 ⟨_, (put_ne (by decide) _).trans ((put_ne (by decide) _).trans ep), (bp.alloc _)⟩ ⟨_, put_same (hs1.lt (Nat.lt_of_lt_of_le (by decide : 51 < 135) c.size)) _, Blk.new hb _⟩ ⟨_, (put_ne (by decide) _).trans ((put_ne (by decide) _).trans eg), (bg.alloc _)⟩⟩ one_nil)
theorem st111 {W wo : World} {vv : Value} {ls : List Ak} {i k m1 m2 m3 b0 : Nat} {k0 kd xa xb xn : Int} {Q : Exit → Act → World → Prop} {a0 : Act} (c : Lit8 W wo vv ls i k m1 m2 m3 b0 k0 kd xa xb xn Q a0) {a : Act} {w : World} (hs : Sim a0 a) (hb : Below wo.heap.size wo w) (hp : ∃ g, a.eval (.tmp 38) = .slice (some ⟨g, 0, none⟩) 10 10 ∧ Blk wo w g (PO (0, 0))) (hk : ∃ g, a.eval (.tmp 51) = .slice (some ⟨g, 0, none⟩) m2 4 ∧ Blk wo w g (KO k0 k)) (hg : ∃ g, a.eval (.tmp 61) = .slice (some ⟨g, 0, none⟩) m3 3 ∧ Blk wo w g (GO b0 k)) : wpAnyH Tryd.prog .any ops8 Q (fun _ => True) 6 (Ls [0, 1, 2, 3, 4, 5, 6, 7, 8, 9, 10, 11, 12, 13, 14, 15, 16, 17, 18, 19, 20, 21, 22, 23, 25, 26, 27, 29, 30, 31, 32, 33, 34, 35, 36, 37, 38, 39, 40, 41, 42, 43, 44, 45, 46]) a w := by
  obtain ⟨gp, ep, bp⟩ := hp
  obtain ⟨gk, ek, bk⟩ := hk
  obtain ⟨gg, eg, bg⟩ := hg
  exact anyH_step (rs := [24]) (by kernel_rfl) (by simp) (one_cons ⟨o24, .slice (some ⟨gp, 0, none⟩) 10 10, w.freeze ⟨gp, 10, none⟩ 1, (Ls [0, 1, 2, 3, 4, 5, 6, 7, 8, 9, 10, 11, 12, 13, 14, 15, 16, 17, 18, 19, 20, 21, 22, 23, 24, 25, 26, 27, 29, 30, 31, 32, 33, 34, 35, 36, 37, 38, 39, 40, 41, 42, 43, 44, 45, 46]), at24, rfl, run24 ep bp, (by kernel_rfl), by
    have hs1 := hs.put (d := 39) (by decide) (.slice (some ⟨gp, 0, none⟩) 10 10)
    have hb1 : Below wo.heap.size wo (w.freeze ⟨gp, 10, none⟩ 1) := mark_below hb bp.low 10
    refine anyH_take (v := .slice (some ⟨gp, 0, none⟩) m1 10) (L' := (Ls [0, 1, 2, 3, 4, 5, 6, 7, 8, 9, 10, 11, 12, 13, 14, 15, 16, 17, 18, 19, 20, 21, 22, 23, 24, 25, 26, 27, 28, 29, 30, 31, 32, 33, 34, 35, 36, 37, 38, 39, 40, 41, 42, 43, 44, 45, 46])) at28 rfl nosel8 (by kernel_rfl) (by kernel_rfl) c.q (fun w2 => run28 c.l1 (put_same (hs.lt (Nat.lt_of_lt_of_le (by decide : 39 < 135) c.size)) _) (hs1.ev (by decide) c.e42)) (by kernel_rfl) ?_
    have hs2 := hs1.put (d := 43) (by decide) (.slice (some ⟨gp, 0, none⟩) m1 10)
    exact st211 c hs2 hb1 ⟨_, put_same (hs1.lt (Nat.lt_of_lt_of_le (by decide : 43 < 135) c.size)) _, bp.marked 10⟩ ⟨_, (put_ne (by decide) _).trans ((put_ne (by decide) _).trans ek), (bk.mark bp ko_po 10)⟩ ⟨_, (put_ne (by decide) _).trans ((put_ne (by decide) _).trans eg), (bg.mark bp go_po 10)⟩⟩ one_nil)
theorem st200 {W wo : World} {vv : Value} {ls : List Ak} {i k m1 m2 m3 b0 : Nat} {k0 kd xa xb xn : Int} {Q : Exit → Act → World → Prop} {a0 : Act} (c : Lit8 W wo vv ls i k m1 m2 m3 b0 k0 kd xa xb xn Q a0) {a : Act} {w : World} (hs : Sim a0 a) (hb : Below wo.heap.size wo w) (hp : ∃ g, a.eval (.tmp 43) = .slice (some ⟨g, 0, none⟩) m1 10 ∧ Blk wo w g (PO (10, 11)))   : wpAnyH Tryd.prog .any ops8 Q (fun _ => True) 8 (Ls [0, 1, 2, 3, 4, 5, 6, 7, 8, 9, 10, 11, 12, 13, 14, 15, 16, 17, 18, 19, 20, 21, 22, 23, 24, 25, 26, 27, 28, 29, 30, 31, 33, 34, 35, 37, 38, 39, 40, 41, 43, 44, 45]) a w := by
  obtain ⟨gp, ep, bp⟩ := hp
  exact anyH_step (rs := [32, 42]) (by kernel_rfl) (by simp) (one_cons ⟨o32, .slice (some ⟨w.heap.size, 0, none⟩) 4 4, w.alloc (KO k0 k), (Ls [0, 1, 2, 3, 4, 5, 6, 7, 8, 9, 10, 11, 12, 13, 14, 15, 16, 17, 18, 19, 20, 21, 22, 23, 24, 25, 26, 27, 28, 29, 30, 31, 32, 33, 34, 35, 37, 38, 39, 40, 41, 43, 44, 45]), at32, rfl, run32 (hs.ev (by decide) c.e45) (hs.ev (by decide) c.e46), (by kernel_rfl), by
    have hs1 := hs.put (d := 47) (by decide) (.slice (some ⟨w.heap.size, 0, none⟩) 4 4)
    have hb1 : Below wo.heap.size wo (w.alloc (KO k0 k)) := below_new hb _
    refine anyH_take (v := .slice (some ⟨w.heap.size, 0, none⟩) m2 4) (L' := (Ls [0, 1, 2, 3, 4, 5, 6, 7, 8, 9, 10, 11, 12, 13, 14, 15, 16, 17, 18, 19, 20, 21, 22, 23, 24, 25, 26, 27, 28, 29, 30, 31, 32, 33, 34, 35, 36, 37, 38, 39, 40, 41, 43, 44, 45])) at36 rfl nosel8 (by kernel_rfl) (by kernel_rfl) c.q (fun w2 => run36 c.l2 (put_same (hs.lt (Nat.lt_of_lt_of_le (by decide : 47 < 135) c.size)) _) (hs1.ev (by decide) c.e50)) (by kernel_rfl) ?_
    have hs2 := hs1.put (d := 51) (by decide) (.slice (some ⟨w.heap.size, 0, none⟩) m2 4)
    exact st210 c hs2 hb1 ⟨_, (put_ne (by decide) _).trans ((put_ne (by decide) _).trans ep), (bp.alloc _)⟩ ⟨_, put_same (hs1.lt (Nat.lt_of_lt_of_le (by decide : 51 < 135) c.size)) _, Blk.new hb _⟩⟩ (one_cons ⟨o42, .slice (some ⟨w.heap.size, 0, none⟩) 3 3, w.alloc (GO b0 k), (Ls [0, 1, 2, 3, 4, 5, 6, 7, 8, 9, 10, 11, 12, 13, 14, 15, 16, 17, 18, 19, 20, 21, 22, 23, 24, 25, 26, 27, 28, 29, 30, 31, 33, 34, 35, 37, 38, 39, 40, 41, 42, 43, 44, 45]), at42, rfl, run42 (hs.ev (by decide) c.e54) (hs.ev (by decide) c.e56), (by kernel_rfl), by
    have hs1 := hs.put (d := 57) (by decide) (.slice (some ⟨w.heap.size, 0, none⟩) 3 3)
    have hb1 : Below wo.heap.size wo (w.alloc (GO b0 k)) := below_new hb _
    refine anyH_take (v := .slice (some ⟨w.heap.size, 0, none⟩) m3 3) (L' := (Ls [0, 1, 2, 3, 4, 5, 6, 7, 8, 9, 10, 11, 12, 13, 14, 15, 16, 17, 18, 19, 20, 21, 22, 23, 24, 25, 26, 27, 28, 29, 30, 31, 33, 34, 35, 37, 38, 39, 40, 41, 42, 43, 44, 45, 46])) at46 rfl nosel8 (by kernel_rfl) (by kernel_rfl) c.q (fun w2 => run46 c.l3 (put_same (hs.lt (Nat.lt_of_lt_of_le (by decide : 57 < 135) c.size)) _) (hs1.ev (by decide) c.e60)) (by kernel_rfl) ?_
    have hs2 := hs1.put (d := 61) (by decide) (.slice (some ⟨w.heap.size, 0, none⟩) m3 3)
    exact st201 c hs2 hb1 ⟨_, (put_ne (by decide) _).trans ((put_ne (by decide) _).trans ep), (bp.alloc _)⟩ ⟨_, put_same (hs1.lt (Nat.lt_of_lt_of_le (by decide : 61 < 135) c.size)) _, Blk.new hb _⟩⟩ one_nil))
theorem st110 {W wo : World} {vv : Value} {ls : List Ak} {i k m1 m2 m3 b0 : Nat} {k0 kd xa xb xn : Int} {Q : Exit → Act → World → Prop} {a0 : Act} (c : Lit8 W wo vv ls i k m1 m2 m3 b0 k0 kd xa xb xn Q a0) {a : Act} {w : World} (hs : Sim a0 a) (hb : Below wo.heap.size wo w) (hp : ∃ g, a.eval (.tmp 38) = .slice (some ⟨g, 0, none⟩) 10 10 ∧ Blk wo w g (PO (0, 0))) (hk : ∃ g, a.eval (.tmp 51) = .slice (some ⟨g, 0, none⟩) m2 4 ∧ Blk wo w g (KO k0 k))  : wpAnyH Tryd.prog .any ops8 Q (fun _ => True) 8 (Ls [0, 1, 2, 3, 4, 5, 6, 7, 8, 9, 10, 11, 12, 13, 14, 15, 16, 17, 18, 19, 20, 21, 22, 23, 25, 26, 27, 29, 30, 31, 32, 33, 34, 35, 36, 37, 38, 39, 40, 41, 43, 44, 45]) a w := by
  obtain ⟨gp, ep, bp⟩ := hp
  obtain ⟨gk, ek, bk⟩ := hk
  exact anyH_step (rs := [24, 42]) (by kernel_rfl) (by simp) (one_cons ⟨o24, .slice (some ⟨gp, 0, none⟩) 10 10, w.freeze ⟨gp, 10, none⟩ 1, (Ls [0, 1, 2, 3, 4, 5, 6, 7, 8, 9, 10, 11, 12, 13, 14, 15, 16, 17, 18, 19, 20, 21, 22, 23, 24, 25, 26, 27, 29, 30, 31, 32, 33, 34, 35, 36, 37, 38, 39, 40, 41, 43, 44, 45]), at24, rfl, run24 ep bp, (by kernel_rfl), by
    have hs1 := hs.put (d := 39) (by decide) (.slice (some ⟨gp, 0, none⟩) 10 10)
    have hb1 : Below wo.heap.size wo (w.freeze ⟨gp, 10, none⟩ 1) := mark_below hb bp.low 10
    refine anyH_take (v := .slice (some ⟨gp, 0, none⟩) m1 10) (L' := (Ls [0, 1, 2, 3, 4, 5, 6, 7, 8, 9, 10, 11, 12, 13, 14, 15, 16, 17, 18, 19, 20, 21, 22, 23, 24, 25, 26, 27, 28, 29, 30, 31, 32, 33, 34, 35, 36, 37, 38, 39, 40, 41, 43, 44, 45])) at28 rfl nosel8 (by kernel_rfl) (by kernel_rfl) c.q (fun w2 => run28 c.l1 (put_same (hs.lt (Nat.lt_of_lt_of_le (by decide : 39 < 135) c.size)) _) (hs1.ev (by decide) c.e42)) (by kernel_rfl) ?_
    have hs2 := hs1.put (d := 43) (by decide) (.slice (some ⟨gp, 0, none⟩) m1 10)
    exact st210 c hs2 hb1 ⟨_, put_same (hs1.lt (Nat.lt_of_lt_of_le (by decide : 43 < 135) c.size)) _, bp.marked 10⟩ ⟨_, (put_ne (by decide) _).trans ((put_ne (by decide) _).trans ek), (bk.mark bp ko_po 10)⟩⟩ (one_cons ⟨o42, .slice (some ⟨w.heap.size, 0, none⟩) 3 3, w.alloc (GO b0 k), (Ls [0, 1, 2, 3, 4, 5, 6, 7, 8, 9, 10, 11, 12, 13, 14, 15, 16, 17, 18, 19, 20, 21, 22, 23, 25, 26, 27, 29, 30, 31, 32, 33, 34, 35, 36, 37, 38, 39, 40, 41, 42, 43, 44, 45]), at42, rfl, run42 (hs.ev (by decide) c.e54) (hs.ev (by decide) c.e56), (by kernel_rfl), by
    have hs1 := hs.put (d := 57) (by decide) (.slice (some ⟨w.heap.size, 0, none⟩) 3 3)
    have hb1 : Below wo.heap.size wo (w.alloc (GO b0 k)) := below_new hb _
    refine anyH_take (v := .slice (some ⟨w.heap.size, 0, none⟩) m3 3) (L' := (Ls [0, 1, 2, 3, 4, 5, 6, 7, 8, 9, 10, 11, 12, 13, 14, 15, 16, 17, 18, 19, 20, 21, 22, 23, 25, 26, 27, 29, 30, 31, 32, 33, 34, 35, 36, 37, 38, 39, 40, 41, 42, 43, 44, 45, 46])) at46 rfl nosel8 (by kernel_rfl) (by kernel_rfl) c.q (fun w2 => run46 c.l3 (put_same (hs.lt (Nat.lt_of_lt_of_le (by decide : 57 < 135) c.size)) _) (hs1.ev (by decide) c.e60)) (by kernel_rfl) ?_
    have hs2 := hs1.put (d := 61) (by decide) (.slice (some ⟨w.heap.size, 0, none⟩) m3 3)
    exact st111 c hs2 hb1 ⟨_, (put_ne (by decide) _).trans ((put_ne (by decide) _).trans ep), (bp.alloc _)⟩ ⟨_, (put_ne (by decide) _).trans ((put_ne (by decide) _).trans ek), (bk.alloc _)⟩ ⟨_, put_same (hs1.lt (Nat.lt_of_lt_of_le (by decide : 61 < 135) c.size)) _, Blk.new hb _⟩⟩ one_nil))
theorem st101 {W wo : World} {vv : Value} {ls : List Ak} {i k m1 m2 m3 b0 : Nat} {k0 kd xa xb xn : Int} {Q : Exit → Act → World → Prop} {a0 : Act} (c : Lit8 W wo vv ls i k m1 m2 m3 b0 k0 kd xa xb xn Q a0) {a : Act} {w : World} (hs : Sim a0 a) (hb : Below wo.heap.size wo w) (hp : ∃ g, a.eval (.tmp 38) = .slice (some ⟨g, 0, none⟩) 10 10 ∧ Blk wo w g (PO (0, 0)))  (hg : ∃ g, a.eval (.tmp 61) = .slice (some ⟨g, 0, none⟩) m3 3 ∧ Blk wo w g (GO b0 k)) : wpAnyH Tryd.prog .any ops8 Q (fun _ => True) 8 (Ls [0, 1, 2, 3, 4, 5, 6, 7, 8, 9, 10, 11, 12, 13, 14, 15, 16, 17, 18, 19, 20, 21, 22, 23, 25, 26, 27, 29, 30, 31, 33, 34, 35, 37, 38, 39, 40, 41, 42, 43, 44, 45, 46]) a w := by
  obtain ⟨gp, ep, bp⟩ := hp
  obtain ⟨gg, eg, bg⟩ := hg
  exact anyH_step (rs := [24, 32]) (by kernel_rfl) (by simp) (one_cons ⟨o24, .slice (some ⟨gp, 0, none⟩) 10 10, w.freeze ⟨gp, 10, none⟩ 1, (Ls [0, 1, 2, 3, 4, 5, 6, 7, 8, 9, 10, 11, 12, 13, 14, 15, 16, 17, 18, 19, 20, 21, 22, 23, 24, 25, 26, 27, 29, 30, 31, 33, 34, 35, 37, 38, 39, 40, 41, 42, 43, 44, 45, 46]), at24, rfl, run24 ep bp, (by kernel_rfl), by
    have hs1 := hs.put (d := 39) (by decide) (.slice (some ⟨gp, 0, none⟩) 10 10)
    have hb1 : Below wo.heap.size wo (w.freeze ⟨gp, 10, none⟩ 1) := mark_below hb bp.low 10
    refine anyH_take (v := .slice (some ⟨gp, 0, none⟩) m1 10) (L' := (Ls [0, 1, 2, 3, 4, 5, 6, 7, 8, 9, 10, 11, 12, 13, 14, 15, 16, 17, 18, 19, 20, 21, 22, 23, 24, 25, 26, 27, 28, 29, 30, 31, 33, 34, 35, 37, 38, 39, 40, 41, 42, 43, 44, 45, 46])) at28 rfl nosel8 (by kernel_rfl) (by kernel_rfl) c.q (fun w2 => run28 c.l1 (put_same (hs.lt (Nat.lt_of_lt_of_le (by decide : 39 < 135) c.size)) _) (hs1.ev (by decide) c.e42)) (by kernel_rfl) ?_
    have hs2 := hs1.put (d := 43) (by decide) (.slice (some ⟨gp, 0, none⟩) m1 10)
    exact st201 c hs2 hb1 ⟨_, put_same (hs1.lt (Nat.lt_of_lt_of_le (by decide : 43 < 135) c.size)) _, bp.marked 10⟩ ⟨_, (put_ne (by decide) _).trans ((put_ne (by decide) _).trans eg), (bg.mark bp go_po 10)⟩⟩ (one_cons ⟨o32, .slice (some ⟨w.heap.size, 0, none⟩) 4 4, w.alloc (KO k0 k), (Ls [0, 1, 2, 3, 4, 5, 6, 7, 8, 9, 10, 11, 12, 13, 14, 15, 16, 17, 18, 19, 20, 21, 22, 23, 25, 26, 27, 29, 30, 31, 32, 33, 34, 35, 37, 38, 39, 40, 41, 42, 43, 44, 45, 46]), at32, rfl, run32 (hs.ev (by decide) c.e45) (hs.ev (by decide) c.e46), (by kernel_rfl), by
    have hs1 := hs.put (d := 47) (by decide) (.slice (some ⟨w.heap.size, 0, none⟩) 4 4)
    have hb1 : Below wo.heap.size wo (w.alloc (KO k0 k)) := below_new hb _
    refine anyH_take (v := .slice (some ⟨w.heap.size, 0, none⟩) m2 4) (L' := (Ls [0, 1, 2, 3, 4, 5, 6, 7, 8, 9, 10, 11, 12, 13, 14, 15, 16, 17, 18, 19, 20, 21, 22, 23, 25, 26, 27, 29, 30, 31, 32, 33, 34, 35, 36, 37, 38, 39, 40, 41, 42, 43, 44, 45, 46])) at36 rfl nosel8 (by kernel_rfl) (by kernel_rfl) c.q (fun w2 => run36 c.l2 (put_same (hs.lt (Nat.lt_of_lt_of_le (by decide : 47 < 135) c.size)) _) (hs1.ev (by decide) c.e50)) (by kernel_rfl) ?_
    have hs2 := hs1.put (d := 51) (by decide) (.slice (some ⟨w.heap.size, 0, none⟩) m2 4)
    exact st111 c hs2 hb1 ⟨_, (put_ne (by decide) _).trans ((put_ne (by decide) _).trans ep), (bp.alloc _)⟩ ⟨_, put_same (hs1.lt (Nat.lt_of_lt_of_le (by decide : 51 < 135) c.size)) _, Blk.new hb _⟩ ⟨_, (put_ne (by decide) _).trans ((put_ne (by decide) _).trans eg), (bg.alloc _)⟩⟩ one_nil))
theorem st011 {W wo : World} {vv : Value} {ls : List Ak} {i k m1 m2 m3 b0 : Nat} {k0 kd xa xb xn : Int} {Q : Exit → Act → World → Prop} {a0 : Act} (c : Lit8 W wo vv ls i k m1 m2 m3 b0 k0 kd xa xb xn Q a0) {a : Act} {w : World} (hs : Sim a0 a) (hb : Below wo.heap.size wo w)  (hk : ∃ g, a.eval (.tmp 51) = .slice (some ⟨g, 0, none⟩) m2 4 ∧ Blk wo w g (KO k0 k)) (hg : ∃ g, a.eval (.tmp 61) = .slice (some ⟨g, 0, none⟩) m3 3 ∧ Blk wo w g (GO b0 k)) : wpAnyH Tryd.prog .any ops8 Q (fun _ => True) 7 (Ls [0, 1, 2, 3, 4, 5, 6, 7, 8, 9, 10, 11, 12, 13, 14, 15, 16, 17, 18, 19, 20, 21, 22, 25, 26, 27, 29, 30, 31, 32, 33, 34, 35, 36, 37, 38, 39, 40, 41, 42, 43, 44, 45, 46]) a w := by
  obtain ⟨gk, ek, bk⟩ := hk
  obtain ⟨gg, eg, bg⟩ := hg
  exact anyH_step (rs := [23]) (by kernel_rfl) (by simp) (one_cons ⟨o23, .slice (some ⟨w.heap.size, 0, none⟩) 10 10, w.alloc (PO (0, 0)), (Ls [0, 1, 2, 3, 4, 5, 6, 7, 8, 9, 10, 11, 12, 13, 14, 15, 16, 17, 18, 19, 20, 21, 22, 23, 25, 26, 27, 29, 30, 31, 32, 33, 34, 35, 36, 37, 38, 39, 40, 41, 42, 43, 44, 45, 46]), at23, rfl, run23, (by kernel_rfl), by
    have hs1 := hs.put (d := 38) (by decide) (.slice (some ⟨w.heap.size, 0, none⟩) 10 10)
    have hb1 : Below wo.heap.size wo (w.alloc (PO (0, 0))) := below_new hb _
    exact st111 c hs1 hb1 ⟨_, put_same (hs.lt (Nat.lt_of_lt_of_le (by decide : 38 < 135) c.size)) _, Blk.new hb _⟩ ⟨_, (put_ne (by decide) _).trans ek, (bk.alloc _)⟩ ⟨_, (put_ne (by decide) _).trans eg, (bg.alloc _)⟩⟩ one_nil)
theorem st100 {W wo : World} {vv : Value} {ls : List Ak} {i k m1 m2 m3 b0 : Nat} {k0 kd xa xb xn : Int} {Q : Exit → Act → World → Prop} {a0 : Act} (c : Lit8 W wo vv ls i k m1 m2 m3 b0 k0 kd xa xb xn Q a0) {a : Act} {w : World} (hs : Sim a0 a) (hb : Below wo.heap.size wo w) (hp : ∃ g, a.eval (.tmp 38) = .slice (some ⟨g, 0, none⟩) 10 10 ∧ Blk wo w g (PO (0, 0)))   : wpAnyH Tryd.prog .any ops8 Q (fun _ => True) 10 (Ls [0, 1, 2, 3, 4, 5, 6, 7, 8, 9, 10, 11, 12, 13, 14, 15, 16, 17, 18, 19, 20, 21, 22, 23, 25, 26, 27, 29, 30, 31, 33, 34, 35, 37, 38, 39, 40, 41, 43, 44, 45]) a w := by
  obtain ⟨gp, ep, bp⟩ := hp
  exact anyH_step (rs := [24, 32, 42]) (by kernel_rfl) (by simp) (one_cons ⟨o24, .slice (some ⟨gp, 0, none⟩) 10 10, w.freeze ⟨gp, 10, none⟩ 1, (Ls [0, 1, 2, 3, 4, 5, 6, 7, 8, 9, 10, 11, 12, 13, 14, 15, 16, 17, 18, 19, 20, 21, 22, 23, 24, 25, 26, 27, 29, 30, 31, 33, 34, 35, 37, 38, 39, 40, 41, 43, 44, 45]), at24, rfl, run24 ep bp, (by kernel_rfl), by
    have hs1 := hs.put (d := 39) (by decide) (.slice (some ⟨gp, 0, none⟩) 10 10)
    have hb1 : Below wo.heap.size wo (w.freeze ⟨gp, 10, none⟩ 1) := mark_below hb bp.low 10
    refine anyH_take (v := .slice (some ⟨gp, 0, none⟩) m1 10) (L' := (Ls [0, 1, 2, 3, 4, 5, 6, 7, 8, 9, 10, 11, 12, 13, 14, 15, 16, 17, 18, 19, 20, 21, 22, 23, 24, 25, 26, 27, 28, 29, 30, 31, 33, 34, 35, 37, 38, 39, 40, 41, 43, 44, 45])) at28 rfl nosel8 (by kernel_rfl) (by kernel_rfl) c.q (fun w2 => run28 c.l1 (put_same (hs.lt (Nat.lt_of_lt_of_le (by decide : 39 < 135) c.size)) _) (hs1.ev (by decide) c.e42)) (by kernel_rfl) ?_
    have hs2 := hs1.put (d := 43) (by decide) (.slice (some ⟨gp, 0, none⟩) m1 10)
    exact st200 c hs2 hb1 ⟨_, put_same (hs1.lt (Nat.lt_of_lt_of_le (by decide : 43 < 135) c.size)) _, bp.marked 10⟩⟩ (one_cons ⟨o32, .slice (some ⟨w.heap.size, 0, none⟩) 4 4, w.alloc (KO k0 k), (Ls [0, 1, 2, 3, 4, 5, 6, 7, 8, 9, 10, 11, 12, 13, 14, 15, 16, 17, 18, 19, 20, 21, 22, 23, 25, 26, 27, 29, 30, 31, 32, 33, 34, 35, 37, 38, 39, 40, 41, 43, 44, 45]), at32, rfl, run32 (hs.ev (by decide) c.e45) (hs.ev (by decide) c.e46), (by kernel_rfl), by
    have hs1 := hs.put (d := 47) (by decide) (.slice (some ⟨w.heap.size, 0, none⟩) 4 4)
    have hb1 : Below wo.heap.size wo (w.alloc (KO k0 k)) := below_new hb _
    refine anyH_take (v := .slice (some ⟨w.heap.size, 0, none⟩) m2 4) (L' := (Ls [0, 1, 2, 3, 4, 5, 6, 7, 8, 9, 10, 11, 12, 13, 14, 15, 16, 17, 18, 19, 20, 21, 22, 23, 25, 26, 27, 29, 30, 31, 32, 33, 34, 35, 36, 37, 38, 39, 40, 41, 43, 44, 45])) at36 rfl nosel8 (by kernel_rfl) (by kernel_rfl) c.q (fun w2 => run36 c.l2 (put_same (hs.lt (Nat.lt_of_lt_of_le (by decide : 47 < 135) c.size)) _) (hs1.ev (by decide) c.e50)) (by kernel_rfl) ?_
    have hs2 := hs1.put (d := 51) (by decide) (.slice (some ⟨w.heap.size, 0, none⟩) m2 4)
    exact st110 c hs2 hb1 ⟨_, (put_ne (by decide) _).trans ((put_ne (by decide) _).trans ep), (bp.alloc _)⟩ ⟨_, put_same (hs1.lt (Nat.lt_of_lt_of_le (by decide : 51 < 135) c.size)) _, Blk.new hb _⟩⟩ (one_cons ⟨o42, .slice (some ⟨w.heap.size, 0, none⟩) 3 3, w.alloc (GO b0 k), (Ls [0, 1, 2, 3, 4, 5, 6, 7, 8, 9, 10, 11, 12, 13, 14, 15, 16, 17, 18, 19, 20, 21, 22, 23, 25, 26, 27, 29, 30, 31, 33, 34, 35, 37, 38, 39, 40, 41, 42, 43, 44, 45]), at42, rfl, run42 (hs.ev (by decide) c.e54) (hs.ev (by decide) c.e56), (by kernel_rfl), by
    have hs1 := hs.put (d := 57) (by decide) (.slice (some ⟨w.heap.size, 0, none⟩) 3 3)
    have hb1 : Below wo.heap.size wo (w.alloc (GO b0 k)) := below_new hb _
    refine anyH_take (v := .slice (some ⟨w.heap.size, 0, none⟩) m3 3) (L' := (Ls [0, 1, 2, 3, 4, 5, 6, 7, 8, 9, 10, 11, 12, 13, 14, 15, 16, 17, 18, 19, 20, 21, 22, 23, 25, 26, 27, 29, 30, 31, 33, 34, 35, 37, 38, 39, 40, 41, 42, 43, 44, 45, 46])) at46 rfl nosel8 (by kernel_rfl) (by kernel_rfl) c.q (fun w2 => run46 c.l3 (put_same (hs.lt (Nat.lt_of_lt_of_le (by decide : 57 < 135) c.size)) _) (hs1.ev (by decide) c.e60)) (by kernel_rfl) ?_
    have hs2 := hs1.put (d := 61) (by decide) (.slice (some ⟨w.heap.size, 0, none⟩) m3 3)
    exact st101 c hs2 hb1 ⟨_, (put_ne (by decide) _).trans ((put_ne (by decide) _).trans ep), (bp.alloc _)⟩ ⟨_, put_same (hs1.lt (Nat.lt_of_lt_of_le (by decide : 61 < 135) c.size)) _, Blk.new hb _⟩⟩ one_nil)))
theorem st010 {W wo : World} {vv : Value} {ls : List Ak} {i k m1 m2 m3 b0 : Nat} {k0 kd xa xb xn : Int} {Q : Exit → Act → World → Prop} {a0 : Act} (c : Lit8 W wo vv ls i k m1 m2 m3 b0 k0 kd xa xb xn Q a0) {a : Act} {w : World} (hs : Sim a0 a) (hb : Below wo.heap.size wo w)  (hk : ∃ g, a.eval (.tmp 51) = .slice (some ⟨g, 0, none⟩) m2 4 ∧ Blk wo w g (KO k0 k))  : wpAnyH Tryd.prog .any ops8 Q (fun _ => True) 9 (Ls [0, 1, 2, 3, 4, 5, 6, 7, 8, 9, 10, 11, 12, 13, 14, 15, 16, 17, 18, 19, 20, 21, 22, 25, 26, 27, 29, 30, 31, 32, 33, 34, 35, 36, 37, 38, 39, 40, 41, 43, 44, 45]) a w := by
  obtain ⟨gk, ek, bk⟩ := hk
  exact anyH_step (rs := [23, 42]) (by kernel_rfl) (by simp) (one_cons ⟨o23, .slice (some ⟨w.heap.size, 0, none⟩) 10 10, w.alloc (PO (0, 0)), (Ls [0, 1, 2, 3, 4, 5, 6, 7, 8, 9, 10, 11, 12, 13, 14, 15, 16, 17, 18, 19, 20, 21, 22, 23, 25, 26, 27, 29, 30, 31, 32, 33, 34, 35, 36, 37, 38, 39, 40, 41, 43, 44, 45]), at23, rfl, run23, (by kernel_rfl), by
    have hs1 := hs.put (d := 38) (by decide) (.slice (some ⟨w.heap.size, 0, none⟩) 10 10)
    have hb1 : Below wo.heap.size wo (w.alloc (PO (0, 0))) := below_new hb _
    exact st110 c hs1 hb1 ⟨_, put_same (hs.lt (Nat.lt_of_lt_of_le (by decide : 38 < 135) c.size)) _, Blk.new hb _⟩ ⟨_, (put_ne (by decide) _).trans ek, (bk.alloc _)⟩⟩ (one_cons ⟨o42, .slice (some ⟨w.heap.size, 0, none⟩) 3 3, w.alloc (GO b0 k), (Ls [0, 1, 2, 3, 4, 5, 6, 7, 8, 9, 10, 11, 12, 13, 14, 15, 16, 17, 18, 19, 20, 21, 22, 25, 26, 27, 29, 30, 31, 32, 33, 34, 35, 36, 37, 38, 39, 40, 41, 42, 43, 44, 45]), at42, rfl, run42 (hs.ev (by decide) c.e54) (hs.ev (by decide) c.e56), (by kernel_rfl), by
    have hs1 := hs.put (d := 57) (by decide) (.slice (some ⟨w.heap.size, 0, none⟩) 3 3)
    have hb1 : Below wo.heap.size wo (w.alloc (GO b0 k)) := below_new hb _
    refine anyH_take (v := .slice (some ⟨w.heap.size, 0, none⟩) m3 3) (L' := (Ls [0, 1, 2, 3, 4, 5, 6, 7, 8, 9, 10, 11, 12, 13, 14, 15, 16, 17, 18, 19, 20, 21, 22, 25, 26, 27, 29, 30, 31, 32, 33, 34, 35, 36, 37, 38, 39, 40, 41, 42, 43, 44, 45, 46])) at46 rfl nosel8 (by kernel_rfl) (by kernel_rfl) c.q (fun w2 => run46 c.l3 (put_same (hs.lt (Nat.lt_of_lt_of_le (by decide : 57 < 135) c.size)) _) (hs1.ev (by decide) c.e60)) (by kernel_rfl) ?_
    have hs2 := hs1.put (d := 61) (by decide) (.slice (some ⟨w.heap.size, 0, none⟩) m3 3)
    exact st011 c hs2 hb1 ⟨_, (put_ne (by decide) _).trans ((put_ne (by decide) _).trans ek), (bk.alloc _)⟩ ⟨_, put_same (hs1.lt (Nat.lt_of_lt_of_le (by decide : 61 < 135) c.size)) _, Blk.new hb _⟩⟩ one_nil))
theorem st001 {W wo : World} {vv : Value} {ls : List Ak} {i k m1 m2 m3 b0 : Nat} {k0 kd xa xb xn : Int} {Q : Exit → Act → World → Prop} {a0 : Act} (c : Lit8 W wo vv ls i k m1 m2 m3 b0 k0 kd xa xb xn Q a0) {a : Act} {w : World} (hs : Sim a0 a) (hb : Below wo.heap.size wo w)   (hg : ∃ g, a.eval (.tmp 61) = .slice (some ⟨g, 0, none⟩) m3 3 ∧ Blk wo w g (GO b0 k)) : wpAnyH Tryd.prog .any ops8 Q (fun _ => True) 9 (Ls [0, 1, 2, 3, 4, 5, 6, 7, 8, 9, 10, 11, 12, 13, 14, 15, 16, 17, 18, 19, 20, 21, 22, 25, 26, 27, 29, 30, 31, 33, 34, 35, 37, 38, 39, 40, 41, 42, 43, 44, 45, 46]) a w := by
  obtain ⟨gg, eg, bg⟩ := hg
  exact anyH_step (rs := [23, 32]) (by kernel_rfl) (by simp) (one_cons ⟨o23, .slice (some ⟨w.heap.size, 0, none⟩) 10 10, w.alloc (PO (0, 0)), (Ls [0, 1, 2, 3, 4, 5, 6, 7, 8, 9, 10, 11, 12, 13, 14, 15, 16, 17, 18, 19, 20, 21, 22, 23, 25, 26, 27, 29, 30, 31, 33, 34, 35, 37, 38, 39, 40, 41, 42, 43, 44, 45, 46]), at23, rfl, run23, (by kernel_rfl), by
    have hs1 := hs.put (d := 38) (by decide) (.slice (some ⟨w.heap.size, 0, none⟩) 10 10)
    have hb1 : Below wo.heap.size wo (w.alloc (PO (0, 0))) := below_new hb _
    exact st101 c hs1 hb1 ⟨_, put_same (hs.lt (Nat.lt_of_lt_of_le (by decide : 38 < 135) c.size)) _, Blk.new hb _⟩ ⟨_, (put_ne (by decide) _).trans eg, (bg.alloc _)⟩⟩ (one_cons ⟨o32, .slice (some ⟨w.heap.size, 0, none⟩) 4 4, w.alloc (KO k0 k), (Ls [0, 1, 2, 3, 4, 5, 6, 7, 8, 9, 10, 11, 12, 13, 14, 15, 16, 17, 18, 19, 20, 21, 22, 25, 26, 27, 29, 30, 31, 32, 33, 34, 35, 37, 38, 39, 40, 41, 42, 43, 44, 45, 46]), at32, rfl, run32 (hs.ev (by decide) c.e45) (hs.ev (by decide) c.e46), (by kernel_rfl), by
    have hs1 := hs.put (d := 47) (by decide) (.slice (some ⟨w.heap.size, 0, none⟩) 4 4)
    have hb1 : Below wo.heap.size wo (w.alloc (KO k0 k)) := below_new hb _
    refine anyH_take (v := .slice (some ⟨w.heap.size, 0, none⟩) m2 4) (L' := (Ls [0, 1, 2, 3, 4, 5, 6, 7, 8, 9, 10, 11, 12, 13, 14, 15, 16, 17, 18, 19, 20, 21, 22, 25, 26, 27, 29, 30, 31, 32, 33, 34, 35, 36, 37, 38, 39, 40, 41, 42, 43, 44, 45, 46])) at36 rfl nosel8 (by kernel_rfl) (by kernel_rfl) c.q (fun w2 => run36 c.l2 (put_same (hs.lt (Nat.lt_of_lt_of_le (by decide : 47 < 135) c.size)) _) (hs1.ev (by decide) c.e50)) (by kernel_rfl) ?_
    have hs2 := hs1.put (d := 51) (by decide) (.slice (some ⟨w.heap.size, 0, none⟩) m2 4)
    exact st011 c hs2 hb1 ⟨_, put_same (hs1.lt (Nat.lt_of_lt_of_le (by decide : 51 < 135) c.size)) _, Blk.new hb _⟩ ⟨_, (put_ne (by decide) _).trans ((put_ne (by decide) _).trans eg), (bg.alloc _)⟩⟩ one_nil))
theorem st000 {W wo : World} {vv : Value} {ls : List Ak} {i k m1 m2 m3 b0 : Nat} {k0 kd xa xb xn : Int} {Q : Exit → Act → World → Prop} {a0 : Act} (c : Lit8 W wo vv ls i k m1 m2 m3 b0 k0 kd xa xb xn Q a0) {a : Act} {w : World} (hs : Sim a0 a) (hb : Below wo.heap.size wo w)    : wpAnyH Tryd.prog .any ops8 Q (fun _ => True) 11 (Ls [0, 1, 2, 3, 4, 5, 6, 7, 8, 9, 10, 11, 12, 13, 14, 15, 16, 17, 18, 19, 20, 21, 22, 25, 26, 27, 29, 30, 31, 33, 34, 35, 37, 38, 39, 40, 41, 43, 44, 45]) a w := by
  exact anyH_step (rs := [23, 32, 42]) (by kernel_rfl) (by simp) (one_cons ⟨o23, .slice (some ⟨w.heap.size, 0, none⟩) 10 10, w.alloc (PO (0, 0)), (Ls [0, 1, 2, 3, 4, 5, 6, 7, 8, 9, 10, 11, 12, 13, 14, 15, 16, 17, 18, 19, 20, 21, 22, 23, 25, 26, 27, 29, 30, 31, 33, 34, 35, 37, 38, 39, 40, 41, 43, 44, 45]), at23, rfl, run23, (by kernel_rfl), by
    have hs1 := hs.put (d := 38) (by decide) (.slice (some ⟨w.heap.size, 0, none⟩) 10 10)
    have hb1 : Below wo.heap.size wo (w.alloc (PO (0, 0))) := below_new hb _
    exact st100 c hs1 hb1 ⟨_, put_same (hs.lt (Nat.lt_of_lt_of_le (by decide : 38 < 135) c.size)) _, Blk.new hb _⟩⟩ (one_cons ⟨o32, .slice (some ⟨w.heap.size, 0, none⟩) 4 4, w.alloc (KO k0 k), (Ls [0, 1, 2, 3, 4, 5, 6, 7, 8, 9, 10, 11, 12, 13, 14, 15, 16, 17, 18, 19, 20, 21, 22, 25, 26, 27, 29, 30, 31, 32, 33, 34, 35, 37, 38, 39, 40, 41, 43, 44, 45]), at32, rfl, run32 (hs.ev (by decide) c.e45) (hs.ev (by decide) c.e46), (by kernel_rfl), by
    have hs1 := hs.put (d := 47) (by decide) (.slice (some ⟨w.heap.size, 0, none⟩) 4 4)
    have hb1 : Below wo.heap.size wo (w.alloc (KO k0 k)) := below_new hb _
    refine anyH_take (v := .slice (some ⟨w.heap.size, 0, none⟩) m2 4) (L' := (Ls [0, 1, 2, 3, 4, 5, 6, 7, 8, 9, 10, 11, 12, 13, 14, 15, 16, 17, 18, 19, 20, 21, 22, 25, 26, 27, 29, 30, 31, 32, 33, 34, 35, 36, 37, 38, 39, 40, 41, 43, 44, 45])) at36 rfl nosel8 (by kernel_rfl) (by kernel_rfl) c.q (fun w2 => run36 c.l2 (put_same (hs.lt (Nat.lt_of_lt_of_le (by decide : 47 < 135) c.size)) _) (hs1.ev (by decide) c.e50)) (by kernel_rfl) ?_
    have hs2 := hs1.put (d := 51) (by decide) (.slice (some ⟨w.heap.size, 0, none⟩) m2 4)
    exact st010 c hs2 hb1 ⟨_, put_same (hs1.lt (Nat.lt_of_lt_of_le (by decide : 51 < 135) c.size)) _, Blk.new hb _⟩⟩ (one_cons ⟨o42, .slice (some ⟨w.heap.size, 0, none⟩) 3 3, w.alloc (GO b0 k), (Ls [0, 1, 2, 3, 4, 5, 6, 7, 8, 9, 10, 11, 12, 13, 14, 15, 16, 17, 18, 19, 20, 21, 22, 25, 26, 27, 29, 30, 31, 33, 34, 35, 37, 38, 39, 40, 41, 42, 43, 44, 45]), at42, rfl, run42 (hs.ev (by decide) c.e54) (hs.ev (by decide) c.e56), (by kernel_rfl), by
    have hs1 := hs.put (d := 57) (by decide) (.slice (some ⟨w.heap.size, 0, none⟩) 3 3)
    have hb1 : Below wo.heap.size wo (w.alloc (GO b0 k)) := below_new hb _
    refine anyH_take (v := .slice (some ⟨w.heap.size, 0, none⟩) m3 3) (L' := (Ls [0, 1, 2, 3, 4, 5, 6, 7, 8, 9, 10, 11, 12, 13, 14, 15, 16, 17, 18, 19, 20, 21, 22, 25, 26, 27, 29, 30, 31, 33, 34, 35, 37, 38, 39, 40, 41, 42, 43, 44, 45, 46])) at46 rfl nosel8 (by kernel_rfl) (by kernel_rfl) c.q (fun w2 => run46 c.l3 (put_same (hs.lt (Nat.lt_of_lt_of_le (by decide : 57 < 135) c.size)) _) (hs1.ev (by decide) c.e60)) (by kernel_rfl) ?_
    have hs2 := hs1.put (d := 61) (by decide) (.slice (some ⟨w.heap.size, 0, none⟩) m3 3)
    exact st001 c hs2 hb1 ⟨_, put_same (hs1.lt (Nat.lt_of_lt_of_le (by decide : 61 < 135) c.size)) _, Blk.new hb _⟩⟩ one_nil)))
/-- The act behind the region, written out from the one ahead of it. -/
theorem foldl_get (f : Nat → Value) : ∀ (D : List Nat) (b : Act) (t : Nat), t < b.tmps.size → (D.foldl (fun b d => b.put (some d) (f d)) b).tmps.getD t undef = if t ∈ D then f t else b.tmps.getD t undef
  | [], b, t, h => by simp
  | d :: D, b, t, h => by
    rw [List.foldl_cons, foldl_get f D _ t (by show t < (b.tmps.setIfInBounds d (f d)).size; rwa [Array.size_setIfInBounds])]
    by_cases h1 : t ∈ D
    · rw [if_pos h1, if_pos (List.mem_cons_of_mem _ h1)]
    · rw [if_neg h1]
      by_cases h2 : t = d
      · subst h2
        rw [if_pos List.mem_cons_self]
        exact put_same (a := b) h (f t)
      · rw [if_neg (fun hc => (List.mem_cons.1 hc).elim h2 h1)]
        exact put_ne (a := b) (fun e => h2 e.symm) (f d)
theorem foldl_size (f : Nat → Value) : ∀ (D : List Nat) (b : Act), (D.foldl (fun b d => b.put (some d) (f d)) b).tmps.size = b.tmps.size ∧ (D.foldl (fun b d => b.put (some d) (f d)) b).defers = b.defers
  | [], b => ⟨rfl, rfl⟩
  | d :: D, b => by
    rw [List.foldl_cons]
    have h := foldl_size f D (b.put (some d) (f d))
    exact ⟨h.1.trans (by show (b.tmps.setIfInBounds d (f d)).size = _; rw [Array.size_setIfInBounds]), h.2⟩
theorem sim_out {a0 a : Act} (h : Sim a0 a) : ∃ f : Nat → Value, f 2 = a.eval (.tmp 2) ∧ a = D8.foldl (fun b d => b.put (some d) (f d)) a0 := by
  refine ⟨fun d => a.eval (.tmp d), rfl, ?_⟩
  obtain ⟨hz, hd⟩ := foldl_size (fun d => a.eval (.tmp d)) D8 a0
  obtain ⟨b, hb⟩ : ∃ b, b = D8.foldl (fun b d => b.put (some d) (a.eval (.tmp d))) a0 := ⟨_, rfl⟩
  have hget := fun t ht => foldl_get (fun d => a.eval (.tmp d)) D8 a0 t ht
  rw [← hb] at hz hd
  rw [← hb]
  have ht : a.tmps = b.tmps := by
    refine Array.ext (h.size.trans hz.symm) fun t h1 h2 => ?_
    have h3 := hget t (by rw [← hz]; exact h2)
    rw [← hb] at h3
    have e1 : a.tmps[t] = a.tmps.getD t undef := by simp [Array.getD, h1]
    have e2 : b.tmps[t] = b.tmps.getD t undef := by simp [Array.getD, h2]
    rw [e1, e2, h3]
    by_cases hm : t ∈ D8
    · rw [if_pos hm]; rfl
    · rw [if_neg hm]; exact h.same t hm
  cases a
  cases b
  simp only at ht hd
  have := h.defers
  simp only at this
  rw [ht, this, hd]
theorem lits_use {Q : Exit → Act → World → Prop} {ops : Array Oper} {n : Nat} {L : Array Bool} {a : Act} {w : World} (hops : ops = ops8) (hn : n = 11) (hL : L = (Ls [0, 1, 2, 3, 4, 5, 6, 7, 8, 9, 10, 11, 12, 13, 14, 15, 16, 17, 18, 19, 20, 21, 22, 25, 26, 27, 29, 30, 31, 33, 34, 35, 37, 38, 39, 40, 41, 43, 44, 45])) (h : wpAnyH Tryd.prog .any ops8 Q (fun _ => True) 11 (Ls [0, 1, 2, 3, 4, 5, 6, 7, 8, 9, 10, 11, 12, 13, 14, 15, 16, 17, 18, 19, 20, 21, 22, 25, 26, 27, 29, 30, 31, 33, 34, 35, 37, 38, 39, 40, 41, 43, 44, 45]) a w) : wpAnyH Tryd.prog .any ops Q (fun _ => True) n L a w := by
  subst hops hn hL
  exact h
end Go.Proofs.YtjocfkkcnkpjdaaDoor
