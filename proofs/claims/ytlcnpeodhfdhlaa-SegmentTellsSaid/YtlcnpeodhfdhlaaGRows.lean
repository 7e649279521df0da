/- What every text over memory shares: which blocks another world has kept; a block whose cell is written; a result that lies in a cell. Rows of things in memory, each of so many cells: read, taken over, appended to. Kinds of things in memory: bytes. Rows of things: 'l[:k]', 'l[k:]'; a row where another block is written; what one block's writing leaves. What a call turns: nothing that was there and is not of its own blocks. A row that is appended to where there is no room: 'append(l[:k:k], m...)'. -/
import Derived.Test.YtlcnpeodhfdhlaaBytes
import Derived.OwnWalk
import Derived.BigQuiet
import Derived.Deep.QuietTactic
import Derived.Deep.RegionHeld3
/-! What every text over memory shares: which blocks another world has kept; a block whose cell is written; a result that lies in a cell. -/
namespace Go.Proofs.Ytlcnpeodhfdhlaa
open Go.RowKit
set_option linter.unusedVariables false

section
variable {w w' w1 w2 : World} {kt k : Nat}
theorem grow_refl (w : World) (r : Option Nat) : w.grownBy w r := ⟨rfl, rfl, rfl, Nat.le_refl _, fun _ _ _ => rfl⟩
theorem grow_trans {r : Option Nat} (h : w.grownBy w1 r) (h2 : w1.grownBy w2 r) : w.grownBy w2 r :=
  ⟨h2.os.trans h.os, h2.tape.trans h.tape, h2.output.trans h.output, Nat.le_trans h.size h2.size, fun k hk hn => (h2.block k (Nat.lt_of_lt_of_le hk h.size) hn).trans (h.block k hk hn)⟩
theorem grow_drewN {r : Option Nat} (h : w.grownBy w1 r) (n : Nat) : w.grownBy (w1.drewN n) r := grow_trans h ⟨rfl, rfl, rfl, Nat.le_refl _, fun _ _ _ => rfl⟩
theorem grow_alloc {r : Option Nat} (h : w.grownBy w1 r) (o : Obj) : w.grownBy (w1.alloc o) r := grow_trans h (World.grownBy_alloc w1 o r)
theorem grow_set (h : w.grownBy w1 (some kt)) (j : Nat) (u : Value) : w.grownBy (w1.setCell ⟨kt, j, none⟩ u) (some kt) :=
  grow_trans h ⟨rfl, rfl, rfl, by simp, fun k hk hn => by
    show (w1.heap.modify kt _)[k]? = _
    rw [Array.getElem?_modify, if_neg (fun e => hn (by rw [e]))]⟩
theorem grow_below {r : Option Nat} (h : w.grownBy w1 r) (hb : Below w1.heap.size w1 w2) : w.grownBy w2 r :=
  grow_trans h ⟨hb.os, hb.tape, hb.output, hb.size, fun k hk _ => hb.block k hk⟩
theorem grow_own {r : Option Nat} (h : w.grownBy w1 (some kt)) (h2 : w1.grownBy w2 r) (hr : ∀ k, r = some k → w.heap.size ≤ k) : w.grownBy w2 (some kt) :=
  ⟨h2.os.trans h.os, h2.tape.trans h.tape, h2.output.trans h.output, Nat.le_trans h.size h2.size, fun k hk hn => (h2.block k (Nat.lt_of_lt_of_le hk h.size) (fun e => by have := hr k e.symm; omega)).trans (h.block k hk hn)⟩
theorem grow_new {w w1 : World} {kt k j : Nat} (h : w.grownBy w1 (some kt)) (hk : w.heap.size ≤ k) (u : Value) : w.grownBy (w1.setCell ⟨k, j, none⟩ u) (some kt) :=
  ⟨h.os, h.tape, h.output, by simpa using h.size, fun i hi hn => by
    show (w1.heap.modify k _)[i]? = _
    rw [Array.getElem?_modify, if_neg (by omega)]
    exact h.block i hi hn⟩
theorem box_set {cs : Array Value} {t : TypeId} (h : w.heap[k]? = some (.cells cs t (0, 0))) (j : Nat) (u : Value) : (w.setCell ⟨k, j, none⟩ u).heap[k]? = some (.cells (cs.setIfInBounds j u) t (0, 0)) := by
  have hlt := lt_of_block h
  have h' : w.heap[k] = .cells cs t (0, 0) := by simpa [Array.getElem?_eq_getElem hlt] using h
  show (w.heap.modify k _)[k]? = _
  rw [Array.getElem?_eq_getElem (by simpa using hlt), Array.getElem_modify_self, h']
  rfl
theorem box_off {o : Obj} (h : w.heap[k]? = some o) {j i : Nat} (hj : j ≠ k) (u : Value) : (w.setCell ⟨j, i, none⟩ u).heap[k]? = some o := by
  rw [← h]
  show (w.heap.modify j _)[k]? = _
  rw [Array.getElem?_modify, if_neg hj]
end
theorem size_set (w : World) (a : Addr) (u : Value) : (w.setCell a u).heap.size = w.heap.size := by simp
theorem below_grown {W W' : World} {k B : Nat} (h : W.grownBy W' (some k)) (hk : B ≤ k) (hB : B ≤ W.heap.size) : Below B W W' :=
  ⟨h.os, h.tape, h.output, h.size, fun j hj => h.block j (Nat.lt_of_lt_of_le hj hB) (fun e => by cases e; omega)⟩
theorem results_cell_one {fn : Func} {p : Tmp} {ty : TypeId} (h : fn.results = #[.cell p ty]) (tmps : Array Value) (P : Program) (w : World) :
    (results fn tmps).run P w = ((asAddr (tmps.getD p undef)).run P w).andThen fun a w₁ => (loadVar ty a).run P w₁ := by
  simp only [results, h]
  simp [Sem.run_bind, Result.andThen]
end Go.Proofs.Ytlcnpeodhfdhlaa

/-! Rows of things in memory, each of so many cells: read, taken over, appended to. -/
namespace Go.Proofs.Ytlcnpeodhfdhlaa
open Go.RowKit Go.OpenShut
set_option linter.unusedVariables false

/-- How things of one kind lie in memory. -/
structure Kind (α : Type) where
  enc : α → List Value
  size : Nat
  ty : TypeId
  sl : TypeId
structure Kind.Ok {α : Type} (K : Kind α) (bytes : Nat) : Prop where
  und : Try.prog.underlying K.sl = some (.slice K.ty)
  info : ∃ i z, Try.prog.info? K.ty = some i ∧ i.zero = some z ∧ i.size = K.size ∧ i.bytes = bytes ∧ z.cells.size = K.size
  len : ∀ x, (K.enc x).length = K.size
  pos : 0 < K.size
  one : ∀ x, ∀ u ∈ K.enc x, u.oneCell' = true
  few : bytes ≤ 1000
variable {α : Type} {K : Kind α} {bytes : Nat} {w w' : World}
def Kind.all (K : Kind α) (l : List α) : List Value := l.flatMap K.enc
theorem Kind.Ok.all_len (hK : K.Ok bytes) : ∀ l : List α, (K.all l).length = l.length * K.size
  | [] => by simp [Kind.all]
  | x :: l => by
    have := Kind.Ok.all_len hK l
    unfold Kind.all at *
    rw [List.flatMap_cons, List.length_append, this, hK.len, List.length_cons, Nat.succ_mul, Nat.add_comm]
theorem Kind.all_app (K : Kind α) (a b : List α) : K.all (a ++ b) = K.all a ++ K.all b := by simp [Kind.all]
theorem Kind.Ok.all_one (hK : K.Ok bytes) (l : List α) : ∀ u ∈ K.all l, u.oneCell' = true := by
  intro u hu
  obtain ⟨x, _, hx⟩ := List.mem_flatMap.1 hu
  exact hK.one x u hx
theorem Kind.Ok.all_at (hK : K.Ok bytes) : ∀ (l : List α) (i : Nat) (x : α), l[i]? = some x → ∀ j, j < K.size → (K.all l)[i * K.size + j]? = (K.enc x)[j]?
  | [], i, x, h, j, hj => by cases h
  | y :: l, 0, x, h, j, hj => by
    cases h
    show ((y :: l).flatMap K.enc)[0 * K.size + j]? = _
    rw [List.flatMap_cons, Nat.zero_mul, Nat.zero_add, List.getElem?_append_left (by rw [hK.len]; exact hj)]
  | y :: l, i + 1, x, h, j, hj => by
    have ih := Kind.Ok.all_at hK l i x h j hj
    show ((y :: l).flatMap K.enc)[(i + 1) * K.size + j]? = _
    rw [List.flatMap_cons, List.getElem?_append_right (by rw [hK.len, Nat.succ_mul]; omega), hK.len, show (i + 1) * K.size + j - K.size = i * K.size + j by rw [Nat.succ_mul]; omega]
    exact ih
/-- A slice reads as l. -/
structure RowAt (K : Kind α) (w : World) (ad : Option Addr) (len cap : Nat) (l : List α) : Prop where
  length : l.length = len
  fits : len ≤ cap
  room : ad = none → cap = 0
  cells : len = 0 ∨ ∃ b off, ad = some ⟨b, off, none⟩ ∧ b < w.heap.size ∧ ∀ i x, l[i]? = some x → ∀ j u, (K.enc x)[j]? = some u → w.cell? ⟨b, off + (i * K.size + j), none⟩ = some u
theorem RowAt.keep {ad : Option Addr} {len cap : Nat} {l : List α} (h : RowAt K w ad len cap l) (hb : Below w.heap.size w w') : RowAt K w' ad len cap l := by
  refine ⟨h.length, h.fits, h.room, ?_⟩
  rcases h.cells with h0 | ⟨b, off, e, hlt, hc⟩
  · exact .inl h0
  · refine .inr ⟨b, off, e, Nat.lt_of_lt_of_le hlt hb.size, fun i x hi j u hj => ?_⟩
    rw [hb.cell (p := ⟨b, off + (i * K.size + j), none⟩) hlt]
    exact hc i x hi j u hj
/-- Every block but one is as it was, and the row does not lie in that one. -/
theorem RowAt.grown {ad : Option Addr} {len cap : Nat} {l : List α} {r : Option Nat} (h : RowAt K w ad len cap l) (hg : w.grownBy w' r) (hr : ∀ a, ad = some a → some a.block ≠ r) : RowAt K w' ad len cap l := by
  refine ⟨h.length, h.fits, h.room, ?_⟩
  rcases h.cells with h0 | ⟨b, off, e, hlt, hc⟩
  · exact .inl h0
  · exact .inr ⟨b, off, e, Nat.lt_of_lt_of_le hlt hg.size, fun i x hi j u hj => hg.cell (hc i x hi j u hj) (show some b ≠ r from hr _ e)⟩
theorem rowAt_nil (w : World) : RowAt K w none 0 0 ([] : List α) := ⟨rfl, Nat.le_refl _, fun _ => rfl, .inl rfl⟩
theorem RowAt.zero (w : World) {ad : Option Addr} {cap : Nat} (h : ad = none → cap = 0) : RowAt K w ad 0 cap ([] : List α) := ⟨rfl, Nat.zero_le _, h, .inl rfl⟩
/-- The thing at i. -/
theorem RowAt.get {ad : Option Addr} {len cap : Nat} {l : List α} (h : RowAt K w ad len cap l) {i : Nat} (hi : i < len) :
    ∃ b off x, ad = some ⟨b, off, none⟩ ∧ b < w.heap.size ∧ l[i]? = some x ∧ ∀ j u, (K.enc x)[j]? = some u → w.cell? ⟨b, off + (i * K.size + j), none⟩ = some u := by
  have hl := h.length
  rcases h.cells with h0 | ⟨b, off, e, hlt, hc⟩
  · omega
  · have hx : l[i]? = some (l[i]'(by omega)) := List.getElem?_eq_getElem (by omega)
    exact ⟨b, off, _, e, hlt, hx, hc i _ hx⟩
theorem RowAt.news (hK : K.Ok bytes) {b off len cap : Nat} {l : List α} (h : RowAt K w (some ⟨b, off, none⟩) len cap l) : ∀ j u, (K.all l)[j]? = some u → w.cell? ((⟨b, off, none⟩ : Addr).add j) = some u := by
  intro j u hj
  have hjl : j < l.length * K.size := by
    have := (List.getElem?_eq_some_iff.1 hj).1
    rwa [hK.all_len] at this
  have hp := hK.pos
  have hil : j / K.size < l.length := Nat.div_lt_of_lt_mul (by rwa [Nat.mul_comm])
  have hx : l[j / K.size]? = some (l[j / K.size]'hil) := List.getElem?_eq_getElem hil
  have hm := Nat.mod_lt j hp
  have he : j / K.size * K.size + j % K.size = j := by rw [Nat.mul_comm]; exact Nat.div_add_mod j K.size
  have h1 := hK.all_at l _ _ hx _ hm
  rw [he] at h1
  rw [add_at]
  rcases h.cells with h0 | ⟨b', off', e, _, hc⟩
  · have hl0 : l.length = 0 := by have := h.length; omega
    exact absurd hil (by rw [hl0]; exact Nat.not_lt_zero _)
  · cases e
    have h2 := hc _ _ hx _ u (by rw [← h1]; exact hj)
    rwa [he] at h2
/-- A row that is the call's own. -/
def OwnRow (K : Kind α) (w : World) (base : Nat) (v : Value) (l : List α) : Prop := w.ownsRow base K.ty K.size v l.length (K.all l)
theorem ownRow_nil (K : Kind α) (w : World) (base : Nat) : OwnRow K w base (.slice none 0 0) [] := World.ownsRow_nil w base K.ty K.size
theorem OwnRow.low {base base' : Nat} {v : Value} {l : List α} (h : OwnRow K w base v l) (hb : base' ≤ base) : OwnRow K w base' v l := by
  refine ⟨h.1, ?_⟩
  rcases h.2 with h0 | ⟨g, cap, cur, h1, h2, h3⟩
  · exact .inl h0
  · exact .inr ⟨g, cap, cur, h1, Nat.le_trans hb h2, h3⟩
theorem OwnRow.on {base : Nat} {v : Value} {l : List α} (h : OwnRow K w base v l) (hb : Below w.heap.size w w') : OwnRow K w' base v l := owns_keep h hb (Nat.le_refl _)
theorem OwnRow.alloc {base : Nat} {v : Value} {l : List α} (h : OwnRow K w base v l) (o : Obj) : OwnRow K (w.alloc o) base v l := World.ownsRow.alloc h o
theorem OwnRow.lt {base : Nat} {v : Value} {l : List α} (h : OwnRow K w base v l) : ∀ k, v.ownBlock = some k → base ≤ k ∧ k < w.heap.size := World.ownsRow.lt h
theorem OwnRow.grown {base : Nat} {v : Value} {l : List α} {r : Option Nat} (h : OwnRow K w base v l) (hg : w.grownBy w' r) (hr : ∀ k, v.ownBlock = some k → some k ≠ r) : OwnRow K w' base v l := by
  refine World.ownsRow.kept h hg ?_
  cases hv : v.ownBlock with
  | none => exact .inl rfl
  | some k => exact .inr (hr k hv)
theorem OwnRow.at (hK : K.Ok bytes) {base : Nat} {v : Value} {l : List α} (h : OwnRow K w base v l) : ∃ ad cap, v = .slice ad l.length cap ∧ RowAt K w ad l.length cap l ∧ (∀ a, ad = some a → base ≤ a.block ∧ a.block < w.heap.size) := by
  rcases h.2 with ⟨rfl, h0⟩ | ⟨g, cap, cur, rfl, hb, hh, hc, _, hs, ht⟩
  · refine ⟨none, 0, by rw [h0], ?_, fun a ha => by cases ha⟩
    obtain rfl := List.eq_nil_of_length_eq_zero h0
    exact rowAt_nil w
  · refine ⟨_, cap, rfl, ⟨rfl, hc, (fun e => by cases e), .inr ⟨g, 0, rfl, (Array.getElem?_eq_some_iff.1 hh).1, fun i x hi j u hj => ?_⟩⟩, fun a ha => by cases ha; exact ⟨hb, (Array.getElem?_eq_some_iff.1 hh).1⟩⟩
    have hjs : j < K.size := by have := (List.getElem?_eq_some_iff.1 hj).1; rwa [hK.len] at this
    have h1 := hK.all_at l i x hi j hjs
    rw [hj, ← ht, List.getElem?_take] at h1
    rw [Nat.zero_add, cell_of_row w g _ _ _ _ hh]
    split at h1
    · simpa using h1
    · cases h1
/-- A block that was laid whole. -/
theorem ownRow_lit (hK : K.Ok bytes) (w : World) (base : Nat) (l : List α) (hb : base ≤ w.heap.size) (hm : l.length ≤ 1000000) (cs : Array Value) (hcs : cs = (K.all l).toArray) (n : Nat) (hn : l.length = n) : OwnRow K (w.alloc (.cells cs K.ty)) base (.slice (some ⟨w.heap.size, 0, none⟩) n n) l := by
  subst hcs hn
  have := World.ownsRow_lit (e := K.ty) (size := K.size) (base := base) w (K.all l).toArray l.length hb (by unfold maxLen; omega) (by rw [List.size_toArray, hK.all_len])
  unfold OwnRow
  simpa using this
theorem rowAt_lit (hK : K.Ok bytes) (w : World) (l : List α) (hm : l.length ≤ 1000000) (cs : Array Value) (hcs : cs = (K.all l).toArray) (n : Nat) (hn : l.length = n) : RowAt K (w.alloc (.cells cs K.ty)) (some ⟨w.heap.size, 0, none⟩) n n l := by
  obtain ⟨ad, cap, e, h, _⟩ := (ownRow_lit hK w 0 l (Nat.zero_le _) hm cs hcs n hn).at hK
  cases e
  exact h
theorem append_block (hK : K.Ok bytes) (w w' : World) (base : Nat) (v v' : Value) (l m : List α) (ty : Nat) (hown : OwnRow K w base v l) (a : Addr) (cap : Nat) (hnews : ∀ j u, (K.all m)[j]? = some u → w.cell? (a.add j) = some u) (hn : (l.length + m.length) * bytes ≤ 140737488355328) (hn2 : l.length + m.length ≤ 140737488355328)
    (hrun : (Builtin.append_ #[K.sl, K.sl] ty #[v, .slice (some a) m.length cap]).run Try.prog w = .ok v' w') : ∀ k, v'.ownBlock = some k → v.ownBlock = some k ∨ k = w.heap.size := by
  obtain ⟨i, z, hi, hz, hs, hby, hzs⟩ := hK.info
  have hu := hK.und
  have hml := hK.all_len m
  rw [← hs] at hml
  intro k hk
  rcases hown.2 with ⟨rfl, h0⟩ | ⟨g, cp, cur, rfl, hbg, hg, hnc, hcm, hcs, htake⟩
  · by_cases hm : m.length = 0
    · have : m = [] := List.eq_nil_of_length_eq_zero hm
      subst this
      have hrun2 : (Builtin.append_ #[K.sl, K.sl] ty #[.slice none 0 0, .slice (some a) 0 cap]).run Try.prog w = .ok (.slice none 0 0) w := by
        simp [Builtin.append_, run_underlying hu, sizeOf, typeInfo, hi, Builtin.lenOf, Builtin.firstCells, loadCells, loadCellsFrom]
      rw [List.length_nil, hrun2] at hrun
      injection hrun with e1 e2
      subst e1
      cases hk
    · rw [run_append_nil (P := Try.prog) w K.sl ty K.ty i z hu hi hz a m.length cap (K.all m) hml hnews (by omega) (by omega) (by rw [hby]; have : m.length * bytes ≤ (l.length + m.length) * bytes := Nat.mul_le_mul_right _ (by omega); omega)] at hrun
      injection hrun with e1 e2
      subst e1
      cases hk
      exact .inr rfl
  · by_cases hroom : l.length + m.length ≤ cp
    · rw [run_append_room (P := Try.prog) w K.sl ty K.ty i hu hi g l.length cp cur hg a m.length cap (K.all m) hml hnews (hK.all_one m) hroom (by rw [hml, hcs, ← hs, ← Nat.add_mul]; exact Nat.mul_le_mul_right _ hroom)] at hrun
      injection hrun with e1 e2
      subst e1
      exact .inl hk
    · have hlo : (K.all l).length = l.length * i.size := by rw [hs]; exact hK.all_len l
      rw [run_append_grow (P := Try.prog) w K.sl ty K.ty i z hu hi hz ⟨g, 0, none⟩ l.length cp (K.all l) hlo (World.ownsRow.cells hown (g := g) rfl) a m.length cap (K.all m) hml hnews (by omega) (by omega) (growslice_fits (by omega) (by rw [hby]; exact hn))] at hrun
      injection hrun with e1 e2
      subst e1
      cases hk
      exact .inr rfl
/-- append(v, m...), v the call's own, m any row, nil too. -/
theorem run_row_append (hK : K.Ok bytes) (w : World) (base : Nat) (v : Value) (l m : List α) (ty : Nat) (hown : OwnRow K w base v l) (ad : Option Addr) (n cap : Nat) (hr : RowAt K w ad n cap m) (hn : (l.length + n) * bytes ≤ 140737488355328) (hn2 : l.length + n ≤ 140737488355328) (hbase : base ≤ w.heap.size) :
    ∃ v' w', (Builtin.append_ #[K.sl, K.sl] ty #[v, .slice ad n cap]).run Try.prog w = .ok v' w' ∧ OwnRow K w' base v' (l ++ m) ∧ w.grownBy w' v.ownBlock ∧ (v ≠ .slice none 0 0 → v' ≠ .slice none 0 0) ∧ (∀ k, v'.ownBlock = some k → v.ownBlock = some k ∨ w.heap.size ≤ k) := by
  obtain ⟨i, z, hi, hz, hs, hby, hzs⟩ := hK.info
  obtain rfl := hr.length
  have hu := hK.und
  rcases ad with _ | ⟨b, off, x⟩
  · have hc := hr.room rfl
    have hf := hr.fits
    obtain rfl : m = [] := List.eq_nil_of_length_eq_zero (by omega)
    subst hc
    refine ⟨v, w, ?_, by rw [List.append_nil]; exact hown, ⟨rfl, rfl, rfl, Nat.le_refl _, fun _ _ _ => rfl⟩, fun h => h, fun k hk => .inl hk⟩
    exact run_append_owned_none (P := Try.prog) (w := w) base K.sl ty K.ty i K.size hu hi v _ _ hown
  · have hx : x = none ∨ m.length = 0 := by
      rcases hr.cells with h0 | ⟨_, _, e, _⟩
      · exact .inr h0
      · cases e; exact .inl rfl
    have hnews : ∀ j u, (K.all m)[j]? = some u → w.cell? ((⟨b, off, x⟩ : Addr).add j) = some u := by
      intro j u hj
      rcases hx with rfl | h0
      · exact hr.news hK j u hj
      · obtain rfl := List.eq_nil_of_length_eq_zero h0
        simp [Kind.all] at hj
    obtain ⟨v', w', hrun, h2, h3, h4⟩ := run_append_own (P := Try.prog) w base K.sl ty K.ty i z K.size bytes hu hi hz hs hby hzs hK.pos v l.length (K.all l) hown ⟨b, off, x⟩ m.length cap (K.all m) (hK.all_len m) hnews (hK.all_one m) (by unfold maxLen; omega) hn hbase
    refine ⟨v', w', hrun, ?_, h3, fun hne h => hne (h4.1 h).1, ?_⟩
    · unfold OwnRow
      rw [K.all_app, List.length_append]
      exact h2
    · intro k hk
      rcases append_block hK w w' base v v' l m ty hown _ cap hnews hn hn2 hrun k hk with h | h
      · exact .inl h
      · exact .inr (by omega)
/-- What an append leaves. -/
def Appended (K : Kind α) (w : World) (base : Nat) (v : Value) (l : List α) (v' : Value) (w' : World) : Prop :=
  OwnRow K w' base v' l ∧ w.grownBy w' v.ownBlock ∧ (v ≠ .slice none 0 0 → v' ≠ .slice none 0 0) ∧ (∀ k, v'.ownBlock = some k → v.ownBlock = some k ∨ w.heap.size ≤ k)
/-- The operation in a plain list of operations, behind a guard that says yes or with none. -/
theorem list_row {w : World} {ops : Array Oper} {rest : List Oper} {o : Oper} {a : Act} {Q : Exit → Act → World → Prop} (hw : Region.wanted o (yielded ops a.tmps) = true) (hK : K.Ok bytes) (s x : Operand)
    (ho : o.op = .call { callee := .builtin .append, args := #[s, x], argTypes := #[K.sl, K.sl] })
    (base : Nat) (l m : List α) (v : Value) (hs : a.eval s = v) (hown : OwnRow K w base v l) (hbase : base ≤ w.heap.size)
    (ad : Option Addr) (n cap : Nat) (hx : a.eval x = .slice ad n cap) (hr : RowAt K w ad n cap m) (hn : l.length + n ≤ 100000000000)
    (h : ∀ v' w', Appended K w base v (l ++ m) v' w' → wpList Try.prog ops Q rest (a.put o.dst v') w') :
    wpList Try.prog ops Q (o :: rest) a w := by
  refine BigFrame.wpList_want hw fun C hC => ?_
  have hf := hK.few
  obtain ⟨v', w', hrun, h2⟩ := run_row_append hK w base v l m o.type hown ad n cap hr (Nat.le_trans (Nat.mul_le_mul hn hf) (by omega)) (by omega) hbase
  unfold Oper.wp execOp
  simp only [ho, resolve, invoke, builtin, Sem.run_bind, Sem.run_pure, Result.andThen_ok, List.map_toArray, List.map_cons, List.map_nil, hs, hx, hrun]
  exact hC _ _ (h v' w' h2)
/-- The operation in a region that draws its order. -/
theorem held_row {w : World} {ops : Array Oper} {o : Oper} {a : Act} {C : Act → World → Prop} {Q : Exit → Act → World → Prop} {Z : Prop} [Decidable (Region.wanted o (yielded ops a.tmps) = true)] (hw : Region.wanted o (yielded ops a.tmps) = true) (hK : K.Ok bytes) (s x : Operand)
    (ho : o.op = .call { callee := .builtin .append, args := #[s, x], argTypes := #[K.sl, K.sl] })
    (base : Nat) (l m : List α) (v : Value) (hs : a.eval s = v) (hown : OwnRow K w base v l) (hbase : base ≤ w.heap.size)
    (ad : Option Addr) (n cap : Nat) (hx : a.eval x = .slice ad n cap) (hr : RowAt K w ad n cap m) (hn : l.length + n ≤ 100000000000)
    (h : ∀ v' w', Appended K w base v (l ++ m) v' w' → C (a.put o.dst v') w') :
    if Region.wanted o (yielded ops a.tmps) = true then Oper.wp Try.prog o a w C Q else Z := by
  rw [if_pos hw]
  have hf := hK.few
  obtain ⟨v', w', hrun, h2⟩ := run_row_append hK w base v l m o.type hown ad n cap hr (Nat.le_trans (Nat.mul_le_mul hn hf) (by omega)) (by omega) hbase
  unfold Oper.wp execOp
  simp only [ho, resolve, invoke, builtin, Sem.run_bind, Sem.run_pure, Result.andThen_ok, List.map_toArray, List.map_cons, List.map_nil, hs, hx, hrun]
  exact h v' w' h2
end Go.Proofs.Ytlcnpeodhfdhlaa

/-! Kinds of things in memory: bytes. -/
namespace Go.Proofs.Ytlcnpeodhfdhlaa
open Go.RowKit
set_option linter.unusedVariables false

def byteK : Kind Nat := ⟨fun n => [.int .u8 (n : Int)], 1, 5, 26⟩
theorem byteK_ok : byteK.Ok 1 where
  und := Try.underlying26
  info := by
    obtain ⟨i, hi, hz, hs, hb⟩ := info_parts info5
    exact ⟨i, _, hi, hz, hs, hb, rfl⟩
  len := fun _ => rfl
  pos := by decide
  one := fun r u hu => by
    obtain rfl := List.mem_singleton.1 hu
    rfl
  few := by decide
theorem byteK_all : ∀ l : List Nat, byteK.all l = vals l
  | [] => rfl
  | x :: l => by
    have := byteK_all l
    unfold Kind.all vals at *
    rw [List.flatMap_cons, this]
    rfl
theorem own_bytes {w : World} {base : Nat} {v : Value} {l : List Nat} : OwnRow byteK w base v l ↔ w.ownsRow base 5 1 v l.length (vals l) := by
  unfold OwnRow
  rw [byteK_all]
  exact Iff.rfl
theorem row_bytes {w : World} {ad : Option Addr} {len cap : Nat} {l : List Nat} (h : Row w ad len cap l) : RowAt byteK w ad len cap l := by
  refine ⟨h.1.length, h.1.fits, h.2, ?_⟩
  have hl := h.1.length
  rcases h.1.cells with h0 | ⟨b, off, e, hc⟩
  · exact .inl h0
  · by_cases h0 : len = 0
    · exact .inl h0
    · refine .inr ⟨b, off, e, World.block_lt_of_cell? w _ (hc 0 (by omega)), fun i x hi j u hj => ?_⟩
      have hil : i < len := by have := (List.getElem?_eq_some_iff.1 hi).1; omega
      rcases j with _ | j
      · cases hj
        have := hc i hil
        rw [List.getD_eq_getElem?_getD, hi] at this
        show w.cell? ⟨b, off + (i * 1 + 0), none⟩ = _
        rw [Nat.mul_one, Nat.add_zero]
        exact this
      · simp [byteK] at hj
/-- 'x[k] ^= ..'. -/
theorem own_turned {w : World} {base g n cap k : Nat} {bs : List Nat} {z : Int} {y : Nat} (h : w.ownsRow base 5 1 (.slice (some ⟨g, 0, none⟩) n cap) n (vals bs)) (hz : z = (y : Int)) : (w.setCell ⟨g, k, none⟩ (.int .u8 z)).ownsRow base 5 1 (.slice (some ⟨g, 0, none⟩) n cap) n (vals (bs.set k y)) := by
  subst hz
  have := (World.ownsRow.stored h k (.int .u8 (y : Int))).1
  have e : (vals bs).set k (.int .u8 (y : Int)) = vals (bs.set k y) := by unfold vals; rw [List.map_set]; rfl
  rwa [e] at this
theorem all_set {bs : List Nat} (h : AllB bs) (k y : Nat) (hy : y < 256) : AllB (bs.set k y) := by
  intro x hx
  rcases List.mem_or_eq_of_mem_set hx with h1 | rfl
  · exact h x h1
  · exact hy
theorem own_byt {w : World} {base n : Nat} {v : Value} {l : List Nat} (h : OwnRow byteK w base v l) (ha : AllB l) (hn : l.length = n) : ∃ ad cap, v = .slice ad n cap ∧ Row w ad n cap l := by
  have h1 := own_bytes.1 h
  rw [hn] at h1
  obtain ⟨ad', cap', e, h2⟩ := owns_any h1 ha
  exact ⟨ad', cap', e, h2⟩
theorem byte_get {w : World} {ad : Option Addr} {len cap : Nat} {l : List Nat} (h : RowAt byteK w ad len cap l) {i : Nat} (hi : i < len) : ∃ b off k, ad = some ⟨b, off, none⟩ ∧ b < w.heap.size ∧ l[i]? = some k ∧ w.cell? ⟨b, off + i, none⟩ = some (.int .u8 (k : Int)) := by
  obtain ⟨b, off, k, e, hb, hk, hc⟩ := h.get hi
  have := hc 0 _ rfl
  rw [show i * byteK.size + 0 = i from Nat.mul_one i] at this
  exact ⟨b, off, k, e, hb, hk, this⟩
theorem byt_of {w : World} {ad : Option Addr} {len cap : Nat} {l : List Nat} (h : RowAt byteK w ad len cap l) (ha : AllB l) : Byt w ad len cap l := by
  refine ⟨h.length, h.fits, ha, ?_⟩
  rcases Nat.eq_zero_or_pos len with h0 | h0
  · exact .inl h0
  · obtain ⟨b, off, k, rfl, hb, hk, hc⟩ := byte_get h h0
    refine .inr ⟨b, off, rfl, fun i hi => ?_⟩
    obtain ⟨b2, off2, k2, e, _, hk2, hc2⟩ := byte_get h hi
    cases e
    rw [hc2, List.getD_eq_getElem?_getD, hk2]
    rfl
end Go.Proofs.Ytlcnpeodhfdhlaa

/-! Rows of things: 'l[:k]', 'l[k:]'; a row where another block is written; what one block's writing leaves. -/
namespace Go.Proofs.Ytlcnpeodhfdhlaa
open Go.RowKit
set_option linter.unusedVariables false

section
variable {α : Type} {K : Kind α} {bytes : Nat} {w w' : World}
theorem add_block (a : Addr) (n : Nat) : (a.add n).block = a.block := by
  unfold Addr.add
  split <;> rfl
theorem Kind.Ok.elem (hK : K.Ok bytes) : Try.prog.elem K.sl = K.ty := by unfold Program.elem; rw [hK.und]
theorem Kind.Ok.sizeOf (hK : K.Ok bytes) (W : World) : (sizeOf (Try.prog.elem K.sl)).run Try.prog W = .ok K.size W := by
  obtain ⟨i, z, hi, _, hs, _, _⟩ := hK.info
  rw [hK.elem]
  simp [Go.sizeOf, typeInfo, hi, hs]
theorem row_upto (hK : K.Ok bytes) (ad : Option Addr) (len cap h : Nat) (hc : h ≤ cap) (W : World) :
    (Instr.slice K.sl (.slice ad len cap) none (some (.int .i64 (h : Int))) none).run Try.prog W = .ok (.slice ad h cap) W := by
  rw [run_slice_h _ _ _ _ _ (by rw [hK.elem]; exact hK.und) _ _ (by omega) (by omega), hK.sizeOf]
  simp only [Result.andThen, sliced, Int.toNat_natCast]
  rcases ad with _ | a
  · simp
  · simp [Addr.add]
theorem RowAt.take {ad : Option Addr} {len cap : Nat} {l : List α} (h : RowAt K w ad len cap l) (k : Nat) (hk : k ≤ len) : RowAt K w ad k cap (l.take k) := by
  have hl := h.length
  have hf := h.fits
  refine ⟨by rw [List.length_take]; omega, by omega, h.room, ?_⟩
  rcases h.cells with h0 | ⟨b, off, e, hlt, hc⟩
  · exact .inl (by omega)
  · refine .inr ⟨b, off, e, hlt, fun i x hi j u hj => hc i x ?_ j u hj⟩
    rw [List.getElem?_take] at hi
    split at hi
    · exact hi
    · cases hi
theorem row_from (hK : K.Ok bytes) {ad : Option Addr} {len cap : Nat} {l : List α} (h : RowAt K w ad len cap l) (k : Nat) (hk : k ≤ len) :
    ∃ ad' cap', (∀ W, (Instr.slice K.sl (.slice ad len cap) (some (.int .i64 (k : Int))) none none).run Try.prog W = .ok (.slice ad' (len - k) cap') W) ∧ RowAt K w ad' (len - k) cap' (l.drop k) ∧ (∀ a, ad' = some a → ∃ a0, ad = some a0 ∧ a.block = a0.block) := by
  have hl := h.length
  have hf := h.fits
  rcases ad with _ | ⟨b, off, x⟩
  · have hc := h.room rfl
    have hk0 : k = 0 := by omega
    have hl0 : len = 0 := by omega
    subst hk0 hl0 hc
    refine ⟨none, 0, fun W => ?_, ?_, fun a ha => by cases ha⟩
    · rw [run_slice_l _ _ _ _ _ (by rw [hK.elem]; exact hK.und) _ _ (by omega) (by omega), hK.sizeOf]
      simp [Result.andThen, sliced]
    · obtain rfl := List.eq_nil_of_length_eq_zero hl
      exact rowAt_nil w
  · refine ⟨some ((⟨b, off, x⟩ : Addr).add (if cap = k then 0 else k * K.size)), cap - k, fun W => ?_, ?_, fun a ha => ⟨_, rfl, by cases ha; exact add_block _ _⟩⟩
    · rw [run_slice_l _ _ _ _ _ (by rw [hK.elem]; exact hK.und) _ _ (by omega) (by omega), hK.sizeOf]
      simp only [Result.andThen, sliced, Int.toNat_natCast]
      by_cases h1 : cap = k
      · simp [h1, Addr.add]
      · simp [h1]
    · refine ⟨by rw [List.length_drop]; omega, by omega, (fun e => by cases e), ?_⟩
      by_cases h0 : len - k = 0
      · exact .inl h0
      · rcases h.cells with h1 | ⟨b', off', e, hlt, hc⟩
        · omega
        · cases e
          rw [if_neg (by omega), add_at]
          refine .inr ⟨b, off + k * K.size, rfl, hlt, fun i x hi j u hj => ?_⟩
          rw [List.getElem?_drop] at hi
          have := hc (k + i) x hi j u hj
          rw [Nat.add_mul] at this
          rw [show off + k * K.size + (i * K.size + j) = off + (k * K.size + i * K.size + j) by omega]
          exact this
theorem grow_one (w : World) (k j : Nat) (u : Value) : w.grownBy (w.setCell ⟨k, j, none⟩ u) (some k) := grow_set (grow_refl w (some k)) j u
theorem OwnRow.off {base k : Nat} {v : Value} {l : List α} (h : OwnRow K w base v l) (hk : k < base) (j : Nat) (u : Value) : OwnRow K (w.setCell ⟨k, j, none⟩ u) base v l :=
  h.grown (grow_one w k j u) fun q hq e => by have := (h.lt q hq).1; cases e; omega
theorem RowAt.off {ad : Option Addr} {len cap k : Nat} {l : List α} (h : RowAt K w ad len cap l) (hk : ∀ a, ad = some a → a.block ≠ k) (j : Nat) (u : Value) : RowAt K (w.setCell ⟨k, j, none⟩ u) ad len cap l :=
  h.grown (grow_one w k j u) fun a ha e => hk a ha (by cases e; rfl)
theorem RowAt.lt {ad : Option Addr} {len cap : Nat} {l : List α} (h : RowAt K w ad len cap l) (h0 : 0 < len) : ∀ a, ad = some a → a.block < w.heap.size := by
  intro a ha
  rcases h.cells with h1 | ⟨b, off, e, hlt, _⟩
  · omega
  · rw [ha] at e; cases e; exact hlt
/-- What is written into a block that is not older than all leaves the elder ones. -/
theorem OwnRow.row (hK : K.Ok bytes) {base n : Nat} {v : Value} {l : List α} (h : OwnRow K w base v l) (hn : l.length = n) : ∃ ad cap, v = .slice ad n cap ∧ RowAt K w ad n cap l ∧ (∀ a, ad = some a → base ≤ a.block ∧ a.block < w.heap.size) := by
  subst hn
  exact h.at hK
end
end Go.Proofs.Ytlcnpeodhfdhlaa

/-! What a call turns: nothing that was there and is not of its own blocks. -/
namespace Go.Proofs.Ytlcnpeodhfdhlaa
open Go.RowKit
set_option linter.unusedVariables false

/-- Nothing that was there and is not of F has turned. -/
structure Kept (w w' : World) (F : Nat → Prop) : Prop where
  os : w'.os = w.os
  tape : w'.tape = w.tape
  output : w'.output = w.output
  size : w.heap.size ≤ w'.heap.size
  block : ∀ j, j < w.heap.size → ¬ F j → w'.heap[j]? = w.heap[j]?
section
variable {w w1 w2 : World} {F G : Nat → Prop}
theorem Kept.refl (w : World) (F : Nat → Prop) : Kept w w F := ⟨rfl, rfl, rfl, Nat.le_refl _, fun _ _ _ => rfl⟩
theorem Kept.trans (h : Kept w w1 F) (h2 : Kept w1 w2 G) (hg : ∀ i, G i → F i ∨ w.heap.size ≤ i) : Kept w w2 F :=
  ⟨h2.os.trans h.os, h2.tape.trans h.tape, h2.output.trans h.output, Nat.le_trans h.size h2.size, fun j hj hn => (h2.block j (Nat.lt_of_lt_of_le hj h.size) fun e => by
    rcases hg j e with h3 | h3
    · exact hn h3
    · omega).trans (h.block j hj hn)⟩
theorem Kept.of_grown {k : Nat} (h : w.grownBy w1 (some k)) (hk : F k ∨ w.heap.size ≤ k) : Kept w w1 F := ⟨h.os, h.tape, h.output, h.size, fun j hj hn => h.block j hj fun e => by
  cases e
  rcases hk with h1 | h1
  · exact hn h1
  · omega⟩
theorem Kept.of_own {v : Value} (h : w.grownBy w1 v.ownBlock) (hv : ∀ k, v.ownBlock = some k → F k ∨ w.heap.size ≤ k) : Kept w w1 F := ⟨h.os, h.tape, h.output, h.size, fun j hj hn => h.block j hj fun e => by
  rcases hv j e.symm with h1 | h1
  · exact hn h1
  · omega⟩
theorem Kept.of_below (h : Below w.heap.size w w1) : Kept w w1 F := ⟨h.os, h.tape, h.output, h.size, fun j hj _ => h.block j hj⟩
theorem Kept.more (h : Kept w w1 F) (hf : ∀ i, F i → G i) : Kept w w1 G := ⟨h.os, h.tape, h.output, h.size, fun j hj hn => h.block j hj fun e => hn (hf j e)⟩
theorem Kept.below {B : Nat} (h : Kept w w1 F) (hf : ∀ i, F i → B ≤ i) (hB : B ≤ w.heap.size) : Below B w w1 := ⟨h.os, h.tape, h.output, h.size, fun j hj => h.block j (by omega) fun e => by have := hf j e; omega⟩
theorem Kept.row {α : Type} {K : Kind α} {ad : Option Addr} {len cap : Nat} {l : List α} (hk : Kept w w1 F) (hr : RowAt K w ad len cap l) (ha : ∀ a, ad = some a → ¬ F a.block) : RowAt K w1 ad len cap l := by
  refine ⟨hr.length, hr.fits, hr.room, ?_⟩
  rcases hr.cells with h0 | ⟨b, off, e, hlt, hc⟩
  · exact .inl h0
  · refine .inr ⟨b, off, e, Nat.lt_of_lt_of_le hlt hk.size, fun i x hi j u hj => ?_⟩
    have h1 := hc i x hi j u hj
    have e1 := hk.block b hlt (ha _ e)
    unfold World.cell? at h1 ⊢
    simp only [e1]
    exact h1
end
theorem OwnRow.same {α : Type} {K : Kind α} {w w' : World} {base : Nat} {v : Value} {l : List α} (h : OwnRow K w base v l) (hs : ∀ q, v.ownBlock = some q → w'.heap[q]? = w.heap[q]?) : OwnRow K w' base v l := by
  refine ⟨h.1, ?_⟩
  rcases h.2 with h0 | ⟨g, cap, cur, h1, h2, h3, h4⟩
  · exact .inl h0
  · exact .inr ⟨g, cap, cur, h1, h2, (hs g (by rw [h1]; rfl)).trans h3, h4⟩
end Go.Proofs.Ytlcnpeodhfdhlaa

/-! A row that is appended to where there is no room: 'append(l[:k:k], m...)'. -/
namespace Go.Proofs.Ytlcnpeodhfdhlaa
open Go.RowKit
set_option linter.unusedVariables false

section
variable {α : Type} {K : Kind α} {bytes : Nat} {w w' : World}
theorem row_full (hK : K.Ok bytes) (ad : Option Addr) (len cap h : Nat) (hc : h ≤ cap) (W : World) :
    (Instr.slice K.sl (.slice ad len cap) none (some (.int .i64 (h : Int))) (some (.int .i64 (h : Int)))).run Try.prog W = .ok (.slice ad h h) W := by
  rw [run_slice_hm _ _ _ _ _ (by rw [hK.elem]; exact hK.und) _ _ _ _ (by omega) (by omega) (by omega), hK.sizeOf]
  simp only [Result.andThen, sliced, Int.toNat_natCast]
  rcases ad with _ | a
  · simp
  · simp [Addr.add]
theorem RowAt.full {ad : Option Addr} {len cap : Nat} {l : List α} (h : RowAt K w ad len cap l) (k : Nat) (hk : k ≤ len) : RowAt K w ad k k (l.take k) := by
  have h1 := h.take k hk
  exact ⟨h1.length, Nat.le_refl _, fun e => by have := h.room e; have := h.fits; omega, h1.cells⟩
/-- What is appended where there is no room comes to lie in new memory. -/
theorem run_full (hK : K.Ok bytes) (w : World) (l m : List α) (ty : Nat) (ad rad : Option Addr) (k n rc : Nat) (h0 : RowAt K w ad k k l) (hr : RowAt K w rad n rc m) (hn : (k + n) * bytes ≤ 140737488355328) (hn2 : k + n ≤ 140737488355328) :
    ∃ ad' cap' w', (Builtin.append_ #[K.sl, K.sl] ty #[.slice ad k k, .slice rad n rc]).run Try.prog w = .ok (.slice ad' (k + n) cap') w' ∧ RowAt K w' ad' (k + n) cap' (l ++ m) ∧ Below w.heap.size w w' := by
  obtain ⟨i, z, hi, hz, hs, hby, hzs⟩ := hK.info
  have hu := hK.und
  rcases ad with _ | a
  · have hk : k = 0 := h0.room rfl
    subst hk
    obtain rfl : l = [] := List.eq_nil_of_length_eq_zero h0.length
    obtain ⟨v', w', hrun, ho, hg, _, hk2⟩ := run_row_append hK w w.heap.size (.slice none 0 0) [] m ty (ownRow_nil K w _) rad n rc hr (by simpa using hn) (by simpa using hn2) (Nat.le_refl _)
    rw [List.nil_append] at ho
    obtain ⟨ad', cap', e, h3, _⟩ := ho.at hK
    rw [e] at hrun
    rw [Nat.zero_add, List.nil_append]
    rw [hr.length] at h3 hrun
    exact ⟨ad', cap', w', hrun, h3, (Below.refl _ w).grown hg (Nat.le_refl _) fun q hq => by cases hq⟩
  · by_cases hn0 : n = 0
    · subst hn0
      obtain rfl : m = [] := List.eq_nil_of_length_eq_zero hr.length
      refine ⟨some a, k, w, ?_, by rw [List.append_nil]; exact h0, Below.refl _ w⟩
      rcases rad with _ | r
      · simp [Builtin.append_, run_underlying hu, sizeOf, typeInfo, hi, Builtin.lenOf, Builtin.firstCells, loadCells, storeCells]
      · simp [Builtin.append_, run_underlying hu, sizeOf, typeInfo, hi, Builtin.lenOf, Builtin.firstCells, loadCells, loadCellsFrom, storeCells]
    · obtain ⟨b, off, e, hlt, hc⟩ : ∃ b off, rad = some ⟨b, off, none⟩ ∧ b < w.heap.size ∧ ∀ i x, m[i]? = some x → ∀ j u, (K.enc x)[j]? = some u → w.cell? ⟨b, off + (i * K.size + j), none⟩ = some u := by
        rcases hr.cells with h1 | h1
        · exact absurd h1 hn0
        · exact h1
      subst e
      have holds : ∀ j u, (K.all l)[j]? = some u → w.cell? (a.add j) = some u := by
        intro j u hj
        rcases h0.cells with h1 | ⟨b', off', e', _, _⟩
        · obtain rfl : l = [] := List.eq_nil_of_length_eq_zero (h0.length.trans h1)
          simp [Kind.all] at hj
        · cases e'
          exact h0.news hK j u hj
      have hlo : (K.all l).length = k * i.size := by rw [hK.all_len, h0.length, hs]
      have hln : (K.all m).length = n * i.size := by rw [hK.all_len, hr.length, hs]
      have hrun := run_append_grow (P := Try.prog) w K.sl ty K.ty i z hu hi hz a k k (K.all l) hlo holds ⟨b, off, none⟩ n rc (K.all m) hln (hr.news hK) (by omega) (by omega) (growslice_fits (by omega) (by rw [hby]; exact hn))
      refine ⟨_, _, _, hrun, ?_, (((Below.refl w.heap.size w).drew).alloc (Nat.le_refl _) _)⟩
      have hge := grownCap_ge w (k + n) k K.ty
      refine ⟨by rw [List.length_append, h0.length, hr.length], hge, (fun e => by cases e), .inr ⟨w.heap.size, 0, rfl, by simp, fun q x hq j u hj => ?_⟩⟩
      have hjs : j < K.size := by have := (List.getElem?_eq_some_iff.1 hj).1; rwa [hK.len] at this
      have h1 := hK.all_at (l ++ m) q x hq j hjs
      rw [hj, K.all_app] at h1
      have hh : (w.drew.alloc (.cells ((K.all l).toArray ++ (K.all m).toArray ++ Builtin.zeroCells z.cells (grownCap w (k + n) k K.ty - (k + n))) K.ty)).heap[w.heap.size]? = _ := heap_alloc_new w.drew _
      rw [Nat.zero_add, cell_of_row _ _ _ _ _ _ hh]
      have hlt2 : q * K.size + j < (K.all l ++ K.all m).length := (List.getElem?_eq_some_iff.1 h1).1
      rw [← Array.getElem?_toList]
      simp only [Array.toList_append]
      rw [List.getElem?_append_left (by simpa using hlt2)]
      simpa using h1
/-- The operation in a plain list of operations. -/
theorem list_full {w : World} {ops : Array Oper} {rest : List Oper} {o : Oper} {a : Act} {Q : Exit → Act → World → Prop} (hw : Region.wanted o (yielded ops a.tmps) = true) (hK : K.Ok bytes) (s x : Operand)
    (ho : o.op = .call { callee := .builtin .append, args := #[s, x], argTypes := #[K.sl, K.sl] })
    (l m : List α) (ad rad : Option Addr) (k n rc : Nat) (hs : a.eval s = .slice ad k k) (h0 : RowAt K w ad k k l) (hx : a.eval x = .slice rad n rc) (hr : RowAt K w rad n rc m) (hn : k + n ≤ 100000000000)
    (h : ∀ ad' cap' w', RowAt K w' ad' (k + n) cap' (l ++ m) → Below w.heap.size w w' → wpList Try.prog ops Q rest (a.put o.dst (.slice ad' (k + n) cap')) w') :
    wpList Try.prog ops Q (o :: rest) a w := by
  refine BigFrame.wpList_want hw fun C hC => ?_
  have hf := hK.few
  obtain ⟨ad', cap', w', hrun, h2, h3⟩ := run_full hK w l m o.type ad rad k n rc h0 hr (Nat.le_trans (Nat.mul_le_mul hn hf) (by omega)) (by omega)
  unfold Oper.wp execOp
  simp only [ho, resolve, invoke, builtin, Sem.run_bind, Sem.run_pure, Result.andThen_ok, List.map_toArray, List.map_cons, List.map_nil, hs, hx, hrun]
  exact hC _ _ (h ad' cap' w' h2 h3)
end
end Go.Proofs.Ytlcnpeodhfdhlaa
