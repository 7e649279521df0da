/- Rows of things in memory, each of so many cells: read, taken over, appended to. -/
import Derived.Test.YtelbignfecjjhaaBytes
import Derived.OwnWalk
import Derived.Deep.RegionHeld3
namespace Go.Proofs.Ytelbignfecjjhaa
open Go.RowKit Go.OpenShut
set_option linter.unusedVariables false

/-- How things of one kind lie in memory. -/
structure Kind (α : Type) where
  enc : α → List Value
  size : Nat
  ty : TypeId
  sl : TypeId
structure Kind.Ok {α : Type} (K : Kind α) (bytes : Nat) : Prop where
  und : Try.prog.underlying K.sl = some (.slice K.ty)
  info : ∃ i z, Try.prog.info? K.ty = some i ∧ i.zero = some z ∧ i.size = K.size ∧ i.bytes = bytes ∧ z.cells.size = K.size
  len : ∀ x, (K.enc x).length = K.size
  pos : 0 < K.size
  one : ∀ x, ∀ u ∈ K.enc x, u.oneCell' = true
  few : bytes ≤ 1000
variable {α : Type} {K : Kind α} {bytes : Nat} {w w' : World}
def Kind.all (K : Kind α) (l : List α) : List Value := l.flatMap K.enc
theorem Kind.Ok.all_len (hK : K.Ok bytes) : ∀ l : List α, (K.all l).length = l.length * K.size
  | [] => by simp [Kind.all]
  | x :: l => by
    have := Kind.Ok.all_len hK l
    unfold Kind.all at *
    rw [List.flatMap_cons, List.length_append, this, hK.len, List.length_cons, Nat.succ_mul, Nat.add_comm]
theorem Kind.all_app (K : Kind α) (a b : List α) : K.all (a ++ b) = K.all a ++ K.all b := by simp [Kind.all]
theorem Kind.Ok.all_one (hK : K.Ok bytes) (l : List α) : ∀ u ∈ K.all l, u.oneCell' = true := by
  intro u hu
  obtain ⟨x, _, hx⟩ := List.mem_flatMap.1 hu
  exact hK.one x u hx
theorem Kind.Ok.all_at (hK : K.Ok bytes) : ∀ (l : List α) (i : Nat) (x : α), l[i]? = some x → ∀ j, j < K.size → (K.all l)[i * K.size + j]? = (K.enc x)[j]?
  | [], i, x, h, j, hj => by cases h
  | y :: l, 0, x, h, j, hj => by
    cases h
    show ((y :: l).flatMap K.enc)[0 * K.size + j]? = _
    rw [List.flatMap_cons, Nat.zero_mul, Nat.zero_add, List.getElem?_append_left (by rw [hK.len]; exact hj)]
  | y :: l, i + 1, x, h, j, hj => by
    have ih := Kind.Ok.all_at hK l i x h j hj
    show ((y :: l).flatMap K.enc)[(i + 1) * K.size + j]? = _
    rw [List.flatMap_cons, List.getElem?_append_right (by rw [hK.len, Nat.succ_mul]; omega), hK.len, show (i + 1) * K.size + j - K.size = i * K.size + j by rw [Nat.succ_mul]; omega]
    exact ih
/-- A slice reads as l. -/
structure RowAt (K : Kind α) (w : World) (ad : Option Addr) (len cap : Nat) (l : List α) : Prop where
  length : l.length = len
  fits : len ≤ cap
  room : ad = none → cap = 0
  cells : len = 0 ∨ ∃ b off, ad = some ⟨b, off, none⟩ ∧ b < w.heap.size ∧ ∀ i x, l[i]? = some x → ∀ j u, (K.enc x)[j]? = some u → w.cell? ⟨b, off + (i * K.size + j), none⟩ = some u
theorem RowAt.keep {ad : Option Addr} {len cap : Nat} {l : List α} (h : RowAt K w ad len cap l) (hb : Below w.heap.size w w') : RowAt K w' ad len cap l := by
  refine ⟨h.length, h.fits, h.room, ?_⟩
  rcases h.cells with h0 | ⟨b, off, e, hlt, hc⟩
  · exact .inl h0
  · refine .inr ⟨b, off, e, Nat.lt_of_lt_of_le hlt hb.size, fun i x hi j u hj => ?_⟩
    rw [hb.cell (p := ⟨b, off + (i * K.size + j), none⟩) hlt]
    exact hc i x hi j u hj
/-- Every block but one is as it was, and the row does not lie in that one. -/
theorem RowAt.grown {ad : Option Addr} {len cap : Nat} {l : List α} {r : Option Nat} (h : RowAt K w ad len cap l) (hg : w.grownBy w' r) (hr : ∀ a, ad = some a → some a.block ≠ r) : RowAt K w' ad len cap l := by
  refine ⟨h.length, h.fits, h.room, ?_⟩
  rcases h.cells with h0 | ⟨b, off, e, hlt, hc⟩
  · exact .inl h0
  · exact .inr ⟨b, off, e, Nat.lt_of_lt_of_le hlt hg.size, fun i x hi j u hj => hg.cell (hc i x hi j u hj) (show some b ≠ r from hr _ e)⟩
theorem rowAt_nil (w : World) : RowAt K w none 0 0 ([] : List α) := ⟨rfl, Nat.le_refl _, fun _ => rfl, .inl rfl⟩
theorem RowAt.zero (w : World) {ad : Option Addr} {cap : Nat} (h : ad = none → cap = 0) : RowAt K w ad 0 cap ([] : List α) := ⟨rfl, Nat.zero_le _, h, .inl rfl⟩
/-- The thing at i. -/
theorem RowAt.get {ad : Option Addr} {len cap : Nat} {l : List α} (h : RowAt K w ad len cap l) {i : Nat} (hi : i < len) :
    ∃ b off x, ad = some ⟨b, off, none⟩ ∧ b < w.heap.size ∧ l[i]? = some x ∧ ∀ j u, (K.enc x)[j]? = some u → w.cell? ⟨b, off + (i * K.size + j), none⟩ = some u := by
  have hl := h.length
  rcases h.cells with h0 | ⟨b, off, e, hlt, hc⟩
  · omega
  · have hx : l[i]? = some (l[i]'(by omega)) := List.getElem?_eq_getElem (by omega)
    exact ⟨b, off, _, e, hlt, hx, hc i _ hx⟩
theorem RowAt.news (hK : K.Ok bytes) {b off len cap : Nat} {l : List α} (h : RowAt K w (some ⟨b, off, none⟩) len cap l) : ∀ j u, (K.all l)[j]? = some u → w.cell? ((⟨b, off, none⟩ : Addr).add j) = some u := by
  intro j u hj
  have hjl : j < l.length * K.size := by
    have := (List.getElem?_eq_some_iff.1 hj).1
    rwa [hK.all_len] at this
  have hp := hK.pos
  have hil : j / K.size < l.length := Nat.div_lt_of_lt_mul (by rwa [Nat.mul_comm])
  have hx : l[j / K.size]? = some (l[j / K.size]'hil) := List.getElem?_eq_getElem hil
  have hm := Nat.mod_lt j hp
  have he : j / K.size * K.size + j % K.size = j := by rw [Nat.mul_comm]; exact Nat.div_add_mod j K.size
  have h1 := hK.all_at l _ _ hx _ hm
  rw [he] at h1
  rw [add_at]
  rcases h.cells with h0 | ⟨b', off', e, _, hc⟩
  · have hl0 : l.length = 0 := by have := h.length; omega
    exact absurd hil (by rw [hl0]; exact Nat.not_lt_zero _)
  · cases e
    have h2 := hc _ _ hx _ u (by rw [← h1]; exact hj)
    rwa [he] at h2
/-- A row that is the call's own. -/
def OwnRow (K : Kind α) (w : World) (base : Nat) (v : Value) (l : List α) : Prop := w.ownsRow base K.ty K.size v l.length (K.all l)
theorem ownRow_nil (K : Kind α) (w : World) (base : Nat) : OwnRow K w base (.slice none 0 0) [] := World.ownsRow_nil w base K.ty K.size
theorem OwnRow.low {base base' : Nat} {v : Value} {l : List α} (h : OwnRow K w base v l) (hb : base' ≤ base) : OwnRow K w base' v l := by
  refine ⟨h.1, ?_⟩
  rcases h.2 with h0 | ⟨g, cap, cur, h1, h2, h3⟩
  · exact .inl h0
  · exact .inr ⟨g, cap, cur, h1, Nat.le_trans hb h2, h3⟩
theorem OwnRow.on {base : Nat} {v : Value} {l : List α} (h : OwnRow K w base v l) (hb : Below w.heap.size w w') : OwnRow K w' base v l := owns_keep h hb (Nat.le_refl _)
theorem OwnRow.alloc {base : Nat} {v : Value} {l : List α} (h : OwnRow K w base v l) (o : Obj) : OwnRow K (w.alloc o) base v l := World.ownsRow.alloc h o
theorem OwnRow.lt {base : Nat} {v : Value} {l : List α} (h : OwnRow K w base v l) : ∀ k, v.ownBlock = some k → base ≤ k ∧ k < w.heap.size := World.ownsRow.lt h
theorem OwnRow.grown {base : Nat} {v : Value} {l : List α} {r : Option Nat} (h : OwnRow K w base v l) (hg : w.grownBy w' r) (hr : ∀ k, v.ownBlock = some k → some k ≠ r) : OwnRow K w' base v l := by
  refine World.ownsRow.kept h hg ?_
  cases hv : v.ownBlock with
  | none => exact .inl rfl
  | some k => exact .inr (hr k hv)
theorem OwnRow.at (hK : K.Ok bytes) {base : Nat} {v : Value} {l : List α} (h : OwnRow K w base v l) : ∃ ad cap, v = .slice ad l.length cap ∧ RowAt K w ad l.length cap l ∧ (∀ a, ad = some a → base ≤ a.block ∧ a.block < w.heap.size) := by
  rcases h.2 with ⟨rfl, h0⟩ | ⟨g, cap, cur, rfl, hb, hh, hc, _, hs, ht⟩
  · refine ⟨none, 0, by rw [h0], ?_, fun a ha => by cases ha⟩
    obtain rfl := List.eq_nil_of_length_eq_zero h0
    exact rowAt_nil w
  · refine ⟨_, cap, rfl, ⟨rfl, hc, (fun e => by cases e), .inr ⟨g, 0, rfl, (Array.getElem?_eq_some_iff.1 hh).1, fun i x hi j u hj => ?_⟩⟩, fun a ha => by cases ha; exact ⟨hb, (Array.getElem?_eq_some_iff.1 hh).1⟩⟩
    have hjs : j < K.size := by have := (List.getElem?_eq_some_iff.1 hj).1; rwa [hK.len] at this
    have h1 := hK.all_at l i x hi j hjs
    rw [hj, ← ht, List.getElem?_take] at h1
    rw [Nat.zero_add, cell_of_row w g _ _ _ _ hh]
    split at h1
    · simpa using h1
    · cases h1
/-- A block that was laid whole. -/
theorem ownRow_lit (hK : K.Ok bytes) (w : World) (base : Nat) (l : List α) (hb : base ≤ w.heap.size) (hm : l.length ≤ 1000000) (cs : Array Value) (hcs : cs = (K.all l).toArray) (n : Nat) (hn : l.length = n) : OwnRow K (w.alloc (.cells cs K.ty)) base (.slice (some ⟨w.heap.size, 0, none⟩) n n) l := by
  subst hcs hn
  have := World.ownsRow_lit (e := K.ty) (size := K.size) (base := base) w (K.all l).toArray l.length hb (by unfold maxLen; omega) (by rw [List.size_toArray, hK.all_len])
  unfold OwnRow
  simpa using this
theorem rowAt_lit (hK : K.Ok bytes) (w : World) (l : List α) (hm : l.length ≤ 1000000) (cs : Array Value) (hcs : cs = (K.all l).toArray) (n : Nat) (hn : l.length = n) : RowAt K (w.alloc (.cells cs K.ty)) (some ⟨w.heap.size, 0, none⟩) n n l := by
  obtain ⟨ad, cap, e, h, _⟩ := (ownRow_lit hK w 0 l (Nat.zero_le _) hm cs hcs n hn).at hK
  cases e
  exact h
theorem append_block (hK : K.Ok bytes) (w w' : World) (base : Nat) (v v' : Value) (l m : List α) (ty : Nat) (hown : OwnRow K w base v l) (a : Addr) (cap : Nat) (hnews : ∀ j u, (K.all m)[j]? = some u → w.cell? (a.add j) = some u) (hn : (l.length + m.length) * bytes ≤ 140737488355328) (hn2 : l.length + m.length ≤ 140737488355328)
    (hrun : (Builtin.append_ #[K.sl, K.sl] ty #[v, .slice (some a) m.length cap]).run Try.prog w = .ok v' w') : ∀ k, v'.ownBlock = some k → v.ownBlock = some k ∨ k = w.heap.size := by
  obtain ⟨i, z, hi, hz, hs, hby, hzs⟩ := hK.info
  have hu := hK.und
  have hml := hK.all_len m
  rw [← hs] at hml
  intro k hk
  rcases hown.2 with ⟨rfl, h0⟩ | ⟨g, cp, cur, rfl, hbg, hg, hnc, hcm, hcs, htake⟩
  · by_cases hm : m.length = 0
    · have : m = [] := List.eq_nil_of_length_eq_zero hm
      subst this
      have hrun2 : (Builtin.append_ #[K.sl, K.sl] ty #[.slice none 0 0, .slice (some a) 0 cap]).run Try.prog w = .ok (.slice none 0 0) w := by
        simp [Builtin.append_, run_underlying hu, sizeOf, typeInfo, hi, Builtin.lenOf, Builtin.firstCells, loadCells, loadCellsFrom]
      rw [List.length_nil, hrun2] at hrun
      injection hrun with e1 e2
      subst e1
      cases hk
    · rw [run_append_nil (P := Try.prog) w K.sl ty K.ty i z hu hi hz a m.length cap (K.all m) hml hnews (by omega) (by omega) (by rw [hby]; have : m.length * bytes ≤ (l.length + m.length) * bytes := Nat.mul_le_mul_right _ (by omega); omega)] at hrun
      injection hrun with e1 e2
      subst e1
      cases hk
      exact .inr rfl
  · by_cases hroom : l.length + m.length ≤ cp
    · rw [run_append_room (P := Try.prog) w K.sl ty K.ty i hu hi g l.length cp cur hg a m.length cap (K.all m) hml hnews (hK.all_one m) hroom (by rw [hml, hcs, ← hs, ← Nat.add_mul]; exact Nat.mul_le_mul_right _ hroom)] at hrun
      injection hrun with e1 e2
      subst e1
      exact .inl hk
    · have hlo : (K.all l).length = l.length * i.size := by rw [hs]; exact hK.all_len l
      rw [run_append_grow (P := Try.prog) w K.sl ty K.ty i z hu hi hz ⟨g, 0, none⟩ l.length cp (K.all l) hlo (World.ownsRow.cells hown (g := g) rfl) a m.length cap (K.all m) hml hnews (by omega) (by omega) (growslice_fits (by omega) (by rw [hby]; exact hn))] at hrun
      injection hrun with e1 e2
      subst e1
      cases hk
      exact .inr rfl
/-- append(v, m...), v the call's own, m any row, nil too. -/
theorem run_row_append (hK : K.Ok bytes) (w : World) (base : Nat) (v : Value) (l m : List α) (ty : Nat) (hown : OwnRow K w base v l) (ad : Option Addr) (n cap : Nat) (hr : RowAt K w ad n cap m) (hn : (l.length + n) * bytes ≤ 140737488355328) (hn2 : l.length + n ≤ 140737488355328) (hbase : base ≤ w.heap.size) :
    ∃ v' w', (Builtin.append_ #[K.sl, K.sl] ty #[v, .slice ad n cap]).run Try.prog w = .ok v' w' ∧ OwnRow K w' base v' (l ++ m) ∧ w.grownBy w' v.ownBlock ∧ (v ≠ .slice none 0 0 → v' ≠ .slice none 0 0) ∧ (∀ k, v'.ownBlock = some k → v.ownBlock = some k ∨ w.heap.size ≤ k) := by
  obtain ⟨i, z, hi, hz, hs, hby, hzs⟩ := hK.info
  obtain rfl := hr.length
  have hu := hK.und
  rcases ad with _ | ⟨b, off, x⟩
  · have hc := hr.room rfl
    have hf := hr.fits
    obtain rfl : m = [] := List.eq_nil_of_length_eq_zero (by omega)
    subst hc
    refine ⟨v, w, ?_, by rw [List.append_nil]; exact hown, ⟨rfl, rfl, rfl, Nat.le_refl _, fun _ _ _ => rfl⟩, fun h => h, fun k hk => .inl hk⟩
    exact run_append_owned_none (P := Try.prog) (w := w) base K.sl ty K.ty i K.size hu hi v _ _ hown
  · have hx : x = none ∨ m.length = 0 := by
      rcases hr.cells with h0 | ⟨_, _, e, _⟩
      · exact .inr h0
      · cases e; exact .inl rfl
    have hnews : ∀ j u, (K.all m)[j]? = some u → w.cell? ((⟨b, off, x⟩ : Addr).add j) = some u := by
      intro j u hj
      rcases hx with rfl | h0
      · exact hr.news hK j u hj
      · obtain rfl := List.eq_nil_of_length_eq_zero h0
        simp [Kind.all] at hj
    obtain ⟨v', w', hrun, h2, h3, h4⟩ := run_append_own (P := Try.prog) w base K.sl ty K.ty i z K.size bytes hu hi hz hs hby hzs hK.pos v l.length (K.all l) hown ⟨b, off, x⟩ m.length cap (K.all m) (hK.all_len m) hnews (hK.all_one m) (by unfold maxLen; omega) hn hbase
    refine ⟨v', w', hrun, ?_, h3, fun hne h => hne (h4.1 h).1, ?_⟩
    · unfold OwnRow
      rw [K.all_app, List.length_append]
      exact h2
    · intro k hk
      rcases append_block hK w w' base v v' l m ty hown _ cap hnews hn hn2 hrun k hk with h | h
      · exact .inl h
      · exact .inr (by omega)
/-- What an append leaves. -/
def Appended (K : Kind α) (w : World) (base : Nat) (v : Value) (l : List α) (v' : Value) (w' : World) : Prop :=
  OwnRow K w' base v' l ∧ w.grownBy w' v.ownBlock ∧ (v ≠ .slice none 0 0 → v' ≠ .slice none 0 0) ∧ (∀ k, v'.ownBlock = some k → v.ownBlock = some k ∨ w.heap.size ≤ k)
/-- The operation in a plain list of operations, behind a guard that says yes or with none. -/
theorem list_row {w : World} {ops : Array Oper} {rest : List Oper} {o : Oper} {a : Act} {Q : Exit → Act → World → Prop} (hw : Region.wanted o (yielded ops a.tmps) = true) (hK : K.Ok bytes) (s x : Operand)
    (ho : o.op = .call { callee := .builtin .append, args := #[s, x], argTypes := #[K.sl, K.sl] })
    (base : Nat) (l m : List α) (v : Value) (hs : a.eval s = v) (hown : OwnRow K w base v l) (hbase : base ≤ w.heap.size)
    (ad : Option Addr) (n cap : Nat) (hx : a.eval x = .slice ad n cap) (hr : RowAt K w ad n cap m) (hn : l.length + n ≤ 100000000000)
    (h : ∀ v' w', Appended K w base v (l ++ m) v' w' → wpList Try.prog ops Q rest (a.put o.dst v') w') :
    wpList Try.prog ops Q (o :: rest) a w := by
  refine BigFrame.wpList_want hw fun C hC => ?_
  have hf := hK.few
  obtain ⟨v', w', hrun, h2⟩ := run_row_append hK w base v l m o.type hown ad n cap hr (Nat.le_trans (Nat.mul_le_mul hn hf) (by omega)) (by omega) hbase
  unfold Oper.wp execOp
  simp only [ho, resolve, invoke, builtin, Sem.run_bind, Sem.run_pure, Result.andThen_ok, List.map_toArray, List.map_cons, List.map_nil, hs, hx, hrun]
  exact hC _ _ (h v' w' h2)
/-- The operation in a region that draws its order. -/
theorem held_row {w : World} {ops : Array Oper} {o : Oper} {a : Act} {C : Act → World → Prop} {Q : Exit → Act → World → Prop} {Z : Prop} [Decidable (Region.wanted o (yielded ops a.tmps) = true)] (hw : Region.wanted o (yielded ops a.tmps) = true) (hK : K.Ok bytes) (s x : Operand)
    (ho : o.op = .call { callee := .builtin .append, args := #[s, x], argTypes := #[K.sl, K.sl] })
    (base : Nat) (l m : List α) (v : Value) (hs : a.eval s = v) (hown : OwnRow K w base v l) (hbase : base ≤ w.heap.size)
    (ad : Option Addr) (n cap : Nat) (hx : a.eval x = .slice ad n cap) (hr : RowAt K w ad n cap m) (hn : l.length + n ≤ 100000000000)
    (h : ∀ v' w', Appended K w base v (l ++ m) v' w' → C (a.put o.dst v') w') :
    if Region.wanted o (yielded ops a.tmps) = true then Oper.wp Try.prog o a w C Q else Z := by
  rw [if_pos hw]
  have hf := hK.few
  obtain ⟨v', w', hrun, h2⟩ := run_row_append hK w base v l m o.type hown ad n cap hr (Nat.le_trans (Nat.mul_le_mul hn hf) (by omega)) (by omega) hbase
  unfold Oper.wp execOp
  simp only [ho, resolve, invoke, builtin, Sem.run_bind, Sem.run_pure, Result.andThen_ok, List.map_toArray, List.map_cons, List.map_nil, hs, hx, hrun]
  exact h v' w' h2
end Go.Proofs.Ytelbignfecjjhaa
