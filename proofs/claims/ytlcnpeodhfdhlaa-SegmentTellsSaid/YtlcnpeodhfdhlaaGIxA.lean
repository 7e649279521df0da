/- Chapter 8: entries and asks in memory; the law's own plain index in memory. The law's plain index: find, add. The code's index in memory: its box, its entries, its batches. The code's New, takes, sparse, Add. The code's sparse, Add. -/
import Derived.Test.YtlcnpeodhfdhlaaGRows
import Derived.Test.YtlcnpeodhfdhlaaGPlain
import Derived.Deep.CutRange
import Derived.Deep.RegionHeld3
import Derived.Deep.QuietTactic
import Derived.BigQuiet
import Derived.Test.YtlcnpeodhfdhlaaRegionZ
/-! Chapter 8: entries and asks in memory; the law's own plain index in memory. -/
namespace Go.Proofs.Ytlcnpeodhfdhlaa
open Go.RowKit
open Go.IxMath Go.VarMath
set_option linter.unusedVariables false

theorem infoEn : (Try.prog.info? 92).map (fun i => (i.zero, i.size, i.bytes)) = some (some (.agg #[.int .i64 0, .int .i64 0]), 2, 16) := by kernel_rfl
def enK : Kind En := ⟨fun x => [.int .i64 x.off, .int .i64 x.pos], 2, 92, 62⟩
theorem enK_ok : enK.Ok 16 where
  und := Try.underlying62
  info := by
    obtain ⟨i, hi, hz, hs, hb⟩ := info_parts infoEn
    exact ⟨i, _, hi, hz, hs, hb, rfl⟩
  len := fun _ => rfl
  pos := by decide
  one := fun r u hu => by
    simp only [enK, List.mem_cons, List.not_mem_nil, or_false] at hu
    rcases hu with rfl | rfl <;> rfl
  few := by decide
structure Aq where
  kind : Int
  pos : Int
  size : Int
  off : Int
def I64 (z : Int) : Prop := -9223372036854775808 ≤ z ∧ z ≤ 9223372036854775807
structure AqIn (x : Aq) : Prop where
  kind : I64 x.kind
  pos : I64 x.pos
  size : I64 x.size
  off : I64 x.off
structure AqAt (W : World) (b o : Nat) (x : Aq) : Prop where
  c0 : W.cell? ⟨b, o, none⟩ = some (.int .i64 x.kind)
  c1 : W.cell? ⟨b, o + 1, none⟩ = some (.int .i64 x.pos)
  c2 : W.cell? ⟨b, o + 2, none⟩ = some (.int .i64 x.size)
  c3 : W.cell? ⟨b, o + 3, none⟩ = some (.int .i64 x.off)
theorem AqAt.on {w w' : World} {b o : Nat} {x : Aq} {B : Nat} (h : AqAt w b o x) (hb : Below B w w') (hl : b < B) : AqAt w' b o x :=
  ⟨(hb.cell (p := ⟨b, _, none⟩) hl).trans h.c0, (hb.cell (p := ⟨b, _, none⟩) hl).trans h.c1, (hb.cell (p := ⟨b, _, none⟩) hl).trans h.c2, (hb.cell (p := ⟨b, _, none⟩) hl).trans h.c3⟩
/-- The cells of one entry. -/
theorem en_get {w : World} {ad : Option Addr} {len cap : Nat} {l : List En} (h : RowAt enK w ad len cap l) {i : Nat} (hi : i < len) : ∃ b off x, ad = some ⟨b, off, none⟩ ∧ b < w.heap.size ∧ l[i]? = some x ∧ w.cell? ⟨b, off + i * 2, none⟩ = some (.int .i64 x.off) ∧ w.cell? ⟨b, off + i * 2 + 1, none⟩ = some (.int .i64 x.pos) := by
  obtain ⟨b, off, x, e, hb, hx, hc⟩ := h.get hi
  exact ⟨b, off, x, e, hb, hx, hc 0 _ rfl, hc 1 _ rfl⟩
section
variable {w w' : World} {k : Nat} {base last every fin : Int} {v : Value}
end
section
variable {w w' : World} {kp n cap : Nat} {ad : Option Addr} {base every : Int} {bs : List Ba}
end
end Go.Proofs.Ytlcnpeodhfdhlaa

/-! The law's plain index: find, add. -/
namespace Go.Proofs.Ytlcnpeodhfdhlaa
open Go.RowKit
open Go.IxMath Go.VarMath
set_option linter.unusedVariables false

theorem below_drewN (w : World) (n : Nat) : Below w.heap.size w (w.drewN n) := ⟨rfl, rfl, rfl, Nat.le_refl _, fun _ _ => rfl⟩
theorem last_cell {w : World} {ad : Option Addr} {n cap : Nat} {l : List En} (h : RowAt enK w ad n cap l) (hl : ∀ e ∈ l, 0 ≤ e.pos ∧ e.pos ≤ 4611686018427387904) (every pos : Int) : n = 0 ∨ ∃ (b o : Nat) (x : En), 0 < n ∧ ad = some ⟨b, o, none⟩ ∧ (0 ≤ x.pos ∧ x.pos ≤ 4611686018427387904) ∧ w.cell? ⟨b, o + (n - 1) * 2 + 1, none⟩ = some (.int .i64 x.pos) ∧ (wantE every l pos = decide (every ≤ pos - x.pos)) := by
  rcases Nat.eq_zero_or_pos n with h0 | h0
  · exact .inl h0
  · obtain ⟨b, o, x, e, hb, hx, c0, c1⟩ := en_get h (show n - 1 < n by omega)
    refine .inr ⟨b, o, x, h0, e, hl x (List.mem_of_getElem? hx), c1, ?_⟩
    have hla : l.getLast? = some x := by rw [List.getLast?_eq_getElem?, h.length]; exact hx
    unfold wantE
    rw [hla]
end Go.Proofs.Ytlcnpeodhfdhlaa

/-! The code's index in memory: its box, its entries, its batches. -/
namespace Go.Proofs.Ytlcnpeodhfdhlaa
open Go.RowKit
open Go.IxMath Go.VarMath
set_option linter.unusedVariables false

theorem infoBa : (Try.prog.info? 88).map (fun i => (i.zero, i.size, i.bytes)) = some (some (.agg #[.int .i64 0, .int .i64 0, .int .i64 0]), 3, 24) := by kernel_rfl
def baK : Kind Ba := ⟨fun x => [.int .i64 x.off, .int .i64 x.pos, .int .i64 (x.fin - x.pos)], 3, 88, 83⟩
theorem baK_ok : baK.Ok 24 where
  und := Try.underlying83
  info := by
    obtain ⟨i, hi, hz, hs, hb⟩ := info_parts infoBa
    exact ⟨i, _, hi, hz, hs, hb, rfl⟩
  len := fun _ => rfl
  pos := by decide
  one := fun r u hu => by
    simp only [baK, List.mem_cons, List.not_mem_nil, or_false] at hu
    rcases hu with rfl | rfl | rfl <;> rfl
  few := by decide
/-- The box of an index. -/
def IxBox (w : World) (k : Nat) (base every : Int) (ve vb : Value) : Prop := w.heap[k]? = some (.cells #[.int .i64 base, .int .i64 every, ve, vb] 85 (0, 0))
section
variable {w w' : World} {k : Nat} {base every : Int} {ve vb : Value}
theorem IxBox.c0 (h : IxBox w k base every ve vb) : w.cell? ⟨k, 0, none⟩ = some (.int .i64 base) := by rw [cell_of_row _ _ 0 _ _ _ h]; rfl
theorem IxBox.c1 (h : IxBox w k base every ve vb) : w.cell? ⟨k, 1, none⟩ = some (.int .i64 every) := by rw [cell_of_row _ _ 1 _ _ _ h]; rfl
theorem IxBox.c2 (h : IxBox w k base every ve vb) : w.cell? ⟨k, 2, none⟩ = some ve := by rw [cell_of_row _ _ 2 _ _ _ h]; rfl
theorem IxBox.c3 (h : IxBox w k base every ve vb) : w.cell? ⟨k, 3, none⟩ = some vb := by rw [cell_of_row _ _ 3 _ _ _ h]; rfl
theorem IxBox.free (h : IxBox w k base every ve vb) (j : Nat) : w.frozen? ⟨k, j, none⟩ = false := frozen_of_row w k j _ _ h
theorem IxBox.lt (h : IxBox w k base every ve vb) : k < w.heap.size := lt_of_block h
theorem IxBox.same (h : IxBox w k base every ve vb) (hs : w'.heap[k]? = w.heap[k]?) : IxBox w' k base every ve vb := hs.trans h
theorem IxBox.s2 (h : IxBox w k base every ve vb) (z : Value) : IxBox (w.setCell ⟨k, 2, none⟩ z) k base every z vb := box_set h 2 _
theorem IxBox.s3 (h : IxBox w k base every ve vb) (z : Value) : IxBox (w.setCell ⟨k, 3, none⟩ z) k base every ve z := box_set h 3 _
end
/-- A row's block tells what lies in it. -/
theorem own_type {α : Type} {K : Kind α} {w : World} {b : Nat} {v : Value} {l : List α} {q : Nat} (h : OwnRow K w b v l) (hq : v.ownBlock = some q) : ∃ cur, w.heap[q]? = some (.cells cur K.ty (0, 0)) := by
  rcases h.2 with ⟨h0, _⟩ | ⟨g, cap, cur, h1, _, h2, _⟩
  · rw [h0] at hq; cases hq
  · rw [h1] at hq
    cases hq
    exact ⟨cur, h2⟩
/-- A row of one's own, cut behind its first n. -/
theorem OwnRow.cut {α : Type} {K : Kind α} {bytes : Nat} (hK : K.Ok bytes) {w : World} {b : Nat} {v : Value} {l : List α} (h : OwnRow K w b v l) (n : Nat) (hn : n ≤ l.length) :
    ∃ ad cap, v = .slice ad l.length cap ∧ n ≤ cap ∧ OwnRow K w b (.slice ad n cap) (l.take n) ∧ Value.ownBlock (.slice ad n cap) = v.ownBlock := by
  have hl : (l.take n).length = n := by rw [List.length_take]; omega
  rcases h.2 with ⟨h0, h1⟩ | ⟨g, cap, cur, h1, h2, h3, h4, h5, h6, h7⟩
  · have hn0 : n = 0 := by omega
    subst hn0
    exact ⟨none, 0, by rw [h0, h1], Nat.le_refl _, by rw [List.take_zero]; exact ownRow_nil K w b, by rw [h0]⟩
  · refine ⟨_, cap, h1, by omega, ⟨by rw [hK.all_len], .inr ⟨g, cap, cur, by rw [hl], h2, h3, by rw [hl]; omega, h5, h6, ?_⟩⟩, by rw [h1]; rfl⟩
    have e : K.all l = K.all (l.take n) ++ K.all (l.drop n) := by rw [← K.all_app, List.take_append_drop]
    rw [hl]
    have h8 : (cur.toList.take (l.length * K.size)).take (n * K.size) = cur.toList.take (n * K.size) := by
      rw [List.take_take]
      congr 1
      have := Nat.mul_le_mul_right K.size hn
      omega
    rw [← h8, h7, e, List.take_left' (by rw [hK.all_len, hl])]
/-- An index of the code. -/
structure IxAt (w : World) (k : Nat) (base every : Int) (es : List En) (bs : List Ba) (ve vb : Value) : Prop where
  box : IxBox w k base every ve vb
  ens : OwnRow enK w 0 ve es
  bas : OwnRow baK w 0 vb bs
/-- The blocks that it has. -/
def IFoot (k : Nat) (ve vb : Value) (j : Nat) : Prop := j = k ∨ ve.ownBlock = some j ∨ vb.ownBlock = some j
section
variable {w w' : World} {k : Nat} {base every : Int} {es : List En} {bs : List Ba} {ve vb : Value}
theorem IxAt.same (h : IxAt w k base every es bs ve vb) (hs : ∀ j, IFoot k ve vb j → w'.heap[j]? = w.heap[j]?) : IxAt w' k base every es bs ve vb :=
  ⟨h.box.same (hs k (.inl rfl)), h.ens.same fun q hq => hs q (.inr (.inl hq)), h.bas.same fun q hq => hs q (.inr (.inr hq))⟩
theorem IxAt.lt (h : IxAt w k base every es bs ve vb) {j : Nat} (hj : IFoot k ve vb j) : j < w.heap.size := by
  rcases hj with rfl | h1 | h1
  · exact h.box.lt
  · exact (h.ens.lt j h1).2
  · exact (h.bas.lt j h1).2
theorem IxAt.on (h : IxAt w k base every es bs ve vb) (hb : Below w.heap.size w w') : IxAt w' k base every es bs ve vb := h.same fun j hj => hb.block j (h.lt hj)
theorem IxAt.ve_k (h : IxAt w k base every es bs ve vb) : ve.ownBlock ≠ some k := fun e => by
  obtain ⟨cur, hc⟩ := own_type h.ens e
  have h1 := h.box
  unfold IxBox at h1
  rw [hc] at h1
  simp [enK] at h1
theorem IxAt.vb_k (h : IxAt w k base every es bs ve vb) : vb.ownBlock ≠ some k := fun e => by
  obtain ⟨cur, hc⟩ := own_type h.bas e
  have h1 := h.box
  unfold IxBox at h1
  rw [hc] at h1
  simp [baK] at h1
theorem IxAt.ve_vb (h : IxAt w k base every es bs ve vb) {q : Nat} (h1 : ve.ownBlock = some q) (h2 : vb.ownBlock = some q) : False := by
  obtain ⟨cur, hc⟩ := own_type h.ens h1
  obtain ⟨cur', hc'⟩ := own_type h.bas h2
  rw [hc] at hc'
  simp [enK, baK] at hc'
/-- Its entries. -/
theorem IxAt.eat (h : IxAt w k base every es bs ve vb) : ∃ ad cap, ve = .slice ad es.length cap ∧ RowAt enK w ad es.length cap es := by
  obtain ⟨ad, cap, h1, h2, _⟩ := h.ens.at enK_ok
  exact ⟨ad, cap, h1, h2⟩
theorem IxAt.bat (h : IxAt w k base every es bs ve vb) : ∃ ad cap, vb = .slice ad bs.length cap ∧ RowAt baK w ad bs.length cap bs := by
  obtain ⟨ad, cap, h1, h2, _⟩ := h.bas.at baK_ok
  exact ⟨ad, cap, h1, h2⟩
end
/-- The cells of one batch. -/
theorem ba_get {w : World} {ad : Option Addr} {len cap : Nat} {l : List Ba} (h : RowAt baK w ad len cap l) {i : Nat} (hi : i < len) : ∃ b off x, ad = some ⟨b, off, none⟩ ∧ b < w.heap.size ∧ l[i]? = some x ∧ w.cell? ⟨b, off + i * 3, none⟩ = some (.int .i64 x.off) ∧ w.cell? ⟨b, off + i * 3 + 1, none⟩ = some (.int .i64 x.pos) ∧ w.cell? ⟨b, off + i * 3 + 2, none⟩ = some (.int .i64 (x.fin - x.pos)) := by
  obtain ⟨b, off, x, e, hb, hx, hc⟩ := h.get hi
  exact ⟨b, off, x, e, hb, hx, hc 0 _ rfl, hc 1 _ rfl, hc 2 _ rfl⟩
def badN (base every : Int) : Bool := decide (base < 0 ∨ 1099511627776 < base ∨ every < 1 ∨ 1073741824 < every)
/-- The numbers of these batches are none too great. -/
def Small (bs : List Ba) : Prop := bs.length ≤ 10000 ∧ ∀ b ∈ bs, b.off ≤ 9223372036854775807 ∧ b.fin ≤ 4611686018427387903
/-- The code's index at k, with these batches in it; F: the blocks that it is made of. -/
def IxOk (w : World) (k : Nat) (F : Nat → Prop) (base every : Int) (bs : List Ba) : Prop :=
  (0 ≤ base ∧ base ≤ 1099511627776 ∧ 1 ≤ every ∧ every ≤ 1073741824) ∧ MadeI base bs ∧ ∃ ve vb, IxAt w k base every (ents every bs) bs ve vb ∧ ∀ j, F j ↔ IFoot k ve vb j
section
variable {w w' : World} {k : Nat} {F : Nat → Prop} {base every : Int} {bs : List Ba}
theorem IxOk.lt (h : IxOk w k F base every bs) : ∀ j, F j → j < w.heap.size := by
  obtain ⟨_, _, ve, vb, h1, h2⟩ := h
  exact fun j hj => h1.lt ((h2 j).1 hj)
theorem IxOk.on (h : IxOk w k F base every bs) (hb : Below w.heap.size w w') : IxOk w' k F base every bs := by
  obtain ⟨h1, h2, ve, vb, h3, h4⟩ := h
  exact ⟨h1, h2, ve, vb, h3.on hb, h4⟩
theorem IxOk.kept {G : Nat → Prop} (h : IxOk w k F base every bs) (hk : Kept w w' G) (hd : ∀ j, F j → ¬ G j) : IxOk w' k F base every bs := by
  obtain ⟨h1, h2, ve, vb, h3, h4⟩ := h
  exact ⟨h1, h2, ve, vb, h3.same fun j hj => hk.block j (h3.lt hj) (hd j ((h4 j).2 hj)), h4⟩
theorem IxOk.base0 (h : IxOk w k F base every bs) : 0 ≤ base ∧ base ≤ 1099511627776 ∧ 1 ≤ every := ⟨h.1.1, h.1.2.1, h.1.2.2.1⟩
theorem IxOk.made (h : IxOk w k F base every bs) : MadeI base bs := h.2.1
end
/-- The last batch that was added. -/
theorem last_ba {w : World} {ad : Option Addr} {cap : Nat} {base : Int} {bs : List Ba} (h : RowAt baK w ad bs.length cap bs) (hm : MadeI base bs) (hs : ∀ b ∈ bs, b.fin ≤ 4611686018427387903) :
    bs = [] ∨ ∃ (b o : Nat) (xo xp xf : Int), 0 < bs.length ∧ ad = some ⟨b, o, none⟩ ∧ b < w.heap.size ∧ (0 ≤ xp ∧ xp < xf ∧ xf ≤ 4611686018427387903) ∧ lastO bs = xo ∧ lastF bs = xf ∧
      w.cell? ⟨b, o + (bs.length - 1) * 3, none⟩ = some (.int .i64 xo) ∧ w.cell? ⟨b, o + (bs.length - 1) * 3 + 1, none⟩ = some (.int .i64 xp) ∧ w.cell? ⟨b, o + (bs.length - 1) * 3 + 2, none⟩ = some (.int .i64 (xf - xp)) := by
  rcases Nat.eq_zero_or_pos bs.length with h0 | h0
  · exact .inl (List.eq_nil_of_length_eq_zero h0)
  · obtain ⟨b, o, x, e, hb, hx, c0, c1, c2⟩ := ba_get h (show bs.length - 1 < bs.length by omega)
    have hla : bs.getLast? = some x := by rw [List.getLast?_eq_getElem?]; exact hx
    have hmem := List.mem_of_getElem? hx
    have h1 := made_all hm x hmem
    have h2 := hs x hmem
    refine .inr ⟨b, o, x.off, x.pos, x.fin, h0, e, hb, ⟨h1.2.2.1, h1.2.2.2.1, h2⟩, ?_, ?_, c0, c1, c2⟩
    · unfold lastO; rw [hla]
    · unfold lastF; rw [hla]
/-- An index on its way: what it holds now; all that has turned is its own. -/
structure Way (w wx : World) (F : Nat → Prop) (k : Nat) (base every : Int) (es : List En) (bs : List Ba) (ve vb : Value) : Prop where
  at_ : IxAt wx k base every es bs ve vb
  kept : Kept w wx F
  foot : ∀ j, IFoot k ve vb j → F j ∨ w.heap.size ≤ j
theorem own_set {α : Type} {K : Kind α} {w : World} {b : Nat} {v : Value} {l : List α} {k : Nat} (h : OwnRow K w b v l) (hk : v.ownBlock ≠ some k) (j : Nat) (u : Value) : OwnRow K (w.setCell ⟨k, j, none⟩ u) b v l :=
  h.grown (grow_one w k j u) fun q hq e => hk (hq.trans e)
section
variable {w wx w1 w2 : World} {F : Nat → Prop} {k : Nat} {base every : Int} {es es' : List En} {bs bs' : List Ba} {ve vb v' : Value}
theorem Way.on (h : Way w wx F k base every es bs ve vb) (hb : Below wx.heap.size wx w1) : Way w w1 F k base every es bs ve vb :=
  ⟨h.at_.on hb, h.kept.trans (Kept.of_below (F := F) hb) fun i hi => .inl hi, h.foot⟩
/-- Other entries are stored into the box. -/
theorem Way.put_e (h : Way w wx F k base every es bs ve vb) (ho : OwnRow enK w1 0 v' es') (hg : wx.grownBy w1 ve.ownBlock) (hv : ∀ q, v'.ownBlock = some q → ve.ownBlock = some q ∨ wx.heap.size ≤ q) : Way w (w1.setCell ⟨k, 2, none⟩ v') F k base every es' bs v' vb := by
  have hb1 : IxBox w1 k base every ve vb := h.at_.box.same (hg.block k h.at_.box.lt fun e => h.at_.ve_k e.symm)
  have hvb1 : OwnRow baK w1 0 vb bs := h.at_.bas.same fun q hq => hg.block q (h.at_.bas.lt q hq).2 fun e => h.at_.ve_vb e.symm hq
  have hk : v'.ownBlock ≠ some k := fun e => by
    obtain ⟨cur, hc⟩ := own_type ho e
    have h1 := hb1
    unfold IxBox at h1
    rw [hc] at h1
    simp [enK] at h1
  have hk2 : vb.ownBlock ≠ some k := h.at_.vb_k
  refine ⟨⟨hb1.s2 v', own_set ho hk _ _, own_set hvb1 hk2 _ _⟩, ?_, fun j hj => ?_⟩
  · refine (h.kept.trans (Kept.of_own (F := IFoot k ve vb) hg fun q hq => .inl (.inr (.inl hq))) h.foot).trans (Kept.of_grown (F := fun j => j = k) (grow_one _ _ _ _) (.inl rfl)) fun i hi => ?_
    rw [hi]
    exact h.foot k (.inl rfl)
  · rcases hj with h1 | h1 | h1
    · exact h.foot j (.inl h1)
    · rcases hv j h1 with h2 | h2
      · exact h.foot j (.inr (.inl h2))
      · exact .inr (Nat.le_trans h.kept.size h2)
    · exact h.foot j (.inr (.inr h1))
theorem Way.put_b (h : Way w wx F k base every es bs ve vb) (ho : OwnRow baK w1 0 v' bs') (hg : wx.grownBy w1 vb.ownBlock) (hv : ∀ q, v'.ownBlock = some q → vb.ownBlock = some q ∨ wx.heap.size ≤ q) : Way w (w1.setCell ⟨k, 3, none⟩ v') F k base every es bs' ve v' := by
  have hb1 : IxBox w1 k base every ve vb := h.at_.box.same (hg.block k h.at_.box.lt fun e => h.at_.vb_k e.symm)
  have hve1 : OwnRow enK w1 0 ve es := h.at_.ens.same fun q hq => hg.block q (h.at_.ens.lt q hq).2 fun e => h.at_.ve_vb hq e.symm
  have hk : v'.ownBlock ≠ some k := fun e => by
    obtain ⟨cur, hc⟩ := own_type ho e
    have h1 := hb1
    unfold IxBox at h1
    rw [hc] at h1
    simp [baK] at h1
  have hk2 : ve.ownBlock ≠ some k := h.at_.ve_k
  refine ⟨⟨hb1.s3 v', own_set hve1 hk2 _ _, own_set ho hk _ _⟩, ?_, fun j hj => ?_⟩
  · refine (h.kept.trans (Kept.of_own (F := IFoot k ve vb) hg fun q hq => .inl (.inr (.inr hq))) h.foot).trans (Kept.of_grown (F := fun j => j = k) (grow_one _ _ _ _) (.inl rfl)) fun i hi => ?_
    rw [hi]
    exact h.foot k (.inl rfl)
  · rcases hj with h1 | h1 | h1
    · exact h.foot j (.inl h1)
    · exact h.foot j (.inr (.inl h1))
    · rcases hv j h1 with h2 | h2
      · exact h.foot j (.inr (.inr h2))
      · exact .inr (Nat.le_trans h.kept.size h2)
end
def GivesIx (w : World) (k : Nat) (F : Nat → Prop) (base every : Int) (bs' : List Ba) (r : Bool) (e : Ending) (w' : World) : Prop :=
  e = .returned (.bool r) ∧ ∃ F', Hid (IxOk w' k F' base every bs') ∧ Hid (Kept w w' F) ∧ Hid (∀ j, F' j → F j ∨ w.heap.size ≤ j)
theorem Way.start {w : World} {k : Nat} {F : Nat → Prop} {base every : Int} {bs : List Ba} {ve vb : Value} (h : IxAt w k base every (ents every bs) bs ve vb) (hf : ∀ j, F j ↔ IFoot k ve vb j) : Way w w F k base every (ents every bs) bs ve vb :=
  ⟨h, Kept.refl _ _, fun j hj => .inl ((hf j).2 hj)⟩
theorem Way.done {w wx : World} {k : Nat} {F : Nat → Prop} {base every : Int} {bs : List Ba} {es : List En} {ve vb : Value} (h : Way w wx F k base every es bs ve vb) (he : es = ents every bs) (h0 : 0 ≤ base ∧ base ≤ 1099511627776 ∧ 1 ≤ every ∧ every ≤ 1073741824) (hm : MadeI base bs) :
    ∃ F', Hid (IxOk wx k F' base every bs) ∧ Hid (Kept w wx F) ∧ Hid (∀ j, F' j → F j ∨ w.heap.size ≤ j) := by
  subst he
  exact ⟨IFoot k ve vb, ⟨h0, hm, ve, vb, h.at_, fun j => Iff.rfl⟩, h.kept, h.foot⟩
theorem ba_enc (off pos size : Int) : #[Value.int .i64 off, .int .i64 pos, .int .i64 size] = (baK.all [⟨off, pos, pos + size⟩]).toArray := by
  show _ = #[Value.int .i64 off, .int .i64 pos, .int .i64 (pos + size - pos)]
  rw [show pos + size - pos = size by omega]
end Go.Proofs.Ytlcnpeodhfdhlaa

/-! The code's New, takes, sparse, Add. -/
namespace Go.Proofs.Ytlcnpeodhfdhlaa
open Go.RowKit
open Go.IxMath Go.VarMath
set_option linter.unusedVariables false

def GivesIxNew (w : World) (base every : Int) (e : Ending) (w' : World) : Prop :=
  Hid (Below w.heap.size w w') ∧ ((badN base every = true ∧ e = .returned (.pointer none)) ∨ (badN base every = false ∧ ∃ k F, e = .returned (.pointer (some ⟨k, 0, none⟩)) ∧ Hid (IxOk w' k F base every []) ∧ Hid (∀ j, F j → w.heap.size ≤ j)))
theorem ixnew_no {w : World} {base every : Int} (h : badN base every = true) : GivesIxNew w base every (.returned (.pointer none)) w := ⟨Below.refl _ w, .inl ⟨h, rfl⟩⟩
theorem ixNew_any (w : World) (base every : Int) (hb : I64 base) (he : I64 every) : Calls Try.prog 32 #[.int .i64 base, .int .i64 every] w (GivesIxNew w base every) := by
  have HBI := Lib.hid hb
  have HEI := Lib.hid he
  clear hb he
  go_enter Try.func32, Try.ntmps32
  by_cases d1 : base < 0
  · have d1d : decide (base < 0) = true := decide_eq_true d1
    go_wp2_with fail
    go_ret
    exact ixnew_no (decide_eq_true (by omega))
  have d1d : decide (base < 0) = false := decide_eq_false d1
  by_cases d2 : 1099511627776 < base
  · have d2d : decide (1099511627776 < base) = true := decide_eq_true d2
    go_wp2_with fail
    go_ret
    exact ixnew_no (decide_eq_true (by omega))
  have d2d : decide (1099511627776 < base) = false := decide_eq_false d2
  by_cases d3 : every < 1
  · have d3d : decide (every < 1) = true := decide_eq_true d3
    go_wp2_with fail
    go_ret
    exact ixnew_no (decide_eq_true (by omega))
  have d3d : decide (every < 1) = false := decide_eq_false d3
  by_cases d4 : 1073741824 < every
  · have d4d : decide (1073741824 < every) = true := decide_eq_true d4
    go_wp2_with fail
    go_ret
    exact ixnew_no (decide_eq_true (by omega))
  have d4d : decide (1073741824 < every) = false := decide_eq_false d4
  go_wp2_with fail
  go_ret
  have hb : Below w.heap.size w (w.alloc (.cells #[.int .i64 base, .int .i64 every, .slice none 0 0, .slice none 0 0] 85)) := (Below.refl _ w).alloc (Nat.le_refl _) _
  refine ⟨hb, .inr ⟨decide_eq_false (by omega), w.heap.size, IFoot w.heap.size (.slice none 0 0) (.slice none 0 0), rfl, ⟨⟨by omega, by omega, by omega, by omega⟩, MadeI.nil, .slice none 0 0, .slice none 0 0, ⟨heap_alloc_new w _, ownRow_nil _ _ _, ownRow_nil _ _ _⟩, fun j => Iff.rfl⟩, fun j hj => ?_⟩⟩
  rcases hj with rfl | h1 | h1
  · exact Nat.le_refl _
  · cases h1
  · cases h1
set_option maxRecDepth 100000 in
set_option maxHeartbeats 4000000 in
theorem takes_any (w : World) (k : Nat) (base every : Int) (es : List En) (bs : List Ba) (ve vb : Value) (h : IxAt w k base every es bs ve vb) (hb0 : 0 ≤ base) (hm : MadeI base bs) (hs : Small bs) (off pos size : Int) (hp : I64 pos) (hz : I64 size) :
    Calls Try.prog 48 #[.pointer (some ⟨k, 0, none⟩), .agg #[.int .i64 off, .int .i64 pos, .int .i64 size]] w fun e w' => e = .returned (.bool (!badA base bs off pos size)) ∧ Hid (Below w.heap.size w w') := by
  obtain ⟨ad, cap, hv, hr⟩ := h.bat
  obtain ⟨lo, hlo⟩ : ∃ z, z = lastO bs := ⟨_, rfl⟩
  obtain ⟨fi, hfi⟩ : ∃ z, z = lastF bs := ⟨_, rfl⟩
  have HBAD : Hid (badA base bs off pos size = decide (off < base ∨ off ≤ lo ∨ pos < 0 ∨ pos < fi ∨ size < 1)) := by show _ = _; rw [hlo, hfi]; rfl
  obtain ⟨n, hn⟩ : ∃ n, n = bs.length := ⟨_, rfl⟩
  have HL : (n = 0 ∧ lo = -1 ∧ fi = 0) ∨ ∃ (b o : Nat) (xp : Int), 0 < n ∧ ad = some ⟨b, o, none⟩ ∧ b < w.heap.size ∧ (0 ≤ xp ∧ xp < fi ∧ fi ≤ 4611686018427387903) ∧
      w.cell? ⟨b, o + (n - 1) * 3, none⟩ = some (.int .i64 lo) ∧ w.cell? ⟨b, o + (n - 1) * 3 + 1, none⟩ = some (.int .i64 xp) ∧ w.cell? ⟨b, o + (n - 1) * 3 + 2, none⟩ = some (.int .i64 (fi - xp)) := by
    rcases last_ba hr hm (fun b hb => (hs.2 b hb).2) with h0 | ⟨b, o, xo, xp, xf, h0, e, hb, hx, e1, e2, c0, c1, c2⟩
    · subst h0
      exact .inl ⟨hn, hlo, hfi⟩
    · rw [hlo, hfi, hn, e1, e2]
      exact .inr ⟨b, o, xp, h0, e, hb, hx, c0, c1, c2⟩
  rw [← hn] at hv
  subst hv
  have HX := Lib.hid h.box
  have hn1 : n ≤ 10000 := by rw [hn]; exact hs.1
  clear hr hm h hlo hfi hn hs
  go_enter Try.func48, Try.ntmps48
  by_cases d1 : off < base
  · have d1d : decide (off < base) = true := decide_eq_true d1
    go_upto_region 1 with fail
    obtain ⟨w1, hw1⟩ : ∃ z, z = w.alloc (.cells #[.int .i64 off, .int .i64 pos, .int .i64 size] 88) := ⟨_, rfl⟩
    obtain ⟨kb, hkb⟩ : ∃ z, z = w.heap.size := ⟨_, rfl⟩
    have HB1 : Hid (Below w.heap.size w w1) := by show Below _ _ _; rw [hw1]; exact (Below.refl _ w).alloc (Nat.le_refl _) _
    have hbx : w1.heap[kb]? = some (.cells #[.int .i64 off, .int .i64 pos, .int .i64 size] 88 (0, 0)) := by rw [hw1, hkb]; exact heap_alloc_new w _
    rw [← hw1, ← hkb]
    clear hw1 hkb
    have HX1 := Lib.hid (HX.out.same (HB1.out.block k HX.out.lt))
    have t0 : w1.cell? ⟨kb, 0, none⟩ = some (.int .i64 off) := cell_of_row _ _ 0 _ _ _ hbx
    have t1 : w1.cell? ⟨kb, 1, none⟩ = some (.int .i64 pos) := cell_of_row _ _ 1 _ _ _ hbx
    have t2 : w1.cell? ⟨kb, 2, none⟩ = some (.int .i64 size) := cell_of_row _ _ 2 _ _ _ hbx
    have q0 := HX1.out.c0
    go_quiet (fail)
    obtain ⟨W0, hW0⟩ : ∃ z, z = w1.drewN nq := ⟨_, rfl⟩
    have hb0 : Below w1.heap.size w1 W0 := by rw [hW0]; exact below_drewN w1 nq
    have HBW : Hid (Below w1.heap.size w1 W0) := hb0
    have HBT : Hid (Below w.heap.size w W0) := HB1.out.trans (hb0.mono HB1.out.size)
    have HBX := Lib.hid (show W0.heap[kb]? = some (.cells #[.int .i64 off, .int .i64 pos, .int .i64 size] 88 (0, 0)) from (hb0.block kb (lt_of_block hbx)).trans hbx)
    rw [← hW0]
    clear hW0 q0 t0 t1 t2 hb0 hbx
    go_wp2_with fail
    go_ret
    exact ⟨by rw [HBAD.out, decide_eq_true (by omega)]; rfl, HBT.out⟩
  have d1d : decide (off < base) = false := decide_eq_false d1
  by_cases d2 : pos < 0
  · have d2d : decide (pos < 0) = true := decide_eq_true d2
    go_upto_region 1 with fail
    obtain ⟨w1, hw1⟩ : ∃ z, z = w.alloc (.cells #[.int .i64 off, .int .i64 pos, .int .i64 size] 88) := ⟨_, rfl⟩
    obtain ⟨kb, hkb⟩ : ∃ z, z = w.heap.size := ⟨_, rfl⟩
    have HB1 : Hid (Below w.heap.size w w1) := by show Below _ _ _; rw [hw1]; exact (Below.refl _ w).alloc (Nat.le_refl _) _
    have hbx : w1.heap[kb]? = some (.cells #[.int .i64 off, .int .i64 pos, .int .i64 size] 88 (0, 0)) := by rw [hw1, hkb]; exact heap_alloc_new w _
    rw [← hw1, ← hkb]
    clear hw1 hkb
    have HX1 := Lib.hid (HX.out.same (HB1.out.block k HX.out.lt))
    have t0 : w1.cell? ⟨kb, 0, none⟩ = some (.int .i64 off) := cell_of_row _ _ 0 _ _ _ hbx
    have t1 : w1.cell? ⟨kb, 1, none⟩ = some (.int .i64 pos) := cell_of_row _ _ 1 _ _ _ hbx
    have t2 : w1.cell? ⟨kb, 2, none⟩ = some (.int .i64 size) := cell_of_row _ _ 2 _ _ _ hbx
    have q0 := HX1.out.c0
    go_quiet (fail)
    obtain ⟨W0, hW0⟩ : ∃ z, z = w1.drewN nq := ⟨_, rfl⟩
    have hb0 : Below w1.heap.size w1 W0 := by rw [hW0]; exact below_drewN w1 nq
    have HBW : Hid (Below w1.heap.size w1 W0) := hb0
    have HBT : Hid (Below w.heap.size w W0) := HB1.out.trans (hb0.mono HB1.out.size)
    have HBX := Lib.hid (show W0.heap[kb]? = some (.cells #[.int .i64 off, .int .i64 pos, .int .i64 size] 88 (0, 0)) from (hb0.block kb (lt_of_block hbx)).trans hbx)
    rw [← hW0]
    clear hW0 q0 t0 t1 t2 hb0 hbx
    go_wp2_with fail
    go_ret
    exact ⟨by rw [HBAD.out, decide_eq_true (by omega)]; rfl, HBT.out⟩
  have d2d : decide (pos < 0) = false := decide_eq_false d2
  by_cases d3 : size ≤ 0
  · have d3d : decide (size ≤ 0) = true := decide_eq_true d3
    go_upto_region 1 with fail
    obtain ⟨w1, hw1⟩ : ∃ z, z = w.alloc (.cells #[.int .i64 off, .int .i64 pos, .int .i64 size] 88) := ⟨_, rfl⟩
    obtain ⟨kb, hkb⟩ : ∃ z, z = w.heap.size := ⟨_, rfl⟩
    have HB1 : Hid (Below w.heap.size w w1) := by show Below _ _ _; rw [hw1]; exact (Below.refl _ w).alloc (Nat.le_refl _) _
    have hbx : w1.heap[kb]? = some (.cells #[.int .i64 off, .int .i64 pos, .int .i64 size] 88 (0, 0)) := by rw [hw1, hkb]; exact heap_alloc_new w _
    rw [← hw1, ← hkb]
    clear hw1 hkb
    have HX1 := Lib.hid (HX.out.same (HB1.out.block k HX.out.lt))
    have t0 : w1.cell? ⟨kb, 0, none⟩ = some (.int .i64 off) := cell_of_row _ _ 0 _ _ _ hbx
    have t1 : w1.cell? ⟨kb, 1, none⟩ = some (.int .i64 pos) := cell_of_row _ _ 1 _ _ _ hbx
    have t2 : w1.cell? ⟨kb, 2, none⟩ = some (.int .i64 size) := cell_of_row _ _ 2 _ _ _ hbx
    have q0 := HX1.out.c0
    go_quiet (fail)
    obtain ⟨W0, hW0⟩ : ∃ z, z = w1.drewN nq := ⟨_, rfl⟩
    have hb0 : Below w1.heap.size w1 W0 := by rw [hW0]; exact below_drewN w1 nq
    have HBW : Hid (Below w1.heap.size w1 W0) := hb0
    have HBT : Hid (Below w.heap.size w W0) := HB1.out.trans (hb0.mono HB1.out.size)
    have HBX := Lib.hid (show W0.heap[kb]? = some (.cells #[.int .i64 off, .int .i64 pos, .int .i64 size] 88 (0, 0)) from (hb0.block kb (lt_of_block hbx)).trans hbx)
    rw [← hW0]
    clear hW0 q0 t0 t1 t2 hb0 hbx
    go_wp2_with fail
    go_ret
    exact ⟨by rw [HBAD.out, decide_eq_true (by omega)]; rfl, HBT.out⟩
  have d3d : decide (size ≤ 0) = false := decide_eq_false d3
  rcases HL with ⟨h0, hlo, hfi⟩ | ⟨b, o, xp, h0, el, hb, hx, c0, c1, c2⟩
  · subst h0
    go_upto_region 1 with fail
    obtain ⟨w1, hw1⟩ : ∃ z, z = w.alloc (.cells #[.int .i64 off, .int .i64 pos, .int .i64 size] 88) := ⟨_, rfl⟩
    obtain ⟨kb, hkb⟩ : ∃ z, z = w.heap.size := ⟨_, rfl⟩
    have HB1 : Hid (Below w.heap.size w w1) := by show Below _ _ _; rw [hw1]; exact (Below.refl _ w).alloc (Nat.le_refl _) _
    have hbx : w1.heap[kb]? = some (.cells #[.int .i64 off, .int .i64 pos, .int .i64 size] 88 (0, 0)) := by rw [hw1, hkb]; exact heap_alloc_new w _
    rw [← hw1, ← hkb]
    clear hw1 hkb
    have HX1 := Lib.hid (HX.out.same (HB1.out.block k HX.out.lt))
    have t0 : w1.cell? ⟨kb, 0, none⟩ = some (.int .i64 off) := cell_of_row _ _ 0 _ _ _ hbx
    have t1 : w1.cell? ⟨kb, 1, none⟩ = some (.int .i64 pos) := cell_of_row _ _ 1 _ _ _ hbx
    have t2 : w1.cell? ⟨kb, 2, none⟩ = some (.int .i64 size) := cell_of_row _ _ 2 _ _ _ hbx
    have q0 := HX1.out.c0
    go_quiet (fail)
    obtain ⟨W0, hW0⟩ : ∃ z, z = w1.drewN nq := ⟨_, rfl⟩
    have hb0 : Below w1.heap.size w1 W0 := by rw [hW0]; exact below_drewN w1 nq
    have HBW : Hid (Below w1.heap.size w1 W0) := hb0
    have HBT : Hid (Below w.heap.size w W0) := HB1.out.trans (hb0.mono HB1.out.size)
    have HBX := Lib.hid (show W0.heap[kb]? = some (.cells #[.int .i64 off, .int .i64 pos, .int .i64 size] 88 (0, 0)) from (hb0.block kb (lt_of_block hbx)).trans hbx)
    rw [← hW0]
    clear hW0 q0 t0 t1 t2 hb0 hbx
    have q3 := (HX1.out.same (HBW.out.block k HX1.out.lt)).c3
    go_wp2_with fail
    go_ret
    exact ⟨by rw [HBAD.out, decide_eq_false (by omega)]; rfl, HBT.out⟩
  · subst el
    have hn0 : ((n : Int) == 0) = false := by simp; omega
    have hn2 : (1 : Int) ≤ (n : Int) := by omega
    have hn5 : (n : Int) - 1 < (n : Int) := by omega
    have hn3 : ((n : Int) - 1).toNat = n - 1 := by omega
    have hn4 : IntKind.i64.wrap ((n : Int) - 1) = (n : Int) - 1 := by rw [IntKind.wrap_i64]; omega
    have hw4 : IntKind.i64.wrap (pos - xp) = pos - xp := by rw [IntKind.wrap_i64]; have := hp; unfold I64 at this; omega
    have HC : Hid (∀ V, Below w.heap.size w V → V.cell? ⟨b, o + (n - 1) * 3, none⟩ = some (.int .i64 lo) ∧ V.cell? ⟨b, o + (n - 1) * 3 + 1, none⟩ = some (.int .i64 xp) ∧ V.cell? ⟨b, o + (n - 1) * 3 + 2, none⟩ = some (.int .i64 (fi - xp))) := fun V hV =>
      ⟨(hV.cell (p := ⟨b, _, none⟩) hb).trans c0, (hV.cell (p := ⟨b, _, none⟩) hb).trans c1, (hV.cell (p := ⟨b, _, none⟩) hb).trans c2⟩
    clear c0 c1 c2 hb
    go_upto_region 1 with fail
    obtain ⟨w1, hw1⟩ : ∃ z, z = w.alloc (.cells #[.int .i64 off, .int .i64 pos, .int .i64 size] 88) := ⟨_, rfl⟩
    obtain ⟨kb, hkb⟩ : ∃ z, z = w.heap.size := ⟨_, rfl⟩
    have HB1 : Hid (Below w.heap.size w w1) := by show Below _ _ _; rw [hw1]; exact (Below.refl _ w).alloc (Nat.le_refl _) _
    have hbx : w1.heap[kb]? = some (.cells #[.int .i64 off, .int .i64 pos, .int .i64 size] 88 (0, 0)) := by rw [hw1, hkb]; exact heap_alloc_new w _
    rw [← hw1, ← hkb]
    clear hw1 hkb
    have HX1 := Lib.hid (HX.out.same (HB1.out.block k HX.out.lt))
    have t0 : w1.cell? ⟨kb, 0, none⟩ = some (.int .i64 off) := cell_of_row _ _ 0 _ _ _ hbx
    have t1 : w1.cell? ⟨kb, 1, none⟩ = some (.int .i64 pos) := cell_of_row _ _ 1 _ _ _ hbx
    have t2 : w1.cell? ⟨kb, 2, none⟩ = some (.int .i64 size) := cell_of_row _ _ 2 _ _ _ hbx
    have q0 := HX1.out.c0
    go_quiet (fail)
    obtain ⟨W0, hW0⟩ : ∃ z, z = w1.drewN nq := ⟨_, rfl⟩
    have hb0 : Below w1.heap.size w1 W0 := by rw [hW0]; exact below_drewN w1 nq
    have HBW : Hid (Below w1.heap.size w1 W0) := hb0
    have HBT : Hid (Below w.heap.size w W0) := HB1.out.trans (hb0.mono HB1.out.size)
    have HBX := Lib.hid (show W0.heap[kb]? = some (.cells #[.int .i64 off, .int .i64 pos, .int .i64 size] 88 (0, 0)) from (hb0.block kb (lt_of_block hbx)).trans hbx)
    rw [← hW0]
    clear hW0 q0 t0 t1 t2 hb0 hbx
    have q3 := (HX1.out.same (HBW.out.block k HX1.out.lt)).c3
    go_upto_region 5 with fail
    clear q3
    have hdr : Below W0.heap.size W0 W0.drew := (Below.refl _ W0).drew
    have KS : Hid (∀ V, Below W0.heap.size W0 V → (fun (V : World) => V.cell? ⟨k, 3, none⟩ = some (.slice (some ⟨b, o, none⟩) n cap) ∧ V.cell? ⟨b, o + (n - 1) * 3, none⟩ = some (.int .i64 lo) ∧ V.cell? ⟨b, o + (n - 1) * 3 + 1, none⟩ = some (.int .i64 xp) ∧ V.cell? ⟨b, o + (n - 1) * 3 + 2, none⟩ = some (.int .i64 (fi - xp))) V) := fun V hV => ⟨((HX1.out.same (HBW.out.block k HX1.out.lt)).same (hV.block k (HX1.out.same (HBW.out.block k HX1.out.lt)).lt)).c3, HC.out V (HBT.out.trans (hV.mono HBT.out.size))⟩
    refine wp_region_noPanic ?_
    refine wp_region_z [] (fun (V : World) => V.cell? ⟨k, 3, none⟩ = some (.slice (some ⟨b, o, none⟩) n cap) ∧ V.cell? ⟨b, o + (n - 1) * 3, none⟩ = some (.int .i64 lo) ∧ V.cell? ⟨b, o + (n - 1) * 3 + 1, none⟩ = some (.int .i64 xp) ∧ V.cell? ⟨b, o + (n - 1) * 3 + 2, none⟩ = some (.int .i64 (fi - xp))) (by kernel_rfl) ?_
    have hHeld : (fun (V : World) => V.cell? ⟨k, 3, none⟩ = some (.slice (some ⟨b, o, none⟩) n cap) ∧ V.cell? ⟨b, o + (n - 1) * 3, none⟩ = some (.int .i64 lo) ∧ V.cell? ⟨b, o + (n - 1) * 3 + 1, none⟩ = some (.int .i64 xp) ∧ V.cell? ⟨b, o + (n - 1) * 3 + 2, none⟩ = some (.int .i64 (fi - xp))) _ := KS.out _ hdr
    obtain ⟨u0, hu0⟩ : ∃ u, u = W0.drew := ⟨_, rfl⟩
    rw [← hu0] at hHeld hdr
    rw [← hu0]
    clear hu0
    have HQ0 := Lib.hid hdr
    clear hdr
    refine wpAnyZ_take (i := 0) (oi := ⟨_, _, _, _, _, _⟩) (v := ?_) rfl (by kernel_rfl) (by kernel_rfl) (by kernel_rfl) (by kernel_rfl) (by kernel_rfl) (fun _ _ _ h => h) (Or.inl ⟨by rfl, ?_⟩) (by assumption) ?_
    rotate_left
    · intro W hSw
      (try dsimp only at hSw)
      go_simp
      (try with_reducible rfl)
    (try simp only [Act.put, List.setIfInBounds_toArray, List.set_cons_zero, List.set_cons_succ])
    refine wpAnyZ_take (i := 1) (oi := ⟨_, _, _, _, _, _⟩) (v := ?_) rfl (by kernel_rfl) (by kernel_rfl) (by kernel_rfl) (by kernel_rfl) (by kernel_rfl) (fun _ _ _ h => h) (Or.inl ⟨by rfl, ?_⟩) (by assumption) ?_
    rotate_left
    · intro W hSw
      (try dsimp only at hSw)
      go_simp
      (try with_reducible rfl)
    (try simp only [Act.put, List.setIfInBounds_toArray, List.set_cons_zero, List.set_cons_succ])
    refine wpAnyZ_take (i := 2) (oi := ⟨_, _, _, _, _, _⟩) (v := ?_) rfl (by kernel_rfl) (by kernel_rfl) (by kernel_rfl) (by kernel_rfl) (by kernel_rfl) (fun _ _ _ h => h) (Or.inl ⟨by rfl, ?_⟩) (by assumption) ?_
    rotate_left
    · intro W hSw
      (try dsimp only at hSw)
      go_simp
      (try with_reducible rfl)
    (try simp only [Act.put, List.setIfInBounds_toArray, List.set_cons_zero, List.set_cons_succ])
    refine wpAnyZ_take (i := 3) (oi := ⟨_, _, _, _, _, _⟩) (v := ?_) rfl (by kernel_rfl) (by kernel_rfl) (by kernel_rfl) (by kernel_rfl) (by kernel_rfl) (fun _ _ _ h => h) (Or.inl ⟨by rfl, ?_⟩) (by assumption) ?_
    rotate_left
    · intro W hSw
      (try dsimp only at hSw)
      go_simp
      (try with_reducible rfl)
    (try simp only [Act.put, List.setIfInBounds_toArray, List.set_cons_zero, List.set_cons_succ])
    refine wpAnyZ_take (i := 4) (oi := ⟨_, _, _, _, _, _⟩) (v := ?_) rfl (by kernel_rfl) (by kernel_rfl) (by kernel_rfl) (by kernel_rfl) (by kernel_rfl) (fun _ _ _ h => h) (Or.inl ⟨by rfl, ?_⟩) (by assumption) ?_
    rotate_left
    · intro W hSw
      (try dsimp only at hSw)
      go_simp
      (try with_reducible rfl)
    (try simp only [Act.put, List.setIfInBounds_toArray, List.set_cons_zero, List.set_cons_succ])
    refine wpAnyZ_take (i := 5) (oi := ⟨_, _, _, _, _, _⟩) (v := ?_) rfl (by kernel_rfl) (by kernel_rfl) (by kernel_rfl) (by kernel_rfl) (by kernel_rfl) (fun _ _ _ h => h) (Or.inl ⟨by rfl, ?_⟩) (by assumption) ?_
    rotate_left
    · intro W hSw
      (try dsimp only at hSw)
      go_simp
      (try with_reducible rfl)
    (try simp only [Act.put, List.setIfInBounds_toArray, List.set_cons_zero, List.set_cons_succ])
    refine wpAnyZ_take (i := 6) (oi := ⟨_, _, _, _, _, _⟩) (v := ?_) rfl (by kernel_rfl) (by kernel_rfl) (by kernel_rfl) (by kernel_rfl) (by kernel_rfl) (fun _ _ _ h => h) (Or.inl ⟨by rfl, ?_⟩) (by assumption) ?_
    rotate_left
    · intro W hSw
      (try dsimp only at hSw)
      go_simp
      (try with_reducible rfl)
    (try simp only [Act.put, List.setIfInBounds_toArray, List.set_cons_zero, List.set_cons_succ])
    refine wpAnyZ_take (i := 7) (oi := ⟨_, _, _, _, _, _⟩) (v := ?_) rfl (by kernel_rfl) (by kernel_rfl) (by kernel_rfl) (by kernel_rfl) (by kernel_rfl) (fun _ _ _ h => h) (Or.inl ⟨by rfl, ?_⟩) (by assumption) ?_
    rotate_left
    · intro W hSw
      (try dsimp only at hSw)
      go_simp
      (try with_reducible rfl)
    (try simp only [Act.put, List.setIfInBounds_toArray, List.set_cons_zero, List.set_cons_succ])
    refine wpAnyZ_take (i := 8) (oi := ⟨_, _, _, _, _, _⟩) (v := ?_) rfl (by kernel_rfl) (by kernel_rfl) (by kernel_rfl) (by kernel_rfl) (by kernel_rfl) (fun _ _ _ h => h) (Or.inl ⟨by rfl, ?_⟩) (by assumption) ?_
    rotate_left
    · intro W hSw
      (try dsimp only at hSw)
      go_simp
      (try with_reducible rfl)
    (try simp only [Act.put, List.setIfInBounds_toArray, List.set_cons_zero, List.set_cons_succ])
    refine wpAnyZ_take (i := 9) (oi := ⟨_, _, _, _, _, _⟩) (v := ?_) rfl (by kernel_rfl) (by kernel_rfl) (by kernel_rfl) (by kernel_rfl) (by kernel_rfl) (fun _ _ _ h => h) (Or.inl ⟨by rfl, ?_⟩) (by assumption) ?_
    rotate_left
    · intro W hSw
      (try dsimp only at hSw)
      go_simp
      (try with_reducible rfl)
    (try simp only [Act.put, List.setIfInBounds_toArray, List.set_cons_zero, List.set_cons_succ])
    refine wpAnyZ_take (i := 10) (oi := ⟨_, _, _, _, _, _⟩) (v := ?_) rfl (by kernel_rfl) (by kernel_rfl) (by kernel_rfl) (by kernel_rfl) (by kernel_rfl) (fun _ _ _ h => h) (Or.inl ⟨by rfl, ?_⟩) (by assumption) ?_
    rotate_left
    · intro W hSw
      (try dsimp only at hSw)
      go_simp
      (try with_reducible rfl)
    (try simp only [Act.put, List.setIfInBounds_toArray, List.set_cons_zero, List.set_cons_succ])
    refine wpAnyZ_take (i := 11) (oi := ⟨_, _, _, _, _, _⟩) (v := ?_) rfl (by kernel_rfl) (by kernel_rfl) (by kernel_rfl) (by kernel_rfl) (by kernel_rfl) (fun _ _ _ h => h) (Or.inl ⟨by rfl, ?_⟩) (by assumption) ?_
    rotate_left
    · intro W hSw
      (try dsimp only at hSw)
      go_simp
      (try with_reducible rfl)
    (try simp only [Act.put, List.setIfInBounds_toArray, List.set_cons_zero, List.set_cons_succ])
    refine wpAnyZ_ready (rs := [12]) (by kernel_rfl) (by simp) ?_
    refine AllReadyZ.cons (o := ⟨_, _, _, _, _, _⟩) rfl (fun C hC => ?_) AllReadyZ.nil
    go_simp
    have HQ1 : Hid (Below W0.heap.size W0 (u0.alloc (.cells #[.int .i64 0, .int .i64 0, .int .i64 0] 88))) := HQ0.out.alloc HQ0.out.size _
    have hHeld : (fun (V : World) => V.cell? ⟨k, 3, none⟩ = some (.slice (some ⟨b, o, none⟩) n cap) ∧ V.cell? ⟨b, o + (n - 1) * 3, none⟩ = some (.int .i64 lo) ∧ V.cell? ⟨b, o + (n - 1) * 3 + 1, none⟩ = some (.int .i64 xp) ∧ V.cell? ⟨b, o + (n - 1) * 3 + 2, none⟩ = some (.int .i64 (fi - xp))) _ := KS.out _ HQ1.out
    refine hC.out _ _ (fun _ => hHeld) (fun _ => ?_)
    clear hC C
    (try simp only [Act.put, List.setIfInBounds_toArray, List.set_cons_zero, List.set_cons_succ])
    refine wpAnyZ_ready (rs := [13]) (by kernel_rfl) (by simp) ?_
    refine AllReadyZ.cons (o := ⟨_, _, _, _, _, _⟩) rfl (fun C hC => ?_) AllReadyZ.nil
    go_simp
    obtain ⟨u2, hu2⟩ : ∃ u, u = u0.alloc (.cells #[.int .i64 lo, .int .i64 xp, .int .i64 (fi - xp)] 88) := ⟨_, rfl⟩
    obtain ⟨kl, hkl⟩ : ∃ G, G = u0.heap.size := ⟨_, rfl⟩
    have hbb : Below u0.heap.size u0 u2 := by rw [hu2]; exact (Below.refl _ _).alloc (Nat.le_refl _) _
    have HQ2 : Hid (Below W0.heap.size W0 u2) := HQ0.out.trans (hbb.mono HQ0.out.size)
    have HBT2 : Hid (Below w.heap.size w u2) := HBT.out.trans (HQ2.out.mono HBT.out.size)
    have HBX2 := Lib.hid (show u2.heap[kb]? = some (.cells #[.int .i64 off, .int .i64 pos, .int .i64 size] 88 (0, 0)) from (HQ2.out.block kb (lt_of_block HBX.out)).trans HBX.out)
    have HBL2 := Lib.hid (show u2.heap[kl]? = some (.cells #[.int .i64 lo, .int .i64 xp, .int .i64 (fi - xp)] 88 (0, 0)) by rw [hu2, hkl]; exact heap_alloc_new u0 _)
    rw [← hu2, ← hkl]
    clear hu2 hkl hbb
    have hHeld : (fun (V : World) => V.cell? ⟨k, 3, none⟩ = some (.slice (some ⟨b, o, none⟩) n cap) ∧ V.cell? ⟨b, o + (n - 1) * 3, none⟩ = some (.int .i64 lo) ∧ V.cell? ⟨b, o + (n - 1) * 3 + 1, none⟩ = some (.int .i64 xp) ∧ V.cell? ⟨b, o + (n - 1) * 3 + 2, none⟩ = some (.int .i64 (fi - xp))) u2 := KS.out _ HQ2.out
    refine hC.out _ _ (fun _ => hHeld) (fun _ => ?_)
    clear hC C
    (try simp only [Act.put, List.setIfInBounds_toArray, List.set_cons_zero, List.set_cons_succ])
    refine wpAnyZ_done (by kernel_rfl) ?_ _
    refine NoPanic.normal ?_
    clear hHeld KS
    have t0 : u2.cell? ⟨kb, 0, none⟩ = some (.int .i64 off) := cell_of_row _ _ 0 _ _ _ HBX2.out
    have t1 : u2.cell? ⟨kb, 1, none⟩ = some (.int .i64 pos) := cell_of_row _ _ 1 _ _ _ HBX2.out
    have l0 : u2.cell? ⟨kl, 0, none⟩ = some (.int .i64 lo) := cell_of_row _ _ 0 _ _ _ HBL2.out
    have l1 : u2.cell? ⟨kl, 1, none⟩ = some (.int .i64 xp) := cell_of_row _ _ 1 _ _ _ HBL2.out
    have l2 : u2.cell? ⟨kl, 2, none⟩ = some (.int .i64 (fi - xp)) := cell_of_row _ _ 2 _ _ _ HBL2.out
    by_cases d4 : lo < off
    · have d4d : decide (lo < off) = true := decide_eq_true d4
      by_cases d5 : fi - xp ≤ pos - xp
      · have d5d : decide (fi - xp ≤ pos - xp) = true := decide_eq_true d5
        go_wp2_with fail
        go_ret
        exact ⟨by rw [HBAD.out, decide_eq_false (by omega)]; rfl, HBT2.out⟩
      · have d5d : decide (fi - xp ≤ pos - xp) = false := decide_eq_false d5
        go_wp2_with fail
        go_ret
        exact ⟨by rw [HBAD.out, decide_eq_true (by omega)]; rfl, HBT2.out⟩
    · have d4d : decide (lo < off) = false := decide_eq_false d4
      go_wp2_with fail
      go_ret
      exact ⟨by rw [HBAD.out, decide_eq_true (by omega)]; rfl, HBT2.out⟩
end Go.Proofs.Ytlcnpeodhfdhlaa

/-! The code's sparse, Add. -/
namespace Go.Proofs.Ytlcnpeodhfdhlaa
open Go.RowKit
open Go.IxMath Go.VarMath
set_option linter.unusedVariables false

set_option maxRecDepth 100000 in
set_option maxHeartbeats 4000000 in
theorem sparse_any (w : World) (k : Nat) (base every : Int) (es : List En) (bs : List Ba) (ve vb : Value) (h : IxAt w k base every es bs ve vb) (hl : ∀ e ∈ es, 0 ≤ e.pos ∧ e.pos ≤ 4611686018427387904) (hn : es.length ≤ 10000) (pos : Int) (hp : 0 ≤ pos ∧ pos ≤ 9223372036854775807) :
    Calls Try.prog 49 #[.pointer (some ⟨k, 0, none⟩), .int .i64 pos] w fun e w' => e = .returned (.bool (wantE every es pos)) ∧ Hid (Below w.heap.size w w') := by
  obtain ⟨ad, cap, hv, hr⟩ := h.eat
  have hz := last_cell hr hl every pos
  obtain ⟨n, hn'⟩ : ∃ n, n = es.length := ⟨_, rfl⟩
  have hnil : n = 0 → wantE every es pos = true := fun e => by rw [List.eq_nil_of_length_eq_zero (hn'.symm.trans e)]; rfl
  rw [← hn'] at hv hr hz hn
  subst hv
  have q1 := h.box.c1
  have q2 := h.box.c2
  obtain ⟨r, hrr⟩ : ∃ r, r = wantE every es pos := ⟨_, rfl⟩
  rw [← hrr] at hz hnil
  rw [← hrr]
  clear h hr hn' hrr hl
  go_enter Try.func49, Try.ntmps49
  rcases hz with h0 | ⟨b, o, x, h0, el, hx, hc, hw⟩
  · subst h0
    have hr := hnil rfl
    clear hnil
    go_wp2_with fail
    go_ret
    exact ⟨by rw [hr]; rfl, Below.refl _ w⟩
  · obtain ⟨xp, hxp⟩ : ∃ z, z = x.pos := ⟨_, rfl⟩
    rw [← hxp] at hx hc hw
    subst el hw
    clear hxp hnil
    have hn0 : ((n : Int) == 0) = false := by simp; omega
    have hn2 : (1 : Int) ≤ (n : Int) := by omega
    have hn5 : (n : Int) - 1 < (n : Int) := by omega
    have hn3 : ((n : Int) - 1).toNat = n - 1 := by omega
    have hn4 : IntKind.i64.wrap ((n : Int) - 1) = (n : Int) - 1 := by rw [IntKind.wrap_i64]; omega
    have hw4 : IntKind.i64.wrap (pos - xp) = pos - xp := by rw [IntKind.wrap_i64]; omega
    go_upto_region 3 with fail
    go_quiet (fail)
    go_wp2_with fail
    go_ret
    exact ⟨rfl, below_drewN w nq⟩
theorem ents_snoc_of {every : Int} {bs : List Ba} {es : List En} (he : es = ents every bs) (off pos size : Int) : ents every (bs ++ [⟨off, pos, pos + size⟩]) = if wantE every es pos then es ++ [⟨off, pos⟩] else es := by rw [ents_snoc, he]; rfl
theorem gives_ixno {w w' : World} {k : Nat} {F : Nat → Prop} {base every off pos size : Int} {bs : List Ba} (h : IxOk w k F base every bs) (hb : badA base bs off pos size = true) (hw : Below w.heap.size w w') : GivesIx w k F base every (addA base bs off pos size) (!badA base bs off pos size) (.returned (.bool false)) w' := by
  refine ⟨by rw [hb]; rfl, F, ?_, Kept.of_below hw, fun j hj => .inl hj⟩
  unfold addA
  rw [hb]
  exact h.on hw
theorem gives_ixyes {w wx : World} {k : Nat} {F : Nat → Prop} {base every off pos size : Int} {bs : List Ba} {es : List En} {ve vb : Value} (h : Way w wx F k base every es (bs ++ [⟨off, pos, pos + size⟩]) ve vb) (he : es = ents every (bs ++ [⟨off, pos, pos + size⟩])) (h0 : 0 ≤ base ∧ base ≤ 1099511627776 ∧ 1 ≤ every ∧ every ≤ 1073741824) (hm : MadeI base bs) (hb : badA base bs off pos size = false) : GivesIx w k F base every (addA base bs off pos size) (!badA base bs off pos size) (.returned (.bool true)) wx := by
  refine ⟨by rw [hb]; rfl, ?_⟩
  unfold addA
  rw [hb]
  exact h.done he h0 (hm.snoc hb)
set_option maxRecDepth 100000 in
set_option maxHeartbeats 8000000 in
theorem ixAdd_any {w : World} {k : Nat} {F : Nat → Prop} {base every : Int} {bs : List Ba} (h : IxOk w k F base every bs) (hs : Small bs) (off pos size : Int) (ho : I64 off) (hp : -9223372036854775808 ≤ pos ∧ pos ≤ 1099511627776) (hz : -9223372036854775808 ≤ size ∧ size ≤ 1099511627776) :
    Calls Try.prog 34 #[.pointer (some ⟨k, 0, none⟩), .int .i64 off, .int .i64 pos, .int .i64 size] w (GivesIx w k F base every (addA base bs off pos size) (!badA base bs off pos size)) := by
  have H := Lib.hid h
  obtain ⟨h0, hm, ve, vb, hat, hf⟩ := h
  have HY := Lib.hid (Way.start hat hf)
  have HX := Lib.hid hat
  have HB0 := Lib.hid hat
  have HS := Lib.hid hs
  have HM := Lib.hid hm
  have H0 := Lib.hid h0
  have HLE : Hid (∀ e ∈ ents every bs, 0 ≤ e.pos ∧ e.pos ≤ 4611686018427387904) := fun e he => by
    obtain ⟨b, hb, rfl⟩ := ents_mem HM.out e he
    have h1 := made_all HM.out b hb
    have h2 := HS.out.2 b hb
    exact ⟨h1.2.2.1, by show b.pos ≤ _; omega⟩
  have HNE : Hid ((ents every bs).length ≤ 10000) := by show _ ≤ _; have := ents_len every bs; have := HS.out.1; omega
  have HPI : Hid (I64 pos) := by show I64 _; exact ⟨hp.1, by omega⟩
  have HZI : Hid (I64 size) := by show I64 _; exact ⟨hz.1, by omega⟩
  obtain ⟨es, hes⟩ : ∃ l, l = ents every bs := ⟨_, rfl⟩
  rw [← hes] at HX HLE HNE HY
  have HES := Lib.hid hes
  clear hes hat hf h0 hm hs
  obtain ⟨bad, hbad⟩ : ∃ r, r = badA base bs off pos size := ⟨_, rfl⟩
  have HBAD := Lib.hid hbad
  obtain ⟨snt, hsnt⟩ : ∃ r, r = wantE every es pos := ⟨_, rfl⟩
  have HSNT := Lib.hid hsnt
  clear hbad hsnt
  go_enter Try.func34, Try.ntmps34
  go_upto_region 2 with fail
  obtain ⟨w1, hw1⟩ : ∃ z, z = w.alloc (.cells #[.int .i64 off, .int .i64 pos, .int .i64 size] 88) := ⟨_, rfl⟩
  obtain ⟨kb, hkb⟩ : ∃ z, z = w.heap.size := ⟨_, rfl⟩
  have HB1 : Hid (Below w.heap.size w w1) := by show Below _ _ _; rw [hw1]; exact (Below.refl _ w).alloc (Nat.le_refl _) _
  have HBX1 := Lib.hid (show w1.heap[kb]? = some (.cells #[.int .i64 off, .int .i64 pos, .int .i64 size] 88 (0, 0)) by rw [hw1, hkb]; exact heap_alloc_new w _)
  have HKB : Hid (kb = w.heap.size) := hkb
  rw [← hw1, ← hkb]
  clear hw1 hkb
  have t0 : w1.cell? ⟨kb, 0, none⟩ = some (.int .i64 off) := cell_of_row _ _ 0 _ _ _ HBX1.out
  have t1 : w1.cell? ⟨kb, 1, none⟩ = some (.int .i64 pos) := cell_of_row _ _ 1 _ _ _ HBX1.out
  have t2 : w1.cell? ⟨kb, 2, none⟩ = some (.int .i64 size) := cell_of_row _ _ 2 _ _ _ HBX1.out
  go_wp2_with fail
  refine (takes_any w1 k base every es bs ve vb (HX.out.on HB1.out) H0.out.1 HM.out HS.out off pos size HPI.out HZI.out).mono ?_
  rintro e w2 ⟨rfl, HB2⟩
  have HBT2 : Hid (Below w.heap.size w w2) := HB1.out.trans (HB2.out.mono HB1.out.size)
  have HBX2 := Lib.hid (show w2.heap[kb]? = some (.cells #[.int .i64 off, .int .i64 pos, .int .i64 size] 88 (0, 0)) from (HB2.out.block kb (lt_of_block HBX1.out)).trans HBX1.out)
  rw [← HBAD.out]
  clear t0 t1 t2 HB1 HB2 HBX1
  cases bad
  rotate_left
  · go_wp2_with fail
    go_ret
    exact gives_ixno H.out HBAD.out.symm HBT2.out
  have HPG : Hid (0 ≤ pos ∧ pos ≤ 9223372036854775807) := by show _ ∧ _; have := good_of HBAD.out.symm; omega
  go_wp2_with fail
  refine (sparse_any w2 k base every es bs ve vb (HX.out.on HBT2.out) HLE.out HNE.out pos HPG.out).mono ?_
  rintro e w3 ⟨rfl, HB3⟩
  have HBT3 : Hid (Below w.heap.size w w3) := HBT2.out.trans (HB3.out.mono HBT2.out.size)
  have HBX3 := Lib.hid (show w3.heap[kb]? = some (.cells #[.int .i64 off, .int .i64 pos, .int .i64 size] 88 (0, 0)) from (HB3.out.block kb (lt_of_block HBX2.out)).trans HBX2.out)
  have HY3 := Lib.hid (HY.out.on HBT3.out)
  rw [← HSNT.out]
  clear HB3 HBX2 HBT2 HX HY H
  have HNB : Hid (vb.ownBlock ≠ some kb) := fun e => by have := (HB0.out.bas.lt kb e).2; have := HKB.out; omega
  cases snt
  · have HE4 : Hid (es = ents every (bs ++ [⟨off, pos, pos + size⟩])) := by show _ = _; rw [ents_snoc_of HES.out, ← HSNT.out]; rfl
    go_upto_region 6 with fail
    have hdr : Below w3.heap.size w3 w3.drew := (Below.refl _ w3).drew
    have KS : Hid (∀ V, Below w3.heap.size w3 V → (fun (V : World) => V.cell? ⟨k, 3, none⟩ = some vb ∧ V.cell? ⟨kb, 0, none⟩ = some (.int .i64 off) ∧ V.cell? ⟨kb, 1, none⟩ = some (.int .i64 pos) ∧ V.cell? ⟨kb, 2, none⟩ = some (.int .i64 size)) V) := fun V hV => by
      have hb : V.heap[kb]? = _ := (hV.block kb (lt_of_block HBX3.out)).trans HBX3.out
      exact ⟨(HY3.out.at_.on hV).box.c3, cell_of_row _ _ 0 _ _ _ hb, cell_of_row _ _ 1 _ _ _ hb, cell_of_row _ _ 2 _ _ _ hb⟩
    refine wp_region_noPanic ?_
    refine wp_region_z [10] (fun (V : World) => V.cell? ⟨k, 3, none⟩ = some vb ∧ V.cell? ⟨kb, 0, none⟩ = some (.int .i64 off) ∧ V.cell? ⟨kb, 1, none⟩ = some (.int .i64 pos) ∧ V.cell? ⟨kb, 2, none⟩ = some (.int .i64 size)) (by kernel_rfl) ?_
    have hHeld : (fun (V : World) => V.cell? ⟨k, 3, none⟩ = some vb ∧ V.cell? ⟨kb, 0, none⟩ = some (.int .i64 off) ∧ V.cell? ⟨kb, 1, none⟩ = some (.int .i64 pos) ∧ V.cell? ⟨kb, 2, none⟩ = some (.int .i64 size)) _ := KS.out _ hdr
    obtain ⟨u0, hu0⟩ : ∃ u, u = w3.drew := ⟨_, rfl⟩
    rw [← hu0] at hHeld hdr
    rw [← hu0]
    clear hu0
    have HQ0 := Lib.hid hdr
    clear hdr
    refine wpAnyZ_take (i := 0) (oi := ⟨_, _, _, _, _, _⟩) (v := ?_) rfl (by kernel_rfl) (by kernel_rfl) (by kernel_rfl) (by kernel_rfl) (by kernel_rfl) (fun _ _ _ h => h) (Or.inl ⟨by rfl, ?_⟩) (by assumption) ?_
    rotate_left
    · intro W hSw
      (try dsimp only at hSw)
      go_simp
      (try with_reducible rfl)
    (try simp only [Act.put, List.setIfInBounds_toArray, List.set_cons_zero, List.set_cons_succ])
    refine wpAnyZ_take (i := 1) (oi := ⟨_, _, _, _, _, _⟩) (v := ?_) rfl (by kernel_rfl) (by kernel_rfl) (by kernel_rfl) (by kernel_rfl) (by kernel_rfl) (fun _ _ _ h => h) (Or.inl ⟨by rfl, ?_⟩) (by assumption) ?_
    rotate_left
    · intro W hSw
      (try dsimp only at hSw)
      go_simp
      (try with_reducible rfl)
    (try simp only [Act.put, List.setIfInBounds_toArray, List.set_cons_zero, List.set_cons_succ])
    refine wpAnyZ_take (i := 2) (oi := ⟨_, _, _, _, _, _⟩) (v := ?_) rfl (by kernel_rfl) (by kernel_rfl) (by kernel_rfl) (by kernel_rfl) (by kernel_rfl) (fun _ _ _ h => h) (Or.inl ⟨by rfl, ?_⟩) (by assumption) ?_
    rotate_left
    · intro W hSw
      (try dsimp only at hSw)
      go_simp
      (try with_reducible rfl)
    (try simp only [Act.put, List.setIfInBounds_toArray, List.set_cons_zero, List.set_cons_succ])
    refine wpAnyZ_take (i := 3) (oi := ⟨_, _, _, _, _, _⟩) (v := ?_) rfl (by kernel_rfl) (by kernel_rfl) (by kernel_rfl) (by kernel_rfl) (by kernel_rfl) (fun _ _ _ h => h) (Or.inl ⟨by rfl, ?_⟩) (by assumption) ?_
    rotate_left
    · intro W hSw
      (try dsimp only at hSw)
      go_simp
      (try with_reducible rfl)
    (try simp only [Act.put, List.setIfInBounds_toArray, List.set_cons_zero, List.set_cons_succ])
    refine wpAnyZ_take (i := 4) (oi := ⟨_, _, _, _, _, _⟩) (v := ?_) rfl (by kernel_rfl) (by kernel_rfl) (by kernel_rfl) (by kernel_rfl) (by kernel_rfl) (fun _ _ _ h => h) (Or.inl ⟨by rfl, ?_⟩) (by assumption) ?_
    rotate_left
    · intro W hSw
      (try dsimp only at hSw)
      go_simp
      (try with_reducible rfl)
    (try simp only [Act.put, List.setIfInBounds_toArray, List.set_cons_zero, List.set_cons_succ])
    refine wpAnyZ_take (i := 5) (oi := ⟨_, _, _, _, _, _⟩) (v := ?_) rfl (by kernel_rfl) (by kernel_rfl) (by kernel_rfl) (by kernel_rfl) (by kernel_rfl) (fun _ _ _ h => h) (Or.inl ⟨by rfl, ?_⟩) (by assumption) ?_
    rotate_left
    · intro W hSw
      (try dsimp only at hSw)
      go_simp
      (try with_reducible rfl)
    (try simp only [Act.put, List.setIfInBounds_toArray, List.set_cons_zero, List.set_cons_succ])
    refine wpAnyZ_ready (rs := [6]) (by kernel_rfl) (by simp) ?_
    refine AllReadyZ.cons (o := ⟨_, _, _, _, _, _⟩) rfl (fun C hC => ?_) AllReadyZ.nil
    go_simp
    obtain ⟨u1, hu1⟩ : ∃ u, u = u0.alloc (.cells #[.int .i64 off, .int .i64 pos, .int .i64 size] 88) := ⟨_, rfl⟩
    obtain ⟨g1, hg1⟩ : ∃ G, G = u0.heap.size := ⟨_, rfl⟩
    have hbb : Below u0.heap.size u0 u1 := by rw [hu1]; exact (Below.refl _ _).alloc (Nat.le_refl _) _
    have HQ1 : Hid (Below w3.heap.size w3 u1) := HQ0.out.trans (hbb.mono HQ0.out.size)
    have HRX : Hid (RowAt baK u1 (some ⟨g1, 0, none⟩) 1 1 [⟨off, pos, pos + size⟩]) := by show RowAt _ _ _ _ _ _; rw [hu1, hg1]; exact rowAt_lit baK_ok u0 [⟨off, pos, pos + size⟩] (by simp) _ (ba_enc off pos size) 1 rfl
    rw [← hu1, ← hg1]
    clear hu1 hg1 hbb
    have hHeld : (fun (V : World) => V.cell? ⟨k, 3, none⟩ = some vb ∧ V.cell? ⟨kb, 0, none⟩ = some (.int .i64 off) ∧ V.cell? ⟨kb, 1, none⟩ = some (.int .i64 pos) ∧ V.cell? ⟨kb, 2, none⟩ = some (.int .i64 size)) u1 := KS.out _ HQ1.out
    refine hC.out _ _ (fun _ => hHeld) (fun _ => ?_)
    clear hC C
    (try simp only [Act.put, List.setIfInBounds_toArray, List.set_cons_zero, List.set_cons_succ])
    have HYU := Lib.hid (HY3.out.on HQ1.out)
    refine wpAnyZ_ready (rs := [7]) (by kernel_rfl) (by simp) ?_
    refine AllReadyZ.cons (o := ⟨_, _, _, _, _, _⟩) rfl (fun C hC => ?_) AllReadyZ.nil
    refine held_row (by rfl) baK_ok (.tmp 37) (.tmp 39) rfl 0 bs [⟨off, pos, pos + size⟩] vb rfl HYU.out.at_.bas (Nat.zero_le _) (some ⟨g1, 0, none⟩) 1 1 rfl HRX.out (by have := HS.out.1; omega) ?_
    rintro v6 u2 hap
    obtain ⟨ad6, cap6, hv6, _, _⟩ := OwnRow.row baK_ok hap.1 (n := bs.length + 1) (by simp)
    subst hv6
    have HY6 := Lib.hid (HYU.out.put_b hap.1 hap.2.1 hap.2.2.2)
    have HKX : Hid (IxBox u2 k base every ve vb) := HYU.out.at_.box.same (hap.2.1.block k HYU.out.at_.box.lt fun e => HYU.out.at_.vb_k e.symm)
    have hbk : u2.heap[kb]? = some (.cells #[.int .i64 off, .int .i64 pos, .int .i64 size] 88 (0, 0)) := (hap.2.1.block kb (Nat.lt_of_lt_of_le (lt_of_block HBX3.out) HQ1.out.size) fun e => HNB.out e.symm).trans ((HQ1.out.block kb (lt_of_block HBX3.out)).trans HBX3.out)
    have hs2 : (fun (V : World) => V.cell? ⟨k, 3, none⟩ = some vb ∧ V.cell? ⟨kb, 0, none⟩ = some (.int .i64 off) ∧ V.cell? ⟨kb, 1, none⟩ = some (.int .i64 pos) ∧ V.cell? ⟨kb, 2, none⟩ = some (.int .i64 size)) u2 := ⟨HKX.out.c3, cell_of_row _ _ 0 _ _ _ hbk, cell_of_row _ _ 1 _ _ _ hbk, cell_of_row _ _ 2 _ _ _ hbk⟩
    clear hap hbk
    have hHeld : (fun (V : World) => V.cell? ⟨k, 3, none⟩ = some vb ∧ V.cell? ⟨kb, 0, none⟩ = some (.int .i64 off) ∧ V.cell? ⟨kb, 1, none⟩ = some (.int .i64 pos) ∧ V.cell? ⟨kb, 2, none⟩ = some (.int .i64 size)) u2 := hs2
    refine hC.out _ _ (fun _ => hHeld) (fun _ => ?_)
    clear hC C
    (try simp only [Act.put, List.setIfInBounds_toArray, List.set_cons_zero, List.set_cons_succ])
    refine wpAnyZ_take (i := 8) (oi := ⟨_, _, _, _, _, _⟩) (v := ?_) rfl (by kernel_rfl) (by kernel_rfl) (by kernel_rfl) (by kernel_rfl) (by kernel_rfl) (fun _ _ _ h => h) (Or.inl ⟨by rfl, ?_⟩) (by assumption) ?_
    rotate_left
    · intro W hSw
      (try dsimp only at hSw)
      go_simp
      (try with_reducible rfl)
    (try simp only [Act.put, List.setIfInBounds_toArray, List.set_cons_zero, List.set_cons_succ])
    refine wpAnyZ_take (i := 9) (oi := ⟨_, _, _, _, _, _⟩) (v := ?_) rfl (by kernel_rfl) (by kernel_rfl) (by kernel_rfl) (by kernel_rfl) (by kernel_rfl) (fun _ _ _ h => h) (Or.inl ⟨by rfl, ?_⟩) (by assumption) ?_
    rotate_left
    · intro W hSw
      (try dsimp only at hSw)
      go_simp
      (try with_reducible rfl)
    (try simp only [Act.put, List.setIfInBounds_toArray, List.set_cons_zero, List.set_cons_succ])
    have p3 := HKX.out.c3
    have f3 := HKX.out.free 3
    refine wpAnyZ_ready (rs := [10]) (by kernel_rfl) (by simp) ?_
    refine AllReadyZ.cons (o := ⟨_, _, _, _, _, _⟩) rfl (fun C hC => ?_) AllReadyZ.nil
    go_simp
    refine hC.out _ _ (zfree_no (by kernel_rfl)) (fun _ => ?_)
    clear hC C
    (try simp only [Act.put, List.setIfInBounds_toArray, List.set_cons_zero, List.set_cons_succ])
    refine wpAnyZ_done (by kernel_rfl) ?_ _
    refine NoPanic.normal ?_
    obtain ⟨wy, hwy⟩ : ∃ z, z = u2.setCell ⟨k, 3, none⟩ (.slice ad6 (bs.length + 1) cap6) := ⟨_, rfl⟩
    rw [← hwy] at HY6
    rw [← hwy]
    clear hwy p3 f3 hHeld KS hs2
    go_wp2_with fail
    go_ret
    exact gives_ixyes HY6.out HE4.out H0.out HM.out HBAD.out.symm
  · have HE4 : Hid (es ++ [⟨off, pos⟩] = ents every (bs ++ [⟨off, pos, pos + size⟩])) := by show _ = _; rw [ents_snoc_of HES.out, ← HSNT.out]; rfl
    have q2 := HY3.out.at_.box.c2
    have HY4 := Lib.hid (HY3.out.on ((Below.refl _ w3).alloc (Nat.le_refl _) (.cells #[.int .i64 off, .int .i64 pos] 92)))
    have HRX : Hid (RowAt enK (w3.alloc (.cells #[.int .i64 off, .int .i64 pos] 92)) (some ⟨w3.heap.size, 0, none⟩) 1 1 [⟨off, pos⟩]) := rowAt_lit enK_ok w3 [⟨off, pos⟩] (by simp) _ rfl 1 rfl
    go_wp2_with (at_builtin; refine list_row (by rfl) enK_ok (.tmp 25) (.tmp 29) rfl 0 es [⟨off, pos⟩] ve rfl HY4.out.at_.ens (Nat.zero_le _) (some ⟨w3.heap.size, 0, none⟩) 1 1 rfl HRX.out (by have := HNE.out; omega) ?_)
    intro v4 w4 hap
    obtain ⟨ad4, cap4, hv4, _, _⟩ := OwnRow.row enK_ok hap.1 (n := es.length + 1) (by simp)
    subst hv4
    have HY5 := Lib.hid (HY4.out.put_e hap.1 hap.2.1 hap.2.2.2)
    have HBX4 := Lib.hid (show w4.heap[kb]? = some (.cells #[.int .i64 off, .int .i64 pos, .int .i64 size] 88 (0, 0)) by
      have h1 := Below.heap_alloc w3 (.cells #[.int .i64 off, .int .i64 pos] 92) kb (lt_of_block HBX3.out)
      have h2 := HY3.out.at_
      have hlt := lt_of_block HBX3.out
      rw [hap.2.1.block kb (by rw [World.size_alloc]; omega) (fun e => by
        obtain ⟨cur, hc⟩ := own_type h2.ens e.symm
        rw [HBX3.out] at hc
        simp [enK] at hc), h1]
      exact HBX3.out)
    have HKX : Hid (IxBox w4 k base every ve vb) := HY4.out.at_.box.same (hap.2.1.block k HY4.out.at_.box.lt fun e => HY4.out.at_.ve_k e.symm)
    have q2 := HKX.out.c2
    have f2 := HKX.out.free 2
    have HNK : Hid (kb ≠ k) := by show _ ≠ _; intro e; have h1 := HKX.out; unfold IxBox at h1; rw [← e, HBX4.out] at h1; simp at h1
    have HBX5 := Lib.hid (show (w4.setCell ⟨k, 2, none⟩ (.slice ad4 (es.length + 1) cap4)).heap[kb]? = some (.cells #[.int .i64 off, .int .i64 pos, .int .i64 size] 88 (0, 0)) from box_off HBX4.out HNK.out.symm _)
    clear hap HBX4 HRX HY4 HKX HBX3
    go_upto_region 6 with fail
    obtain ⟨w5, hw5⟩ : ∃ z, z = w4.setCell ⟨k, 2, none⟩ (.slice ad4 (es.length + 1) cap4) := ⟨_, rfl⟩
    rw [← hw5] at HY5 HBX5
    rw [← hw5]
    clear hw5 q2 f2
    have hdr : Below w5.heap.size w5 w5.drew := (Below.refl _ w5).drew
    have KS : Hid (∀ V, Below w5.heap.size w5 V → (fun (V : World) => V.cell? ⟨k, 3, none⟩ = some vb ∧ V.cell? ⟨kb, 0, none⟩ = some (.int .i64 off) ∧ V.cell? ⟨kb, 1, none⟩ = some (.int .i64 pos) ∧ V.cell? ⟨kb, 2, none⟩ = some (.int .i64 size)) V) := fun V hV => by
      have hb : V.heap[kb]? = _ := (hV.block kb (lt_of_block HBX5.out)).trans HBX5.out
      exact ⟨(HY5.out.at_.on hV).box.c3, cell_of_row _ _ 0 _ _ _ hb, cell_of_row _ _ 1 _ _ _ hb, cell_of_row _ _ 2 _ _ _ hb⟩
    refine wp_region_noPanic ?_
    refine wp_region_z [10] (fun (V : World) => V.cell? ⟨k, 3, none⟩ = some vb ∧ V.cell? ⟨kb, 0, none⟩ = some (.int .i64 off) ∧ V.cell? ⟨kb, 1, none⟩ = some (.int .i64 pos) ∧ V.cell? ⟨kb, 2, none⟩ = some (.int .i64 size)) (by kernel_rfl) ?_
    have hHeld : (fun (V : World) => V.cell? ⟨k, 3, none⟩ = some vb ∧ V.cell? ⟨kb, 0, none⟩ = some (.int .i64 off) ∧ V.cell? ⟨kb, 1, none⟩ = some (.int .i64 pos) ∧ V.cell? ⟨kb, 2, none⟩ = some (.int .i64 size)) _ := KS.out _ hdr
    obtain ⟨u0, hu0⟩ : ∃ u, u = w5.drew := ⟨_, rfl⟩
    rw [← hu0] at hHeld hdr
    rw [← hu0]
    clear hu0
    have HQ0 := Lib.hid hdr
    clear hdr
    refine wpAnyZ_take (i := 0) (oi := ⟨_, _, _, _, _, _⟩) (v := ?_) rfl (by kernel_rfl) (by kernel_rfl) (by kernel_rfl) (by kernel_rfl) (by kernel_rfl) (fun _ _ _ h => h) (Or.inl ⟨by rfl, ?_⟩) (by assumption) ?_
    rotate_left
    · intro W hSw
      (try dsimp only at hSw)
      go_simp
      (try with_reducible rfl)
    (try simp only [Act.put, List.setIfInBounds_toArray, List.set_cons_zero, List.set_cons_succ])
    refine wpAnyZ_take (i := 1) (oi := ⟨_, _, _, _, _, _⟩) (v := ?_) rfl (by kernel_rfl) (by kernel_rfl) (by kernel_rfl) (by kernel_rfl) (by kernel_rfl) (fun _ _ _ h => h) (Or.inl ⟨by rfl, ?_⟩) (by assumption) ?_
    rotate_left
    · intro W hSw
      (try dsimp only at hSw)
      go_simp
      (try with_reducible rfl)
    (try simp only [Act.put, List.setIfInBounds_toArray, List.set_cons_zero, List.set_cons_succ])
    refine wpAnyZ_take (i := 2) (oi := ⟨_, _, _, _, _, _⟩) (v := ?_) rfl (by kernel_rfl) (by kernel_rfl) (by kernel_rfl) (by kernel_rfl) (by kernel_rfl) (fun _ _ _ h => h) (Or.inl ⟨by rfl, ?_⟩) (by assumption) ?_
    rotate_left
    · intro W hSw
      (try dsimp only at hSw)
      go_simp
      (try with_reducible rfl)
    (try simp only [Act.put, List.setIfInBounds_toArray, List.set_cons_zero, List.set_cons_succ])
    refine wpAnyZ_take (i := 3) (oi := ⟨_, _, _, _, _, _⟩) (v := ?_) rfl (by kernel_rfl) (by kernel_rfl) (by kernel_rfl) (by kernel_rfl) (by kernel_rfl) (fun _ _ _ h => h) (Or.inl ⟨by rfl, ?_⟩) (by assumption) ?_
    rotate_left
    · intro W hSw
      (try dsimp only at hSw)
      go_simp
      (try with_reducible rfl)
    (try simp only [Act.put, List.setIfInBounds_toArray, List.set_cons_zero, List.set_cons_succ])
    refine wpAnyZ_take (i := 4) (oi := ⟨_, _, _, _, _, _⟩) (v := ?_) rfl (by kernel_rfl) (by kernel_rfl) (by kernel_rfl) (by kernel_rfl) (by kernel_rfl) (fun _ _ _ h => h) (Or.inl ⟨by rfl, ?_⟩) (by assumption) ?_
    rotate_left
    · intro W hSw
      (try dsimp only at hSw)
      go_simp
      (try with_reducible rfl)
    (try simp only [Act.put, List.setIfInBounds_toArray, List.set_cons_zero, List.set_cons_succ])
    refine wpAnyZ_take (i := 5) (oi := ⟨_, _, _, _, _, _⟩) (v := ?_) rfl (by kernel_rfl) (by kernel_rfl) (by kernel_rfl) (by kernel_rfl) (by kernel_rfl) (fun _ _ _ h => h) (Or.inl ⟨by rfl, ?_⟩) (by assumption) ?_
    rotate_left
    · intro W hSw
      (try dsimp only at hSw)
      go_simp
      (try with_reducible rfl)
    (try simp only [Act.put, List.setIfInBounds_toArray, List.set_cons_zero, List.set_cons_succ])
    refine wpAnyZ_ready (rs := [6]) (by kernel_rfl) (by simp) ?_
    refine AllReadyZ.cons (o := ⟨_, _, _, _, _, _⟩) rfl (fun C hC => ?_) AllReadyZ.nil
    go_simp
    obtain ⟨u1, hu1⟩ : ∃ u, u = u0.alloc (.cells #[.int .i64 off, .int .i64 pos, .int .i64 size] 88) := ⟨_, rfl⟩
    obtain ⟨g1, hg1⟩ : ∃ G, G = u0.heap.size := ⟨_, rfl⟩
    have hbb : Below u0.heap.size u0 u1 := by rw [hu1]; exact (Below.refl _ _).alloc (Nat.le_refl _) _
    have HQ1 : Hid (Below w5.heap.size w5 u1) := HQ0.out.trans (hbb.mono HQ0.out.size)
    have HRX : Hid (RowAt baK u1 (some ⟨g1, 0, none⟩) 1 1 [⟨off, pos, pos + size⟩]) := by show RowAt _ _ _ _ _ _; rw [hu1, hg1]; exact rowAt_lit baK_ok u0 [⟨off, pos, pos + size⟩] (by simp) _ (ba_enc off pos size) 1 rfl
    rw [← hu1, ← hg1]
    clear hu1 hg1 hbb
    have hHeld : (fun (V : World) => V.cell? ⟨k, 3, none⟩ = some vb ∧ V.cell? ⟨kb, 0, none⟩ = some (.int .i64 off) ∧ V.cell? ⟨kb, 1, none⟩ = some (.int .i64 pos) ∧ V.cell? ⟨kb, 2, none⟩ = some (.int .i64 size)) u1 := KS.out _ HQ1.out
    refine hC.out _ _ (fun _ => hHeld) (fun _ => ?_)
    clear hC C
    (try simp only [Act.put, List.setIfInBounds_toArray, List.set_cons_zero, List.set_cons_succ])
    have HYU := Lib.hid (HY5.out.on HQ1.out)
    refine wpAnyZ_ready (rs := [7]) (by kernel_rfl) (by simp) ?_
    refine AllReadyZ.cons (o := ⟨_, _, _, _, _, _⟩) rfl (fun C hC => ?_) AllReadyZ.nil
    refine held_row (by rfl) baK_ok (.tmp 37) (.tmp 39) rfl 0 bs [⟨off, pos, pos + size⟩] vb rfl HYU.out.at_.bas (Nat.zero_le _) (some ⟨g1, 0, none⟩) 1 1 rfl HRX.out (by have := HS.out.1; omega) ?_
    rintro v6 u2 hap
    obtain ⟨ad6, cap6, hv6, _, _⟩ := OwnRow.row baK_ok hap.1 (n := bs.length + 1) (by simp)
    subst hv6
    have HY6 := Lib.hid (HYU.out.put_b hap.1 hap.2.1 hap.2.2.2)
    have HKX : Hid (IxBox u2 k base every (.slice ad4 (es.length + 1) cap4) vb) := HYU.out.at_.box.same (hap.2.1.block k HYU.out.at_.box.lt fun e => HYU.out.at_.vb_k e.symm)
    have hbk : u2.heap[kb]? = some (.cells #[.int .i64 off, .int .i64 pos, .int .i64 size] 88 (0, 0)) := (hap.2.1.block kb (Nat.lt_of_lt_of_le (lt_of_block HBX5.out) HQ1.out.size) fun e => HNB.out e.symm).trans ((HQ1.out.block kb (lt_of_block HBX5.out)).trans HBX5.out)
    have hs2 : (fun (V : World) => V.cell? ⟨k, 3, none⟩ = some vb ∧ V.cell? ⟨kb, 0, none⟩ = some (.int .i64 off) ∧ V.cell? ⟨kb, 1, none⟩ = some (.int .i64 pos) ∧ V.cell? ⟨kb, 2, none⟩ = some (.int .i64 size)) u2 := ⟨HKX.out.c3, cell_of_row _ _ 0 _ _ _ hbk, cell_of_row _ _ 1 _ _ _ hbk, cell_of_row _ _ 2 _ _ _ hbk⟩
    clear hap hbk
    have hHeld : (fun (V : World) => V.cell? ⟨k, 3, none⟩ = some vb ∧ V.cell? ⟨kb, 0, none⟩ = some (.int .i64 off) ∧ V.cell? ⟨kb, 1, none⟩ = some (.int .i64 pos) ∧ V.cell? ⟨kb, 2, none⟩ = some (.int .i64 size)) u2 := hs2
    refine hC.out _ _ (fun _ => hHeld) (fun _ => ?_)
    clear hC C
    (try simp only [Act.put, List.setIfInBounds_toArray, List.set_cons_zero, List.set_cons_succ])
    refine wpAnyZ_take (i := 8) (oi := ⟨_, _, _, _, _, _⟩) (v := ?_) rfl (by kernel_rfl) (by kernel_rfl) (by kernel_rfl) (by kernel_rfl) (by kernel_rfl) (fun _ _ _ h => h) (Or.inl ⟨by rfl, ?_⟩) (by assumption) ?_
    rotate_left
    · intro W hSw
      (try dsimp only at hSw)
      go_simp
      (try with_reducible rfl)
    (try simp only [Act.put, List.setIfInBounds_toArray, List.set_cons_zero, List.set_cons_succ])
    refine wpAnyZ_take (i := 9) (oi := ⟨_, _, _, _, _, _⟩) (v := ?_) rfl (by kernel_rfl) (by kernel_rfl) (by kernel_rfl) (by kernel_rfl) (by kernel_rfl) (fun _ _ _ h => h) (Or.inl ⟨by rfl, ?_⟩) (by assumption) ?_
    rotate_left
    · intro W hSw
      (try dsimp only at hSw)
      go_simp
      (try with_reducible rfl)
    (try simp only [Act.put, List.setIfInBounds_toArray, List.set_cons_zero, List.set_cons_succ])
    have p3 := HKX.out.c3
    have f3 := HKX.out.free 3
    refine wpAnyZ_ready (rs := [10]) (by kernel_rfl) (by simp) ?_
    refine AllReadyZ.cons (o := ⟨_, _, _, _, _, _⟩) rfl (fun C hC => ?_) AllReadyZ.nil
    go_simp
    refine hC.out _ _ (zfree_no (by kernel_rfl)) (fun _ => ?_)
    clear hC C
    (try simp only [Act.put, List.setIfInBounds_toArray, List.set_cons_zero, List.set_cons_succ])
    refine wpAnyZ_done (by kernel_rfl) ?_ _
    refine NoPanic.normal ?_
    obtain ⟨wy, hwy⟩ : ∃ z, z = u2.setCell ⟨k, 3, none⟩ (.slice ad6 (bs.length + 1) cap6) := ⟨_, rfl⟩
    rw [← hwy] at HY6
    rw [← hwy]
    clear hwy p3 f3 hHeld KS hs2
    go_wp2_with fail
    go_ret
    exact gives_ixyes HY6.out HE4.out H0.out HM.out HBAD.out.symm
end Go.Proofs.Ytlcnpeodhfdhlaa
