/- The code's index in memory: its box, its entries, its batches. -/
import Derived.Test.YtelbignfecjjhaaIxPlain
import Derived.Test.YtelbignfecjjhaaIxMore
namespace Go.Proofs.Ytelbignfecjjhaa
open Go.RowKit
open Go.IxMath Go.VarMath
set_option linter.unusedVariables false

theorem infoBa : (Try.prog.info? 56).map (fun i => (i.zero, i.size, i.bytes)) = some (some (.agg #[.int .i64 0, .int .i64 0, .int .i64 0]), 3, 24) := by kernel_rfl
def baK : Kind Ba := ⟨fun x => [.int .i64 x.off, .int .i64 x.pos, .int .i64 (x.fin - x.pos)], 3, 56, 52⟩
theorem baK_ok : baK.Ok 24 where
  und := Try.underlying52
  info := by
    obtain ⟨i, hi, hz, hs, hb⟩ := info_parts infoBa
    exact ⟨i, _, hi, hz, hs, hb, rfl⟩
  len := fun _ => rfl
  pos := by decide
  one := fun r u hu => by
    simp only [baK, List.mem_cons, List.not_mem_nil, or_false] at hu
    rcases hu with rfl | rfl | rfl <;> rfl
  few := by decide
/-- The box of an index. -/
def IxBox (w : World) (k : Nat) (base every : Int) (ve vb : Value) : Prop := w.heap[k]? = some (.cells #[.int .i64 base, .int .i64 every, ve, vb] 54 (0, 0))
section
variable {w w' : World} {k : Nat} {base every : Int} {ve vb : Value}
theorem IxBox.c0 (h : IxBox w k base every ve vb) : w.cell? ⟨k, 0, none⟩ = some (.int .i64 base) := by rw [cell_of_row _ _ 0 _ _ _ h]; rfl
theorem IxBox.c1 (h : IxBox w k base every ve vb) : w.cell? ⟨k, 1, none⟩ = some (.int .i64 every) := by rw [cell_of_row _ _ 1 _ _ _ h]; rfl
theorem IxBox.c2 (h : IxBox w k base every ve vb) : w.cell? ⟨k, 2, none⟩ = some ve := by rw [cell_of_row _ _ 2 _ _ _ h]; rfl
theorem IxBox.c3 (h : IxBox w k base every ve vb) : w.cell? ⟨k, 3, none⟩ = some vb := by rw [cell_of_row _ _ 3 _ _ _ h]; rfl
theorem IxBox.free (h : IxBox w k base every ve vb) (j : Nat) : w.frozen? ⟨k, j, none⟩ = false := frozen_of_row w k j _ _ h
theorem IxBox.lt (h : IxBox w k base every ve vb) : k < w.heap.size := lt_of_block h
theorem IxBox.same (h : IxBox w k base every ve vb) (hs : w'.heap[k]? = w.heap[k]?) : IxBox w' k base every ve vb := hs.trans h
theorem IxBox.s2 (h : IxBox w k base every ve vb) (z : Value) : IxBox (w.setCell ⟨k, 2, none⟩ z) k base every z vb := box_set h 2 _
theorem IxBox.s3 (h : IxBox w k base every ve vb) (z : Value) : IxBox (w.setCell ⟨k, 3, none⟩ z) k base every ve z := box_set h 3 _
end
/-- A row's block tells what lies in it. -/
theorem own_type {α : Type} {K : Kind α} {w : World} {b : Nat} {v : Value} {l : List α} {q : Nat} (h : OwnRow K w b v l) (hq : v.ownBlock = some q) : ∃ cur, w.heap[q]? = some (.cells cur K.ty (0, 0)) := by
  rcases h.2 with ⟨h0, _⟩ | ⟨g, cap, cur, h1, _, h2, _⟩
  · rw [h0] at hq; cases hq
  · rw [h1] at hq
    cases hq
    exact ⟨cur, h2⟩
/-- A row of one's own, cut behind its first n. -/
theorem OwnRow.cut {α : Type} {K : Kind α} {bytes : Nat} (hK : K.Ok bytes) {w : World} {b : Nat} {v : Value} {l : List α} (h : OwnRow K w b v l) (n : Nat) (hn : n ≤ l.length) :
    ∃ ad cap, v = .slice ad l.length cap ∧ n ≤ cap ∧ OwnRow K w b (.slice ad n cap) (l.take n) ∧ Value.ownBlock (.slice ad n cap) = v.ownBlock := by
  have hl : (l.take n).length = n := by rw [List.length_take]; omega
  rcases h.2 with ⟨h0, h1⟩ | ⟨g, cap, cur, h1, h2, h3, h4, h5, h6, h7⟩
  · have hn0 : n = 0 := by omega
    subst hn0
    exact ⟨none, 0, by rw [h0, h1], Nat.le_refl _, by rw [List.take_zero]; exact ownRow_nil K w b, by rw [h0]⟩
  · refine ⟨_, cap, h1, by omega, ⟨by rw [hK.all_len], .inr ⟨g, cap, cur, by rw [hl], h2, h3, by rw [hl]; omega, h5, h6, ?_⟩⟩, by rw [h1]; rfl⟩
    have e : K.all l = K.all (l.take n) ++ K.all (l.drop n) := by rw [← K.all_app, List.take_append_drop]
    rw [hl]
    have h8 : (cur.toList.take (l.length * K.size)).take (n * K.size) = cur.toList.take (n * K.size) := by
      rw [List.take_take]
      congr 1
      have := Nat.mul_le_mul_right K.size hn
      omega
    rw [← h8, h7, e, List.take_left' (by rw [hK.all_len, hl])]
/-- An index of the code. -/
structure IxAt (w : World) (k : Nat) (base every : Int) (es : List En) (bs : List Ba) (ve vb : Value) : Prop where
  box : IxBox w k base every ve vb
  ens : OwnRow enK w 0 ve es
  bas : OwnRow baK w 0 vb bs
/-- The blocks that it has. -/
def IFoot (k : Nat) (ve vb : Value) (j : Nat) : Prop := j = k ∨ ve.ownBlock = some j ∨ vb.ownBlock = some j
section
variable {w w' : World} {k : Nat} {base every : Int} {es : List En} {bs : List Ba} {ve vb : Value}
theorem IxAt.same (h : IxAt w k base every es bs ve vb) (hs : ∀ j, IFoot k ve vb j → w'.heap[j]? = w.heap[j]?) : IxAt w' k base every es bs ve vb :=
  ⟨h.box.same (hs k (.inl rfl)), h.ens.same fun q hq => hs q (.inr (.inl hq)), h.bas.same fun q hq => hs q (.inr (.inr hq))⟩
theorem IxAt.lt (h : IxAt w k base every es bs ve vb) {j : Nat} (hj : IFoot k ve vb j) : j < w.heap.size := by
  rcases hj with rfl | h1 | h1
  · exact h.box.lt
  · exact (h.ens.lt j h1).2
  · exact (h.bas.lt j h1).2
theorem IxAt.on (h : IxAt w k base every es bs ve vb) (hb : Below w.heap.size w w') : IxAt w' k base every es bs ve vb := h.same fun j hj => hb.block j (h.lt hj)
theorem IxAt.ve_k (h : IxAt w k base every es bs ve vb) : ve.ownBlock ≠ some k := fun e => by
  obtain ⟨cur, hc⟩ := own_type h.ens e
  have h1 := h.box
  unfold IxBox at h1
  rw [hc] at h1
  simp [enK] at h1
theorem IxAt.vb_k (h : IxAt w k base every es bs ve vb) : vb.ownBlock ≠ some k := fun e => by
  obtain ⟨cur, hc⟩ := own_type h.bas e
  have h1 := h.box
  unfold IxBox at h1
  rw [hc] at h1
  simp [baK] at h1
theorem IxAt.ve_vb (h : IxAt w k base every es bs ve vb) {q : Nat} (h1 : ve.ownBlock = some q) (h2 : vb.ownBlock = some q) : False := by
  obtain ⟨cur, hc⟩ := own_type h.ens h1
  obtain ⟨cur', hc'⟩ := own_type h.bas h2
  rw [hc] at hc'
  simp [enK, baK] at hc'
/-- Its entries. -/
theorem IxAt.eat (h : IxAt w k base every es bs ve vb) : ∃ ad cap, ve = .slice ad es.length cap ∧ RowAt enK w ad es.length cap es := by
  obtain ⟨ad, cap, h1, h2, _⟩ := h.ens.at enK_ok
  exact ⟨ad, cap, h1, h2⟩
theorem IxAt.bat (h : IxAt w k base every es bs ve vb) : ∃ ad cap, vb = .slice ad bs.length cap ∧ RowAt baK w ad bs.length cap bs := by
  obtain ⟨ad, cap, h1, h2, _⟩ := h.bas.at baK_ok
  exact ⟨ad, cap, h1, h2⟩
end
/-- The cells of one batch. -/
theorem ba_get {w : World} {ad : Option Addr} {len cap : Nat} {l : List Ba} (h : RowAt baK w ad len cap l) {i : Nat} (hi : i < len) : ∃ b off x, ad = some ⟨b, off, none⟩ ∧ b < w.heap.size ∧ l[i]? = some x ∧ w.cell? ⟨b, off + i * 3, none⟩ = some (.int .i64 x.off) ∧ w.cell? ⟨b, off + i * 3 + 1, none⟩ = some (.int .i64 x.pos) ∧ w.cell? ⟨b, off + i * 3 + 2, none⟩ = some (.int .i64 (x.fin - x.pos)) := by
  obtain ⟨b, off, x, e, hb, hx, hc⟩ := h.get hi
  exact ⟨b, off, x, e, hb, hx, hc 0 _ rfl, hc 1 _ rfl, hc 2 _ rfl⟩
def badN (base every : Int) : Bool := decide (base < 0 ∨ 1099511627776 < base ∨ every < 1 ∨ 1073741824 < every)
/-- The numbers of these batches are none too great. -/
def Small (bs : List Ba) : Prop := bs.length ≤ 1000 ∧ ∀ b ∈ bs, b.off ≤ 9223372036854775807 ∧ b.fin ≤ 4611686018427387903
/-- The code's index at k, with these batches in it; F: the blocks that it is made of. -/
def IxOk (w : World) (k : Nat) (F : Nat → Prop) (base every : Int) (bs : List Ba) : Prop :=
  (0 ≤ base ∧ base ≤ 1099511627776 ∧ 1 ≤ every ∧ every ≤ 1073741824) ∧ MadeI base bs ∧ ∃ ve vb, IxAt w k base every (ents every bs) bs ve vb ∧ ∀ j, F j ↔ IFoot k ve vb j
section
variable {w w' : World} {k : Nat} {F : Nat → Prop} {base every : Int} {bs : List Ba}
theorem IxOk.lt (h : IxOk w k F base every bs) : ∀ j, F j → j < w.heap.size := by
  obtain ⟨_, _, ve, vb, h1, h2⟩ := h
  exact fun j hj => h1.lt ((h2 j).1 hj)
theorem IxOk.on (h : IxOk w k F base every bs) (hb : Below w.heap.size w w') : IxOk w' k F base every bs := by
  obtain ⟨h1, h2, ve, vb, h3, h4⟩ := h
  exact ⟨h1, h2, ve, vb, h3.on hb, h4⟩
theorem IxOk.kept {G : Nat → Prop} (h : IxOk w k F base every bs) (hk : Kept w w' G) (hd : ∀ j, F j → ¬ G j) : IxOk w' k F base every bs := by
  obtain ⟨h1, h2, ve, vb, h3, h4⟩ := h
  exact ⟨h1, h2, ve, vb, h3.same fun j hj => hk.block j (h3.lt hj) (hd j ((h4 j).2 hj)), h4⟩
theorem IxOk.base0 (h : IxOk w k F base every bs) : 0 ≤ base ∧ base ≤ 1099511627776 ∧ 1 ≤ every := ⟨h.1.1, h.1.2.1, h.1.2.2.1⟩
theorem IxOk.made (h : IxOk w k F base every bs) : MadeI base bs := h.2.1
end
/-- The last batch that was added. -/
theorem last_ba {w : World} {ad : Option Addr} {cap : Nat} {base : Int} {bs : List Ba} (h : RowAt baK w ad bs.length cap bs) (hm : MadeI base bs) (hs : ∀ b ∈ bs, b.fin ≤ 4611686018427387903) :
    bs = [] ∨ ∃ (b o : Nat) (xo xp xf : Int), 0 < bs.length ∧ ad = some ⟨b, o, none⟩ ∧ b < w.heap.size ∧ (0 ≤ xp ∧ xp < xf ∧ xf ≤ 4611686018427387903) ∧ lastO bs = xo ∧ lastF bs = xf ∧
      w.cell? ⟨b, o + (bs.length - 1) * 3, none⟩ = some (.int .i64 xo) ∧ w.cell? ⟨b, o + (bs.length - 1) * 3 + 1, none⟩ = some (.int .i64 xp) ∧ w.cell? ⟨b, o + (bs.length - 1) * 3 + 2, none⟩ = some (.int .i64 (xf - xp)) := by
  rcases Nat.eq_zero_or_pos bs.length with h0 | h0
  · exact .inl (List.eq_nil_of_length_eq_zero h0)
  · obtain ⟨b, o, x, e, hb, hx, c0, c1, c2⟩ := ba_get h (show bs.length - 1 < bs.length by omega)
    have hla : bs.getLast? = some x := by rw [List.getLast?_eq_getElem?]; exact hx
    have hmem := List.mem_of_getElem? hx
    have h1 := made_all hm x hmem
    have h2 := hs x hmem
    refine .inr ⟨b, o, x.off, x.pos, x.fin, h0, e, hb, ⟨h1.2.2.1, h1.2.2.2.1, h2⟩, ?_, ?_, c0, c1, c2⟩
    · unfold lastO; rw [hla]
    · unfold lastF; rw [hla]
/-- An index on its way: what it holds now; all that has turned is its own. -/
structure Way (w wx : World) (F : Nat → Prop) (k : Nat) (base every : Int) (es : List En) (bs : List Ba) (ve vb : Value) : Prop where
  at_ : IxAt wx k base every es bs ve vb
  kept : Kept w wx F
  foot : ∀ j, IFoot k ve vb j → F j ∨ w.heap.size ≤ j
theorem own_set {α : Type} {K : Kind α} {w : World} {b : Nat} {v : Value} {l : List α} {k : Nat} (h : OwnRow K w b v l) (hk : v.ownBlock ≠ some k) (j : Nat) (u : Value) : OwnRow K (w.setCell ⟨k, j, none⟩ u) b v l :=
  h.grown (grow_one w k j u) fun q hq e => hk (hq.trans e)
section
variable {w wx w1 w2 : World} {F : Nat → Prop} {k : Nat} {base every : Int} {es es' : List En} {bs bs' : List Ba} {ve vb v' : Value}
theorem Way.on (h : Way w wx F k base every es bs ve vb) (hb : Below wx.heap.size wx w1) : Way w w1 F k base every es bs ve vb :=
  ⟨h.at_.on hb, h.kept.trans (Kept.of_below (F := F) hb) fun i hi => .inl hi, h.foot⟩
/-- Other entries are stored into the box. -/
theorem Way.put_e (h : Way w wx F k base every es bs ve vb) (ho : OwnRow enK w1 0 v' es') (hg : wx.grownBy w1 ve.ownBlock) (hv : ∀ q, v'.ownBlock = some q → ve.ownBlock = some q ∨ wx.heap.size ≤ q) : Way w (w1.setCell ⟨k, 2, none⟩ v') F k base every es' bs v' vb := by
  have hb1 : IxBox w1 k base every ve vb := h.at_.box.same (hg.block k h.at_.box.lt fun e => h.at_.ve_k e.symm)
  have hvb1 : OwnRow baK w1 0 vb bs := h.at_.bas.same fun q hq => hg.block q (h.at_.bas.lt q hq).2 fun e => h.at_.ve_vb e.symm hq
  have hk : v'.ownBlock ≠ some k := fun e => by
    obtain ⟨cur, hc⟩ := own_type ho e
    have h1 := hb1
    unfold IxBox at h1
    rw [hc] at h1
    simp [enK] at h1
  have hk2 : vb.ownBlock ≠ some k := h.at_.vb_k
  refine ⟨⟨hb1.s2 v', own_set ho hk _ _, own_set hvb1 hk2 _ _⟩, ?_, fun j hj => ?_⟩
  · refine (h.kept.trans (Kept.of_own (F := IFoot k ve vb) hg fun q hq => .inl (.inr (.inl hq))) h.foot).trans (Kept.of_grown (F := fun j => j = k) (grow_one _ _ _ _) (.inl rfl)) fun i hi => ?_
    rw [hi]
    exact h.foot k (.inl rfl)
  · rcases hj with h1 | h1 | h1
    · exact h.foot j (.inl h1)
    · rcases hv j h1 with h2 | h2
      · exact h.foot j (.inr (.inl h2))
      · exact .inr (Nat.le_trans h.kept.size h2)
    · exact h.foot j (.inr (.inr h1))
theorem Way.put_b (h : Way w wx F k base every es bs ve vb) (ho : OwnRow baK w1 0 v' bs') (hg : wx.grownBy w1 vb.ownBlock) (hv : ∀ q, v'.ownBlock = some q → vb.ownBlock = some q ∨ wx.heap.size ≤ q) : Way w (w1.setCell ⟨k, 3, none⟩ v') F k base every es bs' ve v' := by
  have hb1 : IxBox w1 k base every ve vb := h.at_.box.same (hg.block k h.at_.box.lt fun e => h.at_.vb_k e.symm)
  have hve1 : OwnRow enK w1 0 ve es := h.at_.ens.same fun q hq => hg.block q (h.at_.ens.lt q hq).2 fun e => h.at_.ve_vb hq e.symm
  have hk : v'.ownBlock ≠ some k := fun e => by
    obtain ⟨cur, hc⟩ := own_type ho e
    have h1 := hb1
    unfold IxBox at h1
    rw [hc] at h1
    simp [baK] at h1
  have hk2 : ve.ownBlock ≠ some k := h.at_.ve_k
  refine ⟨⟨hb1.s3 v', own_set hve1 hk2 _ _, own_set ho hk _ _⟩, ?_, fun j hj => ?_⟩
  · refine (h.kept.trans (Kept.of_own (F := IFoot k ve vb) hg fun q hq => .inl (.inr (.inr hq))) h.foot).trans (Kept.of_grown (F := fun j => j = k) (grow_one _ _ _ _) (.inl rfl)) fun i hi => ?_
    rw [hi]
    exact h.foot k (.inl rfl)
  · rcases hj with h1 | h1 | h1
    · exact h.foot j (.inl h1)
    · exact h.foot j (.inr (.inl h1))
    · rcases hv j h1 with h2 | h2
      · exact h.foot j (.inr (.inr h2))
      · exact .inr (Nat.le_trans h.kept.size h2)
end
def GivesIx (w : World) (k : Nat) (F : Nat → Prop) (base every : Int) (bs' : List Ba) (r : Bool) (e : Ending) (w' : World) : Prop :=
  e = .returned (.bool r) ∧ ∃ F', Hid (IxOk w' k F' base every bs') ∧ Hid (Kept w w' F) ∧ Hid (∀ j, F' j → F j ∨ w.heap.size ≤ j)
theorem Way.start {w : World} {k : Nat} {F : Nat → Prop} {base every : Int} {bs : List Ba} {ve vb : Value} (h : IxAt w k base every (ents every bs) bs ve vb) (hf : ∀ j, F j ↔ IFoot k ve vb j) : Way w w F k base every (ents every bs) bs ve vb :=
  ⟨h, Kept.refl _ _, fun j hj => .inl ((hf j).2 hj)⟩
theorem Way.done {w wx : World} {k : Nat} {F : Nat → Prop} {base every : Int} {bs : List Ba} {es : List En} {ve vb : Value} (h : Way w wx F k base every es bs ve vb) (he : es = ents every bs) (h0 : 0 ≤ base ∧ base ≤ 1099511627776 ∧ 1 ≤ every ∧ every ≤ 1073741824) (hm : MadeI base bs) :
    ∃ F', Hid (IxOk wx k F' base every bs) ∧ Hid (Kept w wx F) ∧ Hid (∀ j, F' j → F j ∨ w.heap.size ≤ j) := by
  subst he
  exact ⟨IFoot k ve vb, ⟨h0, hm, ve, vb, h.at_, fun j => Iff.rfl⟩, h.kept, h.foot⟩
theorem ba_enc (off pos size : Int) : #[Value.int .i64 off, .int .i64 pos, .int .i64 size] = (baK.all [⟨off, pos, pos + size⟩]).toArray := by
  show _ = #[Value.int .i64 off, .int .i64 pos, .int .i64 (pos + size - pos)]
  rw [show pos + size - pos = size by omega]
end Go.Proofs.Ytelbignfecjjhaa
