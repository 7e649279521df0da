/- Chapter 8: entries and asks in memory; the law's own plain index in memory. -/
import Derived.Test.YtelbignfecjjhaaFoot
import Derived.Test.YtelbignfecjjhaaIxMath
import Derived.Test.YtelbignfecjjhaaKindBytes
namespace Go.Proofs.Ytelbignfecjjhaa
open Go.RowKit
open Go.IxMath Go.VarMath
set_option linter.unusedVariables false

theorem infoEn : (Try.prog.info? 46).map (fun i => (i.zero, i.size, i.bytes)) = some (some (.agg #[.int .i64 0, .int .i64 0]), 2, 16) := by kernel_rfl
def enK : Kind En := ⟨fun x => [.int .i64 x.off, .int .i64 x.pos], 2, 46, 34⟩
theorem enK_ok : enK.Ok 16 where
  und := Try.underlying34
  info := by
    obtain ⟨i, hi, hz, hs, hb⟩ := info_parts infoEn
    exact ⟨i, _, hi, hz, hs, hb, rfl⟩
  len := fun _ => rfl
  pos := by decide
  one := fun r u hu => by
    simp only [enK, List.mem_cons, List.not_mem_nil, or_false] at hu
    rcases hu with rfl | rfl <;> rfl
  few := by decide
structure Aq where
  kind : Int
  pos : Int
  size : Int
  off : Int
theorem infoAq : (Try.prog.info? 24).map (fun i => (i.zero, i.size, i.bytes)) = some (some (.agg #[.int .i64 0, .int .i64 0, .int .i64 0, .int .i64 0]), 4, 32) := by kernel_rfl
def aqK : Kind Aq := ⟨fun x => [.int .i64 x.kind, .int .i64 x.pos, .int .i64 x.size, .int .i64 x.off], 4, 24, 22⟩
theorem aqK_ok : aqK.Ok 32 where
  und := Try.underlying22
  info := by
    obtain ⟨i, hi, hz, hs, hb⟩ := info_parts infoAq
    exact ⟨i, _, hi, hz, hs, hb, rfl⟩
  len := fun _ => rfl
  pos := by decide
  one := fun r u hu => by
    simp only [aqK, List.mem_cons, List.not_mem_nil, or_false] at hu
    rcases hu with rfl | rfl | rfl | rfl <;> rfl
  few := by decide
def I64 (z : Int) : Prop := -9223372036854775808 ≤ z ∧ z ≤ 9223372036854775807
structure AqIn (x : Aq) : Prop where
  kind : I64 x.kind
  pos : I64 x.pos
  size : I64 x.size
  off : I64 x.off
structure AqAt (W : World) (b o : Nat) (x : Aq) : Prop where
  c0 : W.cell? ⟨b, o, none⟩ = some (.int .i64 x.kind)
  c1 : W.cell? ⟨b, o + 1, none⟩ = some (.int .i64 x.pos)
  c2 : W.cell? ⟨b, o + 2, none⟩ = some (.int .i64 x.size)
  c3 : W.cell? ⟨b, o + 3, none⟩ = some (.int .i64 x.off)
theorem aq_get {w : World} {ad : Option Addr} {len cap : Nat} {l : List Aq} (h : RowAt aqK w ad len cap l) {i : Nat} (hi : i < len) : ∃ b off x, ad = some ⟨b, off, none⟩ ∧ b < w.heap.size ∧ l[i]? = some x ∧ AqAt w b (off + i * 4) x := by
  obtain ⟨b, off, x, e, hb, hx, hc⟩ := h.get hi
  exact ⟨b, off, x, e, hb, hx, hc 0 _ rfl, hc 1 _ rfl, hc 2 _ rfl, hc 3 _ rfl⟩
theorem AqAt.on {w w' : World} {b o : Nat} {x : Aq} {B : Nat} (h : AqAt w b o x) (hb : Below B w w') (hl : b < B) : AqAt w' b o x :=
  ⟨(hb.cell (p := ⟨b, _, none⟩) hl).trans h.c0, (hb.cell (p := ⟨b, _, none⟩) hl).trans h.c1, (hb.cell (p := ⟨b, _, none⟩) hl).trans h.c2, (hb.cell (p := ⟨b, _, none⟩) hl).trans h.c3⟩
/-- The cells of one entry. -/
theorem en_get {w : World} {ad : Option Addr} {len cap : Nat} {l : List En} (h : RowAt enK w ad len cap l) {i : Nat} (hi : i < len) : ∃ b off x, ad = some ⟨b, off, none⟩ ∧ b < w.heap.size ∧ l[i]? = some x ∧ w.cell? ⟨b, off + i * 2, none⟩ = some (.int .i64 x.off) ∧ w.cell? ⟨b, off + i * 2 + 1, none⟩ = some (.int .i64 x.pos) := by
  obtain ⟨b, off, x, e, hb, hx, hc⟩ := h.get hi
  exact ⟨b, off, x, e, hb, hx, hc 0 _ rfl, hc 1 _ rfl⟩
/-- The law's plain index: its box. -/
def PlBox (w : World) (k : Nat) (base last every fin : Int) (v : Value) : Prop := w.heap[k]? = some (.cells #[.int .i64 base, .int .i64 last, .int .i64 every, .int .i64 fin, v] 50 (0, 0))
section
variable {w w' : World} {k : Nat} {base last every fin : Int} {v : Value}
theorem PlBox.c0 (h : PlBox w k base last every fin v) : w.cell? ⟨k, 0, none⟩ = some (.int .i64 base) := by rw [cell_of_row _ _ 0 _ _ _ h]; rfl
theorem PlBox.c1 (h : PlBox w k base last every fin v) : w.cell? ⟨k, 1, none⟩ = some (.int .i64 last) := by rw [cell_of_row _ _ 1 _ _ _ h]; rfl
theorem PlBox.c2 (h : PlBox w k base last every fin v) : w.cell? ⟨k, 2, none⟩ = some (.int .i64 every) := by rw [cell_of_row _ _ 2 _ _ _ h]; rfl
theorem PlBox.c3 (h : PlBox w k base last every fin v) : w.cell? ⟨k, 3, none⟩ = some (.int .i64 fin) := by rw [cell_of_row _ _ 3 _ _ _ h]; rfl
theorem PlBox.c4 (h : PlBox w k base last every fin v) : w.cell? ⟨k, 4, none⟩ = some v := by rw [cell_of_row _ _ 4 _ _ _ h]; rfl
theorem PlBox.free (h : PlBox w k base last every fin v) (j : Nat) : w.frozen? ⟨k, j, none⟩ = false := frozen_of_row w k j _ _ h
theorem PlBox.lt (h : PlBox w k base last every fin v) : k < w.heap.size := lt_of_block h
theorem PlBox.same (h : PlBox w k base last every fin v) (hs : w'.heap[k]? = w.heap[k]?) : PlBox w' k base last every fin v := hs.trans h
theorem PlBox.s1 (h : PlBox w k base last every fin v) (z : Int) : PlBox (w.setCell ⟨k, 1, none⟩ (.int .i64 z)) k base z every fin v := box_set h 1 _
theorem PlBox.s3 (h : PlBox w k base last every fin v) (z : Int) : PlBox (w.setCell ⟨k, 3, none⟩ (.int .i64 z)) k base last every z v := box_set h 3 _
theorem PlBox.s4 (h : PlBox w k base last every fin v) (z : Value) : PlBox (w.setCell ⟨k, 4, none⟩ z) k base last every fin z := box_set h 4 _
end
/-- The law's plain index, with these batches in it. -/
structure PlAt (w : World) (kp : Nat) (ad : Option Addr) (n cap : Nat) (base every : Int) (bs : List Ba) : Prop where
  box : PlBox w kp base (lastO bs) every (lastF bs) (.slice ad n cap)
  row : RowAt enK w ad n cap (ents every bs)
  far : ∀ a, ad = some a → a.block < w.heap.size ∧ a.block ≠ kp
section
variable {w w' : World} {kp n cap : Nat} {ad : Option Addr} {base every : Int} {bs : List Ba}
theorem PlAt.on (h : PlAt w kp ad n cap base every bs) (hb : Below w.heap.size w w') : PlAt w' kp ad n cap base every bs :=
  ⟨h.box.same (hb.block kp h.box.lt), h.row.keep hb, fun a ha => ⟨Nat.lt_of_lt_of_le (h.far a ha).1 hb.size, (h.far a ha).2⟩⟩
theorem PlAt.kept {F : Nat → Prop} (h : PlAt w kp ad n cap base every bs) (hk : Kept w w' F) (hn : ¬ F kp ∧ ∀ a, ad = some a → ¬ F a.block) : PlAt w' kp ad n cap base every bs :=
  ⟨h.box.same (hk.block kp h.box.lt hn.1), hk.row h.row hn.2, fun a ha => ⟨Nat.lt_of_lt_of_le (h.far a ha).1 hk.size, (h.far a ha).2⟩⟩
end
end Go.Proofs.Ytelbignfecjjhaa
