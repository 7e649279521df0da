/- Rows of numbers that came in; batches that are added one behind the other. -/
import Derived.Test.YtelbignfecjjhaaIxKnown
namespace Go.Proofs.Ytelbignfecjjhaa
open Go.RowKit
open Go.IxMath
open Go.VarMath hiding AllB
set_option linter.unusedVariables false

theorem int_get {w : World} {a : Option Addr} {len cap : Nat} {zs : List Int} (h : IsRow .i64 w a len cap zs) {i : Nat} (hi : i < len) : ∃ b off z, a = some ⟨b, off, none⟩ ∧ b < w.heap.size ∧ w.cell? ⟨b, off + i, none⟩ = some (.int .i64 z) ∧ I64 z := by
  rcases h with ⟨rfl, h0, rfl, rfl⟩ | ⟨x, rfl, hl, hm, hz, hc, hw⟩
  · omega
  · obtain ⟨b, off, spot⟩ := x
    have h0 := hc 0 (by omega)
    have hs : spot = none := by simpa [Addr.add] using World.cell?_spot h0
    subst hs
    have h1 := hc i (by omega)
    rw [add_at] at h1
    have hi2 : i < zs.length := by omega
    have hwf := bounds_i64 (hw (zs.getD i 0) (by rw [List.getD_eq_getElem?_getD, List.getElem?_eq_getElem hi2]; simp))
    refine ⟨b, off, _, rfl, ?_, h1, hwf⟩
    exact Classical.byContradiction fun hn => by
      unfold World.cell? at h1
      simp only at h1
      rw [Array.getElem?_eq_none (by omega)] at h1
      simp at h1
/-- Batches whose offsets are o0, o0 + st, .. one behind the other. -/
structure RowI (bs : List Ba) (o0 st : Int) (i : Nat) (p : Int) : Prop where
  len : bs.length = i
  last : lastO bs < o0 + st * i
  fin : lastF bs = p
  pos : 0 ≤ p ∧ p ≤ 100 * i
  small : Small bs
theorem rowI_nil {o0 st : Int} (h : 0 ≤ o0) : RowI [] o0 st 0 0 := ⟨rfl, by show (-1 : Int) < _; rw [Int.mul_comm]; simp; omega, rfl, ⟨by omega, by omega⟩, small_nil⟩
theorem RowI.good {bs : List Ba} {o0 st p : Int} {i : Nat} (h : RowI bs o0 st i p) {base n : Int} (hb : base ≤ o0 + st * i) (hn : 1 ≤ n) : badA base bs (o0 + st * i) p n = false ∧ addA base bs (o0 + st * i) p n = bs ++ [⟨o0 + st * i, p, p + n⟩] := by
  have h1 : badA base bs (o0 + st * i) p n = false := by
    have h2 := h.last
    have h3 := h.fin
    have h4 := h.pos
    exact decide_eq_false (by omega)
  refine ⟨h1, ?_⟩
  unfold addA
  rw [h1]
  rfl
theorem RowI.next {bs : List Ba} {o0 st p : Int} {i : Nat} (h : RowI bs o0 st i p) {n : Int} (hst : 0 < st ∧ st ≤ 10) (ho : 0 ≤ o0 ∧ o0 ≤ 100) (hi : i < 40) (hn : 1 ≤ n ∧ n ≤ 61) : RowI (bs ++ [⟨o0 + st * i, p, p + n⟩]) o0 st (i + 1) (p + n) := by
  have h1 := h.small
  have h2 := h.len
  have h4 := h.pos
  have h5 : st * (i : Int) ≤ 10 * (i : Int) := Int.mul_le_mul_of_nonneg_right hst.2 (by omega)
  refine ⟨by rw [List.length_append, h.len]; rfl, ?_, by rw [lastF_snoc], ⟨by omega, by omega⟩, ⟨by rw [List.length_append, List.length_singleton]; omega, fun b hb => ?_⟩⟩
  · rw [lastO_snoc]
    show o0 + st * (i : Int) < o0 + st * ((i + 1 : Nat) : Int)
    have : st * ((i + 1 : Nat) : Int) = st * (i : Int) + st := by rw [show ((i + 1 : Nat) : Int) = (i : Int) + 1 by omega, Int.mul_add, Int.mul_one]
    omega
  · rcases List.mem_append.1 hb with h3 | h3
    · exact h1.2 b h3
    · rw [List.mem_singleton.1 h3]
      exact ⟨by show o0 + st * (i : Int) ≤ _; omega, by show p + n ≤ _; omega⟩
theorem find_low_aux (off : Int) : ∀ (l : List En) (z : Int), (∀ e ∈ l, off < e.off) → l.foldl (fun a e => if e.off ≤ off then e.pos else a) z = z
  | [], z, _ => rfl
  | e :: l, z, h => by
    rw [List.foldl_cons, if_neg (by have := h e List.mem_cons_self; omega)]
    exact find_low_aux off l z fun x hx => h x (List.mem_cons_of_mem _ hx)
theorem find_low {every base off : Int} {bs : List Ba} (h : MadeI base bs) (hb : off < base) : findE (ents every bs) off = 0 := by
  refine find_low_aux off _ 0 fun e he => ?_
  obtain ⟨b, hb2, rfl⟩ := ents_mem h e he
  have := (made_all h b hb2).1
  show off < b.off
  omega
theorem RowI.bad {bs : List Ba} {o0 st p : Int} {i : Nat} (base n q : Int) : badA base (bs ++ [⟨o0 + st * i, p, n⟩]) (o0 + st * i) q 1 = true ∧ addA base (bs ++ [⟨o0 + st * i, p, n⟩]) (o0 + st * i) q 1 = bs ++ [⟨o0 + st * i, p, n⟩] := by
  have h1 : badA base (bs ++ [⟨o0 + st * i, p, n⟩]) (o0 + st * i) q 1 = true := decide_eq_true (by
    rw [lastO_snoc]
    exact .inr (.inl (Int.le_refl _)))
  refine ⟨h1, ?_⟩
  unfold addA
  rw [h1]
  rfl
theorem bits_range (n m : Int) : I64 (bits .and .i64 n m) := by
  show I64 (IntKind.i64.wrap _)
  unfold I64
  rw [IntKind.wrap_i64]
  omega
end Go.Proofs.Ytelbignfecjjhaa
