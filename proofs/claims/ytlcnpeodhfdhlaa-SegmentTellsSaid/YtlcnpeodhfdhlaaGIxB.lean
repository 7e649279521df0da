/- The code's Find, Entries, Bytes. The code's Cut. The code's entry, Read. What the code's index is: its contracts, gathered. -/
import Derived.Test.YtlcnpeodhfdhlaaGIxA
import Derived.Test.YtlcnpeodhfdhlaaRegionZ
import Derived.Test.YtlcnpeodhfdhlaaGVar
import Derived.Test.YtlcnpeodhfdhlaaGTape
import Derived.Test.YtlcnpeodhfdhlaaGRows
import Derived.Laws.ResultCell
/-! The code's Find, Entries, Bytes. -/
namespace Go.Proofs.Ytlcnpeodhfdhlaa
open Go.RowKit
open Go.IxMath
open Go.VarMath hiding AllB
set_option linter.unusedVariables false

theorem rise_lt {every : Int} {l : List En} (h : Rise every l) : ∀ (d i : Nat) (a b : En), l[i]? = some a → l[i + d + 1]? = some b → a.off < b.off
  | 0, i, a, b, ha, hb => (h i a b ha hb).1
  | d + 1, i, a, b, ha, hb => by
    have hlt := (List.getElem?_eq_some_iff.1 hb).1
    have hc : l[i + d + 1]? = some (l[i + d + 1]'(by omega)) := List.getElem?_eq_getElem (by omega)
    have h1 := rise_lt h d i a _ ha hc
    have h2 := (h (i + d + 1) _ b hc hb).1
    omega
/-- What a binary search keeps. -/
structure Bin (l : List En) (off : Int) (lo hi : Nat) : Prop where
  le : lo ≤ hi
  fits : hi ≤ l.length
  low : ∀ (j : Nat) (e : En), j < lo → l[j]? = some e → e.off ≤ off
  high : ∀ (j : Nat) (e : En), hi ≤ j → l[j]? = some e → off < e.off
theorem Bin.up {every : Int} {l : List En} {off : Int} {lo hi m : Nat} {x : En} (h : Bin l off lo hi) (hr : Rise every l) (hm : l[m]? = some x) (h1 : lo ≤ m) (h2 : m < hi) (hx : x.off ≤ off) : Bin l off (m + 1) hi :=
  ⟨by omega, h.fits, fun j e hj he => by
    rcases Nat.lt_or_ge j m with h3 | h3
    · have := rise_lt hr (m - j - 1) j e x he (by rw [show j + (m - j - 1) + 1 = m by omega]; exact hm)
      omega
    · obtain rfl : j = m := by omega
      rw [hm] at he
      cases he
      exact hx, h.high⟩
theorem ixEntries_any {w : World} {k : Nat} {F : Nat → Prop} {base every : Int} {bs : List Ba} (h : IxOk w k F base every bs) (hs : Small bs) (n : Nat) (hn : (ents every bs).length = n) : Calls Try.prog 28 #[.pointer (some ⟨k, 0, none⟩)] w fun e w' => ∃ ad cap, e = .returned (.slice ad n cap) ∧ Hid (RowAt enK w' ad n cap (ents every bs)) ∧ Hid (Below w.heap.size w w') := by
  obtain ⟨h0, hm, ve, vb, hat, hf⟩ := h
  have hne : (ents every bs).length ≤ 10000 := by have := ents_len every bs; have := hs.1; omega
  obtain ⟨es, hes⟩ : ∃ l, l = ents every bs := ⟨_, rfl⟩
  rw [← hes] at hat hne hn
  rw [← hes]
  obtain ⟨ad, cap, hv, hr⟩ := hat.eat
  have HN := Lib.hid hn
  rw [hn] at hv hr hne
  subst hv
  have q2 := hat.box.c2
  have HR := Lib.hid hr
  clear h0 hm hat hf hes hr hn hs
  go_enter Try.func28, Try.ntmps28
  go_wp2_with (at_builtin; refine list_row (by rfl) enK_ok (.const (.slice none 0 0)) (.tmp 6) rfl w.heap.size [] es (.slice none 0 0) rfl (ownRow_nil enK w w.heap.size) (Nat.le_refl _) ad n cap rfl HR.out (by rw [List.length_nil]; omega) ?_)
  intro v1 w1 hap
  obtain ⟨ad1, cap1, hv1, hr1, _⟩ := OwnRow.row enK_ok hap.1 (n := n) HN.out
  subst hv1
  have HR1 : Hid (RowAt enK w1 ad1 n cap1 es) := hr1
  have HB1 : Hid (Below w.heap.size w w1) := (Below.refl _ w).grown hap.2.1 (Nat.le_refl _) fun q hq => by cases hq
  clear hap hr1
  go_wp2_with fail
  go_ret
  exact ⟨ad1, cap1, rfl, HR1.out, HB1.out⟩
/-- The bytes so far. -/
structure By8 (w wr : World) (base : Int) (v : Value) (l : List En) (i : Nat) : Prop where
  below : Below w.heap.size w wr
  own : OwnRow byteK wr w.heap.size v (bytesE base (l.take i))
end Go.Proofs.Ytlcnpeodhfdhlaa

/-! The code's Cut. -/
namespace Go.Proofs.Ytlcnpeodhfdhlaa
open Go.RowKit
open Go.IxMath
open Go.VarMath hiding AllB
set_option linter.unusedVariables false

end Go.Proofs.Ytlcnpeodhfdhlaa

/-! The code's entry, Read. -/
namespace Go.Proofs.Ytlcnpeodhfdhlaa
open Go.RowKit
open Go.IxMath
open Go.VarMath hiding AllB
set_option linter.unusedVariables false

/-- Entries as batches of one byte. -/
def ones (l : List En) : List Ba := l.map fun e => ⟨e.off, e.pos, e.pos + 1⟩
/-- What can be read. -/
structure Right8 (base every : Int) (M : List En) : Prop where
  rise : Rise every M
  some_ : ∀ e ∈ M, base ≤ e.off ∧ e.off ≤ 9223372036854775807 ∧ 0 ≤ e.pos ∧ e.pos ≤ 4611686018427387902
/-- A Read on its way. -/
structure Rd8 (w wr : World) (k : Nat) (base every : Int) (M : List En) (i : Nat) (ad : Option Addr) (ln cap : Nat) : Prop where
  row : RowAt byteK w ad ln cap (bytesE base (M.drop i))
  way : ∃ ve vb, Way w wr (fun j => w.heap.size ≤ j) k base every (M.take i) (ones (M.take i)) ve vb
end Go.Proofs.Ytlcnpeodhfdhlaa

/-! What the code's index is: its contracts, gathered. -/
namespace Go.Proofs.Ytlcnpeodhfdhlaa
end Go.Proofs.Ytlcnpeodhfdhlaa
