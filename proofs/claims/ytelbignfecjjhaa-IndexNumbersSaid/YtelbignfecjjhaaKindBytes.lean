/- Kinds of things in memory: bytes. -/
import Derived.Test.YtelbignfecjjhaaRows2
namespace Go.Proofs.Ytelbignfecjjhaa
open Go.RowKit
set_option linter.unusedVariables false

def byteK : Kind Nat := ⟨fun n => [.int .u8 (n : Int)], 1, 5, 29⟩
theorem byteK_ok : byteK.Ok 1 where
  und := Try.underlying29
  info := by
    obtain ⟨i, hi, hz, hs, hb⟩ := info_parts info5
    exact ⟨i, _, hi, hz, hs, hb, rfl⟩
  len := fun _ => rfl
  pos := by decide
  one := fun r u hu => by
    obtain rfl := List.mem_singleton.1 hu
    rfl
  few := by decide
theorem byteK_all : ∀ l : List Nat, byteK.all l = vals l
  | [] => rfl
  | x :: l => by
    have := byteK_all l
    unfold Kind.all vals at *
    rw [List.flatMap_cons, this]
    rfl
theorem own_bytes {w : World} {base : Nat} {v : Value} {l : List Nat} : OwnRow byteK w base v l ↔ w.ownsRow base 5 1 v l.length (vals l) := by
  unfold OwnRow
  rw [byteK_all]
  exact Iff.rfl
theorem row_bytes {w : World} {ad : Option Addr} {len cap : Nat} {l : List Nat} (h : Row w ad len cap l) : RowAt byteK w ad len cap l := by
  refine ⟨h.1.length, h.1.fits, h.2, ?_⟩
  have hl := h.1.length
  rcases h.1.cells with h0 | ⟨b, off, e, hc⟩
  · exact .inl h0
  · by_cases h0 : len = 0
    · exact .inl h0
    · refine .inr ⟨b, off, e, World.block_lt_of_cell? w _ (hc 0 (by omega)), fun i x hi j u hj => ?_⟩
      have hil : i < len := by have := (List.getElem?_eq_some_iff.1 hi).1; omega
      rcases j with _ | j
      · cases hj
        have := hc i hil
        rw [List.getD_eq_getElem?_getD, hi] at this
        show w.cell? ⟨b, off + (i * 1 + 0), none⟩ = _
        rw [Nat.mul_one, Nat.add_zero]
        exact this
      · simp [byteK] at hj
/-- 'x[k] ^= ..'. -/
theorem own_turned {w : World} {base g n cap k : Nat} {bs : List Nat} {z : Int} {y : Nat} (h : w.ownsRow base 5 1 (.slice (some ⟨g, 0, none⟩) n cap) n (vals bs)) (hz : z = (y : Int)) : (w.setCell ⟨g, k, none⟩ (.int .u8 z)).ownsRow base 5 1 (.slice (some ⟨g, 0, none⟩) n cap) n (vals (bs.set k y)) := by
  subst hz
  have := (World.ownsRow.stored h k (.int .u8 (y : Int))).1
  have e : (vals bs).set k (.int .u8 (y : Int)) = vals (bs.set k y) := by unfold vals; rw [List.map_set]; rfl
  rwa [e] at this
theorem all_set {bs : List Nat} (h : AllB bs) (k y : Nat) (hy : y < 256) : AllB (bs.set k y) := by
  intro x hx
  rcases List.mem_or_eq_of_mem_set hx with h1 | rfl
  · exact h x h1
  · exact hy
theorem own_byt {w : World} {base n : Nat} {v : Value} {l : List Nat} (h : OwnRow byteK w base v l) (ha : AllB l) (hn : l.length = n) : ∃ ad cap, v = .slice ad n cap ∧ Row w ad n cap l := by
  have h1 := own_bytes.1 h
  rw [hn] at h1
  obtain ⟨ad', cap', e, h2⟩ := owns_any h1 ha
  exact ⟨ad', cap', e, h2⟩
theorem byte_get {w : World} {ad : Option Addr} {len cap : Nat} {l : List Nat} (h : RowAt byteK w ad len cap l) {i : Nat} (hi : i < len) : ∃ b off k, ad = some ⟨b, off, none⟩ ∧ b < w.heap.size ∧ l[i]? = some k ∧ w.cell? ⟨b, off + i, none⟩ = some (.int .u8 (k : Int)) := by
  obtain ⟨b, off, k, e, hb, hk, hc⟩ := h.get hi
  have := hc 0 _ rfl
  rw [show i * byteK.size + 0 = i from Nat.mul_one i] at this
  exact ⟨b, off, k, e, hb, hk, this⟩
theorem byt_of {w : World} {ad : Option Addr} {len cap : Nat} {l : List Nat} (h : RowAt byteK w ad len cap l) (ha : AllB l) : Byt w ad len cap l := by
  refine ⟨h.length, h.fits, ha, ?_⟩
  rcases Nat.eq_zero_or_pos len with h0 | h0
  · exact .inl h0
  · obtain ⟨b, off, k, rfl, hb, hk, hc⟩ := byte_get h h0
    refine .inr ⟨b, off, rfl, fun i hi => ?_⟩
    obtain ⟨b2, off2, k2, e, _, hk2, hc2⟩ := byte_get h hi
    cases e
    rw [hc2, List.getD_eq_getElem?_getD, hk2]
    rfl
end Go.Proofs.Ytelbignfecjjhaa
