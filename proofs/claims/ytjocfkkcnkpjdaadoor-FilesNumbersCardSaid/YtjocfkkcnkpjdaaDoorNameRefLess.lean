/- Less, the document's own. -/
import Derived.Test.YtjocfkkcnkpjdaaDoorNameRefRunes
namespace Go.Proofs.YtjocfkkcnkpjdaaDoor
open Go.RowKit
open Go.RuneMath
set_option linter.unusedVariables false

/-- A slice of runes reads as l. -/
structure R32 (w : World) (ad : Option Addr) (len : Nat) (l : List Nat) : Prop where
  length : l.length = len
  cells : len = 0 ∨ ∃ b, ad = some ⟨b, 0, none⟩ ∧ ∀ i, i < len → w.cell? ⟨b, i, none⟩ = some (.int .i32 (l.getD i 0 : Nat))
theorem R32.keep {w w' : World} {ad : Option Addr} {len : Nat} {l : List Nat} (h : R32 w ad len l) {B : Nat} (hb : Below B w w') (hB : w.heap.size ≤ B) : R32 w' ad len l := by
  refine ⟨h.length, ?_⟩
  rcases h.cells with h0 | ⟨b, e, hc⟩
  · exact .inl h0
  · refine .inr ⟨b, e, fun i hi => ?_⟩
    have := hc i hi
    rw [hb.cell (p := ⟨b, i, none⟩) (by have := World.block_lt_of_cell? w _ this; exact Nat.lt_of_lt_of_le this hB)]
    exact this
theorem R32.at {w : World} {ad : Option Addr} {len : Nat} {l : List Nat} (h : R32 w ad len l) {i : Nat} (hi : i < len) : ∃ b, ad = some ⟨b, 0, none⟩ ∧ w.cell? ⟨b, i, none⟩ = some (.int .i32 (l.getD i 0 : Nat)) := by
  rcases h.cells with h0 | ⟨b, e, hc⟩
  · omega
  · exact ⟨b, e, hc i hi⟩
theorem r32_owns {w : World} {base n : Nat} {v : Value} {l : List Nat} (h : w.ownsRow base 21 1 v n (rvals l)) : ∃ ad cap, v = .slice ad n cap ∧ n ≤ cap ∧ cap ≤ maxLen ∧ R32 w ad n l := by
  have hl := h.1
  rw [rvals_len, Nat.mul_one] at hl
  rcases h.2 with ⟨hv, hn⟩ | ⟨g, cap, cur, rfl, hg, hh, hc, hm, hsz, ht⟩
  · subst hn
    exact ⟨none, 0, hv, Nat.le_refl _, by unfold maxLen; omega, ⟨hl, .inl rfl⟩⟩
  · refine ⟨_, cap, rfl, hc, hm, ⟨hl, .inr ⟨g, rfl, fun i hi => ?_⟩⟩⟩
    rw [cell_of_row w g i _ _ _ hh]
    have h1 : (cur.toList.take (n * 1))[i]? = cur[i]? := by rw [List.getElem?_take, if_pos (by omega)]; simp
    rw [← h1, ht]
    simp [rvals, rval, show i < l.length by omega]
theorem less_at {x y : List Nat} {i : Nat} (hx : i < x.length) (hy : i < y.length) : lessR (x.drop i) (y.drop i) = if x.getD i 0 = y.getD i 0 then lessR (x.drop (i + 1)) (y.drop (i + 1)) else decide (x.getD i 0 < y.getD i 0) := by
  rw [List.drop_eq_getElem_cons hx, List.drop_eq_getElem_cons hy, lessR_cons]
  simp [hx, hy]
theorem less_out {x y : List Nat} {i : Nat} (hx : i ≤ x.length) (hy : i ≤ y.length) (h : ¬ (i < x.length ∧ i < y.length)) : lessR (x.drop i) (y.drop i) = decide (x.length < y.length) := by
  by_cases h1 : i < y.length
  · have : x.length ≤ i := by omega
    rw [List.drop_eq_nil_of_le this, nil_less (by intro e; have := congrArg List.length e; rw [List.length_drop] at this; simp at this; omega)]
    simp; omega
  · rw [List.drop_eq_nil_of_le (by omega : y.length ≤ i), less_nil]
    simp; omega
/-- What the loop keeps. -/
def LRel (w wr : World) (x y : List Nat) (L : Bool) (i : Nat) : Prop := lessR (x.drop i) (y.drop i) = L ∧ Below w.heap.size w wr
set_option maxHeartbeats 400000 in
set_option maxRecDepth 100000 in
theorem ref_less_any (w : World) (a b : ByteArray) (ha : a.size ≤ 1073741824) (hb : b.size ≤ 1073741824) : Calls Tryd.prog 57 #[.string a, .string b] w (Lesses a b w) := by
  have CA := Lib.hid (fun W => runes_any W a ha)
  have CB := Lib.hid (fun W => runes_any W b hb)
  have hla : (runes a.data.toList).length ≤ 1073741824 := by
    have := runes_len a.data.toList
    rw [← Lib.size_eq] at this
    omega
  have hlb : (runes b.data.toList).length ≤ 1073741824 := by
    have := runes_len b.data.toList
    rw [← Lib.size_eq] at this
    omega
  obtain ⟨L, hL⟩ : ∃ L, L = lessB a.data.toList b.data.toList := ⟨_, rfl⟩
  have HL := Lib.hid hL
  unfold Runs at CA CB
  unfold lessB at hL
  obtain ⟨x, hx⟩ : ∃ x, x = runes a.data.toList := ⟨_, rfl⟩
  obtain ⟨y, hy⟩ : ∃ y, y = runes b.data.toList := ⟨_, rfl⟩
  rw [← hx, ← hy] at hL
  rw [← hx] at CA hla
  rw [← hy] at CB hlb
  obtain ⟨m, hm⟩ : ∃ m, m = x.length := ⟨_, rfl⟩
  obtain ⟨n, hn⟩ : ∃ n, n = y.length := ⟨_, rfl⟩
  rw [← hm] at CA hla
  rw [← hn] at CB hlb
  have HLX := Lib.hid hL
  have HM := Lib.hid hm
  have HN := Lib.hid hn
  clear hL hx hy hm hn ha hb
  go_enter Tryd.func57, Tryd.ntmps57
  go_wp2_with fail
  refine (CA.out _).mono ?_
  rintro e w1 ⟨v1, rfl, ho1, hb1⟩
  obtain ⟨ad1, cap1, rfl, hc1, hm1, hr1⟩ := r32_owns ho1
  have HB1 := Lib.hid hb1
  have HR1 := Lib.hid hr1
  clear ho1 hb1 hr1
  go_wp2_with fail
  refine (CB.out _).mono ?_
  rintro e w2 ⟨v2, rfl, ho2, hb2⟩
  obtain ⟨ad2, cap2, rfl, hc2, hm2, hr2⟩ := r32_owns ho2
  have HR1' := Lib.hid (HR1.out.keep hb2 (Nat.le_refl _))
  have HB2 := Lib.hid (step HB1.out hb2)
  have HR2 := Lib.hid hr2
  clear ho2 hb2 hr2 HR1 HB1
  go_wp2
  go_loopw [7] (fun v wr => ∃ i : Nat, i ≤ m ∧ i ≤ n ∧ v = .int .i64 i ∧ LRel w2 wr x y L i) (fun v _ => m - (intOf v).toNat)
  case atStart => exact ⟨0, by omega, by omega, rfl, by rw [List.drop_zero, List.drop_zero]; exact HLX.out.symm, Below.refl _ _⟩
  case round =>
    obtain ⟨i, him, hin, rfl, hrel⟩ := hrel
    have HP := Lib.hid hrel
    clear hrel
    by_cases hlt : i < m ∧ i < n
    · obtain ⟨h1, h2⟩ := hlt
      obtain ⟨b1, rfl, hq1⟩ := HR1'.out.at h1
      obtain ⟨b2, rfl, hq2⟩ := HR2.out.at h2
      have hz1 : wr.cell? ⟨b1, i, none⟩ = some (.int .i32 (x.getD i 0 : Nat)) := by
        rw [HP.out.2.cell (p := ⟨b1, i, none⟩) (World.block_lt_of_cell? w2 _ hq1)]
        exact hq1
      have hz2 : wr.cell? ⟨b2, i, none⟩ = some (.int .i32 (y.getD i 0 : Nat)) := by
        rw [HP.out.2.cell (p := ⟨b2, i, none⟩) (World.block_lt_of_cell? w2 _ hq2)]
        exact hq2
      have HA := Lib.hid (less_at (x := x) (y := y) (i := i) (by rw [← HM.out]; exact h1) (by rw [← HN.out]; exact h2))
      obtain ⟨p, hp⟩ : ∃ p, p = x.getD i 0 := ⟨_, rfl⟩
      obtain ⟨q, hq⟩ : ∃ q, q = y.getD i 0 := ⟨_, rfl⟩
      rw [← hp] at hz1 HA
      rw [← hq] at hz2 HA
      clear hp hq hq1 hq2
      by_cases hpq : p = q
      · have HF : Hid (lessR (x.drop (i + 1)) (y.drop (i + 1)) = L) := by
          have h := HA.out
          rw [if_pos hpq, HP.out.1] at h
          exact h.symm
        subst hpq
        clear HA
        go_wp2
        go_quiet (fail)
        go_wp2
        go_roundw
        case rel => exact ⟨i + 1, by omega, by omega, by go_num, HF.out, HP.out.2.trans ((below_drewN _ _).mono HP.out.2.size)⟩
        case measure => simp [intOf]; omega
      · have HF : Hid (decide (p < q) = lessB a.data.toList b.data.toList) := by
          have h := HA.out
          rw [if_neg hpq, HP.out.1, HL.out] at h
          exact h.symm
        have hpqz : ((p : Int) != (q : Int)) = true := by simpa using fun e => hpq (by omega)
        clear HA hpq
        go_wp2
        go_quiet (fail)
        go_wp2
        go_quiet (fail)
        go_wp2
        go_ret
        exact lesses_mk HF.out (step HB2.out (HP.out.2.trans ((step (below_drewN _ _) (below_drewN _ _)).mono HP.out.2.size)))
    · have HF : Hid (decide (m < n) = lessB a.data.toList b.data.toList) := by
        have h := less_out (x := x) (y := y) (i := i) (by rw [← HM.out]; exact him) (by rw [← HN.out]; exact hin) (by rw [← HM.out, ← HN.out]; exact hlt)
        rw [HP.out.1, HL.out, ← HM.out, ← HN.out] at h
        exact h.symm
      by_cases h1 : i < m
      · have h2 : ¬ i < n := fun h2 => hlt ⟨h1, h2⟩
        clear hlt
        go_wp2
        go_ret
        exact lesses_mk HF.out (step HB2.out HP.out.2)
      · clear hlt
        go_wp2
        go_ret
        exact lesses_mk HF.out (step HB2.out HP.out.2)
end Go.Proofs.YtjocfkkcnkpjdaaDoor
