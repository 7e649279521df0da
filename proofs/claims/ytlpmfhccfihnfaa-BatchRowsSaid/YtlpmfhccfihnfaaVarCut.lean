/- The contracts of the code's Cut, and of the document's own. -/
import Derived.Test.YtlpmfhccfihnfaaVarRefGet
namespace Go.Proofs.Ytlpmfhccfihnfaa
open Go.RowKit
open Go.VarMath hiding AllB
set_option linter.unusedVariables false

theorem cut_run {w : World} {b off len cap : Nat} {bs : List Nat} (h : Byt w (some ⟨b, off, none⟩) len cap bs) (k m : Nat) (hk : k + m ≤ len) :
    ∃ o c, (∀ W, (Instr.slice 34 (.slice (some ⟨b, off, none⟩) len cap) (some (.int .i64 (k : Int))) (some (.int .i64 ((k : Int) + (m : Int)))) none).run Try.prog W = .ok (.slice (some ⟨b, o, none⟩) m c) W) ∧ Byt w (some ⟨b, o, none⟩) m c ((bs.drop k).take m) := by
  refine ⟨if cap = k then off else off + k, cap - k, fun W => ?_, ⟨by rw [List.length_take, List.length_drop, h.length]; omega, by have := h.fits; omega, ?_, ?_⟩⟩
  · rw [run_slice_lh _ _ _ _ _ elem22 _ _ _ _ (by omega) (by omega) (by have := h.fits; omega), sizeElem]
    simp only [Result.andThen, sliced, Nat.mul_one, Int.toNat_natCast]
    have e : ((k : Int) + (m : Int)).toNat = k + m := by omega
    rw [e, Nat.add_sub_cancel_left]
    congr 2
    by_cases h1 : cap = k
    · simp [h1]
    · simp [h1, Addr.add]
  · intro x hx
    exact h.all x (List.mem_of_mem_drop (List.mem_of_mem_take hx))
  · by_cases hm : m = 0
    · exact .inl hm
    · rcases h.cells with h0 | ⟨b', off', e, hc⟩
      · omega
      · cases e
        have hf := h.fits
        refine .inr ⟨b, off + k, by rw [if_neg (by omega)], fun i hi => ?_⟩
        rw [Nat.add_assoc, hc (k + i) (by omega)]
        congr 3
        rw [List.getD_eq_getElem?_getD, List.getD_eq_getElem?_getD, List.getElem?_take, if_pos hi, List.getElem?_drop]
/-- What both give. -/
def GivesCut (bs : List Nat) (most : Int) (w : World) (e : Ending) (w' : World) : Prop := e = .returned (.tuple #[.string (str (cutB bs most).1), .int .i64 ((cutB bs most).2 : Nat)]) ∧ Below w.heap.size w w'
theorem gives_cut {bs : List Nat} {most : Int} {w w' : World} {l : List Nat} {k : Nat} {s : ByteArray} {x : Int} (h : cutB bs most = (l, k)) (hs : s = str l) (hx : x = (k : Int)) (hb : Below w.heap.size w w') : GivesCut bs most w (.returned (.tuple #[.string s, .int .i64 x])) w' := by
  unfold GivesCut; rw [h, hs, hx]; exact ⟨rfl, hb⟩
theorem str_nil : (⟨#[]⟩ : ByteArray) = str [] := rfl
set_option maxRecDepth 100000 in
set_option maxHeartbeats 1000000 in
theorem cut_any (w : World) (ad : Option Addr) (len cap : Nat) (bs : List Nat) (most : Int) (h : Byt w ad len cap bs) (hL : len ≤ 140737488355328) (h0 : -9223372036854775808 ≤ most) (h1 : most ≤ 9223372036854775807) :
    Calls Try.prog 76 #[.slice ad len cap, .int .i64 most] w (GivesCut bs most w) := by
  obtain ⟨b2, b3, b4, b5⟩ := getB_bounds bs
  rw [h.length] at b3
  have HN := @cutB_no bs most
  have HY := @cutB_yes bs most
  have HB := Lib.hid h
  clear h
  rw [HB.out.length] at HN HY
  have hget := get_any w ad len cap bs HB.out hL
  unfold GivesGet at hget
  obtain ⟨n, hn⟩ : ∃ n, n = (getB bs).1 := ⟨_, rfl⟩
  obtain ⟨k, hk⟩ : ∃ k, k = (getB bs).2 := ⟨_, rfl⟩
  rw [← hn] at b4 b5 HN HY hget
  rw [← hk] at b2 b3 HN HY hget
  have HGET := Lib.hid hget
  have HN := Lib.hid HN
  have HY := Lib.hid HY
  clear hn hk hget
  by_cases hc : k = 0 ∨ n < 0 ∨ most < n ∨ (len : Int) - (k : Int) < n
  · have HC := Lib.hid (HN.out hc)
    go_enter Try.func76, Try.ntmps76
    go_wp2_with (go_at_call 84; refine HGET.out.mono ?_; rintro e w' ⟨rfl, rfl⟩)
    all_goals first
      | (exfalso; omega)
      | (go_ret2; exact gives_cut HC.out str_nil rfl (Below.refl _ _))
  · have HC := Lib.hid (HY.out hc)
    obtain ⟨m, rfl⟩ : ∃ m : Nat, n = (m : Int) := ⟨n.toNat, by omega⟩
    have hlen := HB.out.cells
    rcases hlen with hl0 | ⟨b, off, rfl, _⟩
    · omega
    obtain ⟨o, c, hsl, hby⟩ := cut_run HB.out k m (by omega)
    obtain ⟨s, hs⟩ : ∃ s, s = str ((bs.drop k).take m) := ⟨_, rfl⟩
    have hcv := run_str_at hby hs
    have HS := Lib.hid hs
    clear hs hby
    rw [Int.toNat_natCast] at HC
    have hk0 : ((k : Int) == 0) = false := by simp; omega
    go_enter Try.func76, Try.ntmps76
    go_wp2_with (go_at_call 84; refine HGET.out.mono ?_; rintro e w' ⟨rfl, rfl⟩)
    all_goals first
      | (exfalso; omega)
      | (go_ret2; exact gives_cut HC.out HS.out (by omega) (Below.refl _ _))
set_option maxRecDepth 100000 in
set_option maxHeartbeats 1000000 in
theorem refCut_any (w : World) (ad : Option Addr) (len cap : Nat) (bs : List Nat) (most : Int) (h : Byt w ad len cap bs) (hL : len ≤ 140737488355328) (h0 : -9223372036854775808 ≤ most) (h1 : most ≤ 9223372036854775807) :
    Calls Try.prog 72 #[.slice ad len cap, .int .i64 most] w (GivesCut bs most w) := by
  obtain ⟨b2, b3, b4, b5⟩ := getB_bounds bs
  rw [h.length] at b3
  have HN := @cutB_no bs most
  have HY := @cutB_yes bs most
  have HB := Lib.hid h
  clear h
  rw [HB.out.length] at HN HY
  have hget := refGet_any w ad len cap bs HB.out hL
  unfold GivesGetB at hget
  obtain ⟨n, hn⟩ : ∃ n, n = (getB bs).1 := ⟨_, rfl⟩
  obtain ⟨k, hk⟩ : ∃ k, k = (getB bs).2 := ⟨_, rfl⟩
  rw [← hn] at b4 b5 HN HY hget
  rw [← hk] at b2 b3 HN HY hget
  have HGET := Lib.hid hget
  have HN := Lib.hid HN
  have HY := Lib.hid HY
  clear hn hk hget
  by_cases hc : k = 0 ∨ n < 0 ∨ most < n ∨ (len : Int) - (k : Int) < n
  · have HC := Lib.hid (HN.out hc)
    go_enter Try.func72, Try.ntmps72
    go_wp2_with (go_at_call 82; refine HGET.out.mono ?_; rintro e w1 ⟨rfl, hb1⟩; have HB1 := Lib.hid hb1; clear hb1)
    all_goals first
      | (exfalso; omega)
      | (go_ret2; exact gives_cut HC.out str_nil rfl HB1.out)
  · have HC := Lib.hid (HY.out hc)
    obtain ⟨m, rfl⟩ : ∃ m : Nat, n = (m : Int) := ⟨n.toNat, by omega⟩
    have hlen := HB.out.cells
    rcases hlen with hl0 | ⟨b, off, rfl, _⟩
    · omega
    obtain ⟨o, c, hsl, hby⟩ := cut_run HB.out k m (by omega)
    obtain ⟨s, hs⟩ : ∃ s, s = str ((bs.drop k).take m) := ⟨_, rfl⟩
    have HCV : Hid (∀ W, Below w.heap.size w W → (convert 34 9 (.slice (some ⟨b, o, none⟩) m c)).run Try.prog W = .ok (.string s) W) := fun W hW => run_str_at (hby.keep hW (Nat.le_refl _)) hs
    have HS := Lib.hid hs
    clear hs hby
    rw [Int.toNat_natCast] at HC
    have hk0 : ((k : Int) == 0) = false := by simp; omega
    go_enter Try.func72, Try.ntmps72
    go_wp2_with (go_at_call 82; refine HGET.out.mono ?_; rintro e w1 ⟨rfl, hb1⟩; have HB1 := Lib.hid hb1; clear hb1; have hcv1 := HCV.out w1 HB1.out)
    all_goals first
      | (exfalso; omega)
      | (go_ret2; exact gives_cut HC.out HS.out (by omega) HB1.out)
end Go.Proofs.Ytlpmfhccfihnfaa
