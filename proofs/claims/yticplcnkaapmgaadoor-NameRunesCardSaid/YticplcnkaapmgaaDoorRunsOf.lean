/- The walk of 'NameRunes'. It asks that the library's two tables of runes hold what they begin with. -/
import Derived.Test.YticplcnkaapmgaaDoorTells
import Derived.Deep.Cut
import Derived.Laws.Cover4
namespace Go.Proofs.YticplcnkaapmgaaDoor
open Go.RowKit
open Go.RuneMath
set_option linter.unusedVariables false

theorem kr1 (W : World) (A : ByteArray) (p : Bool) (hp : rightB A.data.toList = p) : Calls Tryd.prog 13 #[.string A] W fun e w' => e = .returned (.bool p) ∧ Below W.heap.size W w' := by
  have c := right_any W A
  unfold Rights at c
  rw [hp] at c
  exact c
theorem kr2 (W : World) (A : ByteArray) (hA : A.size ≤ 1073741824) (n : Nat) (hn : countB A.data.toList = n) : Calls Tryd.prog 15 #[.string A] W fun e w' => e = .returned (.int .i64 (n : Int)) ∧ Below W.heap.size W w' := by
  have c := count_any W A (by omega)
  unfold Counts at c
  rw [hn] at c
  exact c
theorem kr3 (W : World) (A : ByteArray) (hA : A.size ≤ 1073741824) (U : ByteArray) (hU : bs (upperB A.data.toList) = U) : Calls Tryd.prog 16 #[.string A] W fun e w' => e = .returned (.string U) ∧ Below W.heap.size W w' := by
  have c := upper_any W A hA
  unfold Uppers at c
  rw [hU] at c
  exact c
theorem kr_list (A B : ByteArray) : (A ++ B).data.toList = A.data.toList ++ B.data.toList := by
  conv => lhs; rw [← bs_self A, ← bs_self B, bs_append, bs_list]
theorem foldl_encs : ∀ (l : List Nat), (∀ r ∈ l, Scal r) → ∀ s : List UInt8, (l.map Int.ofNat).foldl (fun r n => r ++ Utf8.encode n) (bs s) = bs (s ++ encs l)
  | [], _, s => by simp [encs]
  | r :: l, h, s => by
    rw [List.map_cons, List.foldl_cons]
    have e : bs s ++ Utf8.encode (Int.ofNat r) = bs (s ++ enc r) := by
      rw [show Int.ofNat r = (r : Int) from rfl, encode_bs (h r (by simp)), bs_append]
    rw [e, foldl_encs l (fun x hx => h x (by simp [hx])), encs_cons, List.append_assoc]
theorem bytes_encs {l : List Nat} (h : ∀ r ∈ l, Scal r) : runesBytes (l.map Int.ofNat) = bs (encs l) := by
  have := foldl_encs l h []
  rw [List.nil_append] at this
  exact this
/-- A slice of runes at a place of a block: what 'string(..)' makes of it. -/
theorem conv_runes {w : World} {g off len cap : Nat} {l : List Nat} (hs : ∀ r ∈ l, Scal r) (hl : l.length = len) (hc : ∀ i, i < len → w.cell? ⟨g, off + i, none⟩ = some (.int .i32 (l.getD i 0 : Nat))) :
    (convert 37 9 (.slice (some ⟨g, off, none⟩) len cap)).run Tryd.prog w = .ok (.string (bs (encs l))) w := by
  have h := run_convert_runes (P := Tryd.prog) w 37 9 21 ⟨g, off, none⟩ len cap (l.map Int.ofNat) (by simp [hl]) Tryd.underlying37 Tryd.underlying21 Tryd.underlying9 (fun j hj => by
    rw [List.length_map] at hj
    rw [add_at, hc j (by omega)]
    simp [hj])
  rw [h, List.take_of_length_le (by simp [hl]), bytes_encs hs]
theorem elem37 : Tryd.prog.underlying 37 = some (.slice (Tryd.prog.elem 37)) := by kernel_rfl
theorem sizeElem37 (w : World) : (sizeOf (Tryd.prog.elem 37)).run Tryd.prog w = .ok 1 w := by kernel_rfl
theorem run_tail37 (b off len cap l : Nat) (h : l ≤ len) (w : World) :
    (Instr.slice 37 (.slice (some ⟨b, off, none⟩) len cap) (some (.int .i64 l)) none none).run Tryd.prog w = .ok (.slice (some ⟨b, if cap = l then off else off + l, none⟩) (len - l) (cap - l)) w := by
  rw [run_slice_l _ _ _ _ _ elem37 _ _ (by omega) (by omega), sizeElem37]
  simp only [Result.andThen, sliced, Nat.mul_one, Int.toNat_natCast]
  congr 2
  by_cases h1 : cap = l
  · simp [h1]
  · simp [h1, Addr.add]
/-- What was collected, as a slice: nil, or at the head of a block. -/
theorem r32_more {w : World} {base n : Nat} {v : Value} {l : List Nat} (h : w.ownsRow base 21 1 v n (rvals l)) : (v = .slice none 0 0 ∧ n = 0 ∧ l = []) ∨ ∃ g cap, v = .slice (some ⟨g, 0, none⟩) n cap ∧ n ≤ cap ∧ cap ≤ maxLen ∧ l.length = n ∧ ∀ i, i < n → w.cell? ⟨g, i, none⟩ = some (.int .i32 (l.getD i 0 : Nat)) := by
  have hl := h.1
  rw [rvals_len, Nat.mul_one] at hl
  rcases h.2 with ⟨hv, hn⟩ | ⟨g, cap, cur, rfl, hg, hh, hc, hm, hsz, ht⟩
  · subst hn
    exact .inl ⟨hv, rfl, List.eq_nil_of_length_eq_zero hl⟩
  · refine .inr ⟨g, cap, rfl, hc, hm, hl, fun i hi => ?_⟩
    rw [cell_of_row w g i _ _ _ hh]
    have h1 : (cur.toList.take (n * 1))[i]? = cur[i]? := by rw [List.getElem?_take, if_pos (by omega)]; simp
    rw [← h1, ht]
    simp [rvals, rval, show i < l.length by omega]
theorem take_getD {l : List Nat} {k i : Nat} (h : i < k) : (l.take k).getD i 0 = l.getD i 0 := by
  simp [List.getD, h]
theorem drop_getD {l : List Nat} {k i : Nat} : (l.drop k).getD i 0 = l.getD (k + i) 0 := by
  simp [List.getD]
/-- All that stands behind the parting of the text: X, Y: its parts; the last statement of the law. -/
structure Parts (A X Y U U1 U2 : ByteArray) (c m n : Nat) (rr r : Bool) : Prop where
  sA : A.size ≤ 80
  sX : X.size ≤ 400
  sY : Y.size ≤ 400
  sU : U.size ≤ 400
  sU1 : U1.size ≤ 2000
  sU2 : U2.size ≤ 2000
  cA : countB A.data.toList = c
  cX : countB X.data.toList = m
  cY : countB Y.data.toList = n
  cU : countB U.data.toList = c
  sum : m + n = c
  lim : c ≤ 80
  uA : bs (upperB A.data.toList) = U
  uX : bs (upperB X.data.toList) = U1
  uY : bs (upperB Y.data.toList) = U2
  cat : U1 ++ U2 = U
  r1 : rightB A.data.toList = r
  r2 : rightB (A ++ A).data.toList = rr
  rd : rr = (r && decide (2 * c ≤ 40))
theorem parts_of (A : ByteArray) (hA : A.size ≤ 80) (k : Nat) : ∃ U U1 U2 c m n rr r, Parts A (bs (encs ((runes A.data.toList).take k))) (bs (encs ((runes A.data.toList).drop k))) U U1 U2 c m n rr r := by
  have hl := runes_len A.data.toList
  rw [← Lib.size_eq] at hl
  have e1 := encs_len ((runes A.data.toList).take k)
  have e2 := encs_len ((runes A.data.toList).drop k)
  rw [List.length_take] at e1
  rw [List.length_drop] at e2
  have up : ∀ l : List UInt8, (upperB l).length ≤ 4 * l.length := by
    intro l
    unfold upperB
    have h1 := encs_len ((runes l).map upR)
    have h2 := runes_len l
    rw [List.length_map] at h1
    omega
  have u0 := up A.data.toList
  rw [← Lib.size_eq] at u0
  have u1 := up (encs ((runes A.data.toList).take k))
  have u2 := up (encs ((runes A.data.toList).drop k))
  refine ⟨_, _, _, _, _, _, _, _, ⟨hA, ?_, ?_, ?_, ?_, ?_, rfl, rfl, rfl, ?_, ?_, ?_, rfl, rfl, rfl, ?_, rfl, rfl, ?_⟩⟩
  · rw [bs_size]; omega
  · rw [bs_size]; omega
  · rw [bs_size]; omega
  · rw [bs_size, bs_list]; omega
  · rw [bs_size, bs_list]; omega
  · rw [bs_list]; exact count_upper _
  · rw [bs_list, bs_list]; exact count_take _ _
  · unfold countB; omega
  · rw [bs_append, bs_list, bs_list, upper_parts]
  · rw [kr_list]; exact right_twice _
end Go.Proofs.YticplcnkaapmgaaDoor
