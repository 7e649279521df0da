/- Bytes as a text: what a conversion of a slice of bytes to a text gives, and when two such texts are one. -/
import Derived.Test.YtepbmipddblkmaaSealed
import Derived.Laws.BytesString
namespace Go.Proofs.Ytepbmipddblkmaa
open Go.RowKit Go.CrcMath
set_option linter.unusedVariables false

def str (bs : List Nat) : ByteArray := ⟨(bs.map UInt8.ofNat).toArray⟩
theorem foldl_push (bs : List Int) (s : ByteArray) : (bs.foldl (fun r n => r.push (UInt8.ofNat n.toNat)) s).data.toList = s.data.toList ++ bs.map (fun n => UInt8.ofNat n.toNat) := by
  induction bs generalizing s with
  | nil => simp
  | cons b bs ih => rw [List.foldl_cons, ih]; simp [ByteArray.push]
theorem str_eq (bs : List Nat) : ((bs.map Int.ofNat).foldl (fun r n => r.push (UInt8.ofNat n.toNat)) ByteArray.empty) = str bs := by
  apply ByteArray.ext
  apply Array.toList_inj.1
  rw [foldl_push]
  have e : (ByteArray.empty : ByteArray).data.toList = [] := rfl
  rw [e]
  simp [str, Function.comp_def]
theorem ints_vals (bs : List Nat) : (bs.map Int.ofNat).map (Value.int .u8) = vals bs := by simp only [vals, List.map_map]; rfl
theorem run_str {w : World} {ad : Option Addr} {len cap : Nat} {bs : List Nat} (h : Byt w ad len cap bs) : (convert 22 9 (.slice ad len cap)).run Try.prog w = .ok (.string (str bs)) w := by
  rw [run_convert_bytes_string w 22 9 5 ad len cap Try.underlying22 Try.underlying5 Try.underlying9]
  rcases ad with _ | a
  · have : len = 0 := by
      rcases h.cells with h0 | ⟨b, off, e, _⟩
      · exact h0
      · cases e
    subst this
    obtain rfl : bs = [] := List.eq_nil_of_length_eq_zero h.length
    simp [Conv.bytesToString, Sem.run_pure, str]; rfl
  · have hl := h.length
    have hc : ∀ j v, (vals bs)[j]? = some v → w.cell? (a.add j) = some v := by
      intro j v hj
      have hjl : j < bs.length := by
        have := (List.getElem?_eq_some_iff.1 hj).1
        rwa [length_vals] at this
      obtain ⟨a', ha', hs⟩ := h.source (by omega)
      obtain rfl := Option.some.inj ha'
      exact hs j v hj
    have h1 := run_loadCells_list (P := Try.prog) (w := w) a (vals bs) hc
    rw [length_vals, hl, ← ints_vals] at h1
    rw [run_bytesToString w a len cap _ h1, str_eq]
theorem str_toList (bs : List Nat) : (str bs).toList = bs.map UInt8.ofNat := by rw [ByteArray.toList_eq]; simp [str]
theorem str_inj {a b : List Nat} (ha : AllB a) (hb : AllB b) (h : (str a).toList = (str b).toList) : a = b := by
  rw [str_toList, str_toList] at h
  have h2 := congrArg (List.map UInt8.toNat) h
  rw [List.map_map, List.map_map] at h2
  have e : ∀ l : List Nat, AllB l → l.map (UInt8.toNat ∘ UInt8.ofNat) = l := by
    intro l hl
    conv => rhs; rw [← List.map_id l]
    apply List.map_congr_left
    intro x hx
    have := hl x hx
    simp [Nat.mod_eq_of_lt this]
  rwa [e a ha, e b hb] at h2
theorem str_same (bs : List Nat) : ((str bs).toList == (str bs).toList) = true := by simp
theorem str_differ {a b : List Nat} (ha : AllB a) (hb : AllB b) (h : a ≠ b) : ((str a).toList == (str b).toList) = false := by
  simp only [beq_eq_false_iff_ne, ne_eq]
  exact fun e => h (str_inj ha hb e)
end Go.Proofs.Ytepbmipddblkmaa
