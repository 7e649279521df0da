/- The contract of Upper. -/
import Derived.Test.YtifogkacjfpipaaNameCountOne
namespace Go.Proofs.Ytifogkacjfpipaa
open Go.RowKit
open Go.RuneMath
set_option linter.unusedVariables false

def bs (l : List UInt8) : ByteArray := ⟨l.toArray⟩
theorem bs_list (l : List UInt8) : (bs l).data.toList = l := rfl
theorem bs_self (s : ByteArray) : bs s.data.toList = s := Lib.ofBytes s
theorem bs_append (a b : List UInt8) : bs a ++ bs b = bs (a ++ b) := by
  unfold bs
  apply ByteArray.ext
  simp
theorem bs_size (l : List UInt8) : (bs l).size = l.length := by unfold bs; simp [ByteArray.size]
theorem bs_inj {a b : List UInt8} (h : bs a = bs b) : a = b := by
  have := congrArg (fun x => x.data.toList) h
  exact this
theorem encode_bs {r : Nat} (h : Scal r) : Utf8.encode (r : Int) = bs (enc r) := by
  have hv : Utf8.valid (r : Int) = true := by
    unfold Scal at h
    unfold Utf8.valid
    simp
    omega
  unfold Scal at h
  unfold Utf8.encode enc Lib.encodeRune
  rw [if_pos hv]
  simp only [Int.toNat_natCast]
  by_cases h1 : r < 128
  · rw [if_pos (by omega), Lib.encodeRuneZ_one (by omega) (by omega)]
    simp [bs]
  · by_cases h2 : r < 2048
    · rw [if_neg (by omega), if_pos (by omega), Lib.encodeRuneZ_two (by omega) (by omega)]
      unfold bs
      congr 1
    · by_cases h3 : r < 65536
      · rw [if_neg (by omega), if_neg (by omega), if_pos (by omega), Lib.encodeRuneZ_three (by omega)]
        unfold bs
        congr 1
      · rw [if_neg (by omega), if_neg (by omega), if_neg (by omega), Lib.encodeRuneZ_four (by omega) (by omega)]
        unfold bs
        congr 1

def Uppers (s : ByteArray) (w : World) (e : Ending) (w' : World) : Prop := e = .returned (.string (bs (upperB s.data.toList))) ∧ Below w.heap.size w w'
theorem uppers_mk {s : ByteArray} {w w' : World} {l : List UInt8} (h : l = upperB s.data.toList) (hb : Below w.heap.size w w') : Uppers s w (.returned (.string (bs l))) w' := ⟨by rw [h], hb⟩
theorem up_step {l acc : List UInt8} {r : Nat} {tl : List Nat} (h : acc ++ encs ((r :: tl).map upR) = upperB l) : (acc ++ enc (upR r)) ++ encs (tl.map upR) = upperB l := by
  rw [← h, List.map_cons, encs_cons, List.append_assoc]
theorem up_big {r : Nat} (h : smallR r = true) : (r : Int) + -32 = (upR r : Nat) := by
  unfold smallR at h
  unfold upR
  simp at h
  rw [if_pos h]
  omega
theorem up_same {r : Nat} (h : smallR r = false) : upR r = r := by
  unfold smallR at h
  unfold upR
  simp at h
  rw [if_neg (by omega)]
set_option maxHeartbeats 1000000 in
set_option maxRecDepth 100000 in
theorem upper_any (w : World) (s : ByteArray) (hs : s.size ≤ 1073741824) : Calls Try.prog 29 #[.string s] w (Uppers s w) := by
  go_enter Try.func29, Try.ntmps29
  go_wp2
  go_loopw [] (fun wr => ∃ (pos : Nat) (acc : List UInt8), Lib.IsBuilderF 66 5 w.heap.size w.heap.size (Lib.byteCells acc) wr ∧ ItAt wr (w.heap.size + 1) s pos ∧ Below w.heap.size w wr ∧ acc ++ encs ((rs s pos).map upR) = upperB s.data.toList ∧ acc.length ≤ 4 * pos) (fun wr => s.size - wr.iterPos (w.heap.size + 1))
  case atStart =>
    refine ⟨0, [], (Lib.IsBuilderF.of (Lib.fresh_isBuilder 66 5 w)).alloc _, ?_, ((Below.refl _ w).alloc (Nat.le_refl _) _).alloc (by simp) _, by rw [rs_zero]; rfl, by simp⟩
    have e : (w.alloc (.cells #[.pointer none, .slice none 0 0] 66)).heap.size = w.heap.size + 1 := by simp
    rw [← e]
    exact it_start _ s
  case round =>
    obtain ⟨pos, acc, hI, hit, hbw, hacc, hal⟩ := hrel
    have HI := Lib.hid hit
    have HB := Lib.hid hbw
    have HU := Lib.hid hI
    have HA := Lib.hid hacc
    have hsz : w.heap.size + 1 < wr.heap.size := it_lt hit
    clear hit hbw hI hacc
    by_cases hp : pos < s.size
    · have hnx : ∀ ty, (Instr.next (.pointer (some ⟨w.heap.size + 1, 0, none⟩)) true ty).run Try.prog wr = _ := fun ty => Lib.run_next_any_at wr (w.heap.size + 1) s pos ty HI.out hp
      have HW := Lib.hid (Lib.width_pos s pos)
      have hst := HA.out
      rw [rs_step hp] at hst
      have hr4 := Lib.rune_le s pos
      obtain ⟨r, hr⟩ : ∃ r, r = (Utf8.decode s pos).1 := ⟨_, rfl⟩
      obtain ⟨k, hk⟩ : ∃ k, k = (Utf8.decode s pos).2 := ⟨_, rfl⟩
      rw [← hr, ← hk] at hst
      rw [← hr] at hr4
      rw [← hk] at HW
      simp only [← hr, ← hk] at hnx
      have HT := Lib.hid (up_step hst)
      clear hst hr hk
      have HI2 := Lib.hid (it_next HI.out (pos + k))
      have HU2 := Lib.hid (HU.out.iterAt HI.out (pos + k))
      have HB2 := Lib.hid (Lib.below_iterAt HB.out (k := w.heap.size + 1) (by omega) s (pos + k))
      have hsz2 : w.heap.size ≤ (wr.iterAt (w.heap.size + 1) s (pos + k)).heap.size := by rw [Lib.iterAt_size]; omega
      obtain ⟨b, hb⟩ : ∃ b, b = smallR r := ⟨_, rfl⟩
      have CA0 := fun W => small_any W r
      rw [← hb] at CA0
      have CA := Lib.hid CA0
      have HK := Lib.hid hb
      clear CA0 hb
      have hw1 := HW.out
      cases b
      · have hx : ((r : Nat) : Int) = ((upR r : Nat) : Int) := by rw [up_same HK.out.symm]
        have HX := Lib.hid hx
        clear hx
        go_wp2_with fail
        refine (CA.out _).mono ?_
        rintro e w' ⟨rfl, rfl⟩
        go_wp2_with fail
        refine (Try.Builder_WriteRune_k w.heap.size w.heap.size _ (r : Int) (by omega) (by omega) _ HU2.out (by rw [Lib.byteCells_length]; omega) hsz2).mono ?_
        rintro e W1 ⟨rfl, h1, b1, k1⟩
        have H1 := Lib.hid h1
        have B1 := Lib.hid b1
        have K1 := Lib.hid k1
        clear h1 b1 k1
        go_wp2
        go_roundw
        case rel =>
          refine ⟨pos + k, acc ++ enc (upR r), ?_, K1.out.iter HI2.out (by omega), HB2.out.trans B1.out, HT.out, ?_⟩
          · rw [Lib.byteCells_append]
            have h := H1.out
            rw [HX.out, ← Lib.byteCells_encodeRune] at h
            exact Or.inr h
          · rw [List.length_append]
            have := enc_len (upR r)
            omega
        case measure =>
          rw [it_pos (show ItAt _ _ s (pos + k) from K1.out.iter HI2.out (by omega)), it_pos HI.out]
          omega
      · have HX := Lib.hid (up_big HK.out.symm)
        have h122 : 97 ≤ r ∧ r ≤ 122 := by have := HK.out; unfold smallR at this; simpa using this.symm
        obtain ⟨h97, h122⟩ := h122
        go_wp2_with fail
        refine (CA.out _).mono ?_
        rintro e w' ⟨rfl, rfl⟩
        go_wp2_with fail
        refine (Try.Builder_WriteRune_k w.heap.size w.heap.size _ _ (by omega) (by omega) _ HU2.out (by rw [Lib.byteCells_length]; omega) hsz2).mono ?_
        rintro e W1 ⟨rfl, h1, b1, k1⟩
        have H1 := Lib.hid h1
        have B1 := Lib.hid b1
        have K1 := Lib.hid k1
        clear h1 b1 k1
        go_wp2
        go_roundw
        case rel =>
          refine ⟨pos + k, acc ++ enc (upR r), ?_, K1.out.iter HI2.out (by omega), HB2.out.trans B1.out, HT.out, ?_⟩
          · rw [Lib.byteCells_append]
            have h := H1.out
            rw [HX.out, ← Lib.byteCells_encodeRune] at h
            exact Or.inr h
          · rw [List.length_append]
            have := enc_len (upR r)
            omega
        case measure =>
          rw [it_pos (show ItAt _ _ s (pos + k) from K1.out.iter HI2.out (by omega)), it_pos HI.out]
          omega
    · have hnx : ∀ ty, (Instr.next (.pointer (some ⟨w.heap.size + 1, 0, none⟩)) true ty).run Try.prog wr = _ := fun ty => Lib.run_next_end_at wr (w.heap.size + 1) s pos ty HI.out hp
      go_wp2_with fail
      refine (Try.Builder_String_any_k w.heap.size w.heap.size acc _ HU.out (by omega)).mono ?_
      rintro e W1 ⟨rfl, _, b1, _⟩
      have B1 := Lib.hid b1
      clear b1
      go_wp2
      go_ret
      have h := HA.out
      rw [rs_end hp] at h
      exact uppers_mk (by rw [← h]; simp [encs]) (HB.out.trans B1.out)
end Go.Proofs.Ytifogkacjfpipaa
