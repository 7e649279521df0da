/- Upper, the document's own. -/
import Derived.Test.YtifogkacjfpipaaNameUpperOne
namespace Go.Proofs.Ytifogkacjfpipaa
open Go.RowKit
open Go.RuneMath
set_option linter.unusedVariables false

theorem up_ref {r : Nat} (h1 : 97 ≤ r) (h2 : r ≤ 122) : (r : Int) - 97 + 65 = (upR r : Nat) := by
  unfold upR
  rw [if_pos ⟨h1, h2⟩]
  omega
theorem up_ref_no {r : Nat} (h : ¬ (97 ≤ r ∧ r ≤ 122)) : upR r = r := by
  unfold upR
  rw [if_neg h]
set_option maxHeartbeats 1000000 in
set_option maxRecDepth 100000 in
theorem ref_upper_any (w : World) (s : ByteArray) (hs : s.size ≤ 1073741824) : Calls Try.prog 25 #[.string s] w (Uppers s w) := by
  go_enter Try.func25, Try.ntmps25
  go_wp2
  go_loopw [3] (fun v wr => ∃ (pos : Nat) (acc : List UInt8), ItAt wr w.heap.size s pos ∧ Below w.heap.size w wr ∧ v = .string (bs acc) ∧ acc ++ encs ((rs s pos).map upR) = upperB s.data.toList ∧ acc.length ≤ 4 * pos) (fun _ wr => s.size - wr.iterPos w.heap.size)
  case atStart => exact ⟨0, [], it_start w s, (Below.refl _ w).alloc (Nat.le_refl _) _, rfl, by rw [rs_zero]; rfl, by simp⟩
  case round =>
    obtain ⟨pos, acc, hit, hbw, rfl, hacc, hal⟩ := hrel
    have HI := Lib.hid hit
    have HB := Lib.hid hbw
    have HA := Lib.hid hacc
    clear hit hbw hacc
    by_cases hp : pos < s.size
    · have hnx : ∀ ty, (Instr.next (.pointer (some ⟨w.heap.size, 0, none⟩)) true ty).run Try.prog wr = _ := fun ty => Lib.run_next_any_at wr w.heap.size s pos ty HI.out hp
      have HW := Lib.hid (Lib.width_pos s pos)
      have hst := HA.out
      rw [rs_step hp] at hst
      have hsc : Scal (Utf8.decode s pos).1 := by rw [← Lib.decodeL_drop]; exact decode_scal _
      have hr4 := Lib.rune_le s pos
      obtain ⟨r, hr⟩ : ∃ r, r = (Utf8.decode s pos).1 := ⟨_, rfl⟩
      obtain ⟨k, hk⟩ : ∃ k, k = (Utf8.decode s pos).2 := ⟨_, rfl⟩
      rw [← hr, ← hk] at hst
      rw [← hr] at hr4 hsc
      rw [← hk] at HW
      simp only [← hr, ← hk] at hnx
      have HT := Lib.hid (up_step hst)
      have HSc := Lib.hid hsc
      clear hst hr hk hsc
      by_cases h97 : 97 ≤ r ∧ r ≤ 122
      · have HX := Lib.hid (up_ref h97.1 h97.2)
        have HE : Hid (bs acc ++ Utf8.encode ((r : Int) - 97 + 65) = bs (acc ++ enc (upR r))) := by
          show _ = _
          rw [HX.out, encode_bs (upR_scal HSc.out), bs_append]
        obtain ⟨ha, hb⟩ := h97
        have hq : (bs acc).size + (Utf8.encode ((r : Int) - 97 + 65)).size ≤ 9223372036854775807 := by
          have e := congrArg ByteArray.size HE.out
          rw [ByteArray.size_append, bs_size (acc ++ _), List.length_append] at e
          have := enc_len (upR r)
          rw [e]
          omega
        go_wp2
        all_goals first
          | (exfalso; omega)
          | (go_roundw
             case rel =>
               exact ⟨pos + k, acc ++ enc (upR r), it_next HI.out _, Lib.below_iterAt HB.out (Nat.le_refl _) s _, by rw [← HE.out], HT.out, by rw [List.length_append]; have := enc_len (upR r); have := HW.out; omega⟩
             case measure =>
               rw [it_pos (it_next HI.out _), it_pos HI.out]
               have := HW.out
               omega)
      · have HX := Lib.hid (up_ref_no h97)
        have HE : Hid (bs acc ++ Utf8.encode (r : Int) = bs (acc ++ enc (upR r))) := by
          show _ = _
          rw [encode_bs HSc.out, bs_append, HX.out]
        have HN := Lib.hid h97
        clear h97
        have hq : (bs acc).size + (Utf8.encode (r : Int)).size ≤ 9223372036854775807 := by
          have e := congrArg ByteArray.size HE.out
          rw [ByteArray.size_append, bs_size (acc ++ _), List.length_append] at e
          have := enc_len (upR r)
          rw [e]
          omega
        obtain ⟨E, hE⟩ : ∃ E, E = Utf8.encode (r : Int) := ⟨_, rfl⟩
        have hcv : ∀ W : World, (convert 21 9 (.int .i32 (r : Int))).run Try.prog W = .ok (.string E) W := by
          intro W
          rw [hE]
          exact run_convert_int_string W 21 9 .i32 _ (by kernel_rfl) Try.underlying9
        rw [← hE] at HE hq
        clear hE
        by_cases h97 : r < 97
        · clear HX
          go_wp2
          all_goals first
            | (exfalso; omega)
            | (go_roundw
               case rel =>
                 exact ⟨pos + k, acc ++ enc (upR r), it_next HI.out _, Lib.below_iterAt HB.out (Nat.le_refl _) s _, by rw [← HE.out], HT.out, by rw [List.length_append]; have := enc_len (upR r); have := HW.out; omega⟩
               case measure =>
                 rw [it_pos (it_next HI.out _), it_pos HI.out]
                 have := HW.out
                 omega)
        · have ha : 97 ≤ r := by omega
          have hb : 122 < r := by have := HN.out; omega
          clear h97 HX
          go_wp2
          all_goals first
            | (exfalso; omega)
            | (go_roundw
               case rel =>
                 exact ⟨pos + k, acc ++ enc (upR r), it_next HI.out _, Lib.below_iterAt HB.out (Nat.le_refl _) s _, by rw [← HE.out], HT.out, by rw [List.length_append]; have := enc_len (upR r); have := HW.out; omega⟩
               case measure =>
                 rw [it_pos (it_next HI.out _), it_pos HI.out]
                 have := HW.out
                 omega)
    · have hnx : ∀ ty, (Instr.next (.pointer (some ⟨w.heap.size, 0, none⟩)) true ty).run Try.prog wr = _ := fun ty => Lib.run_next_end_at wr w.heap.size s pos ty HI.out hp
      go_wp2
      go_ret
      have h := HA.out
      rw [rs_end hp] at h
      exact uppers_mk (by rw [← h]; simp [encs]) HB.out
end Go.Proofs.Ytifogkacjfpipaa
