/- The contract of Less. It asks that the library's two tables of runes hold what they begin with. -/
import Derived.Test.YtjocfkkcnkpjdaaDoorNameRight
import Derived.Test.YtjocfkkcnkpjdaaDoorShelf
namespace Go.Proofs.YtjocfkkcnkpjdaaDoor
open Go.RowKit
open Go.RuneMath
set_option linter.unusedVariables false

/-- The two tables stand, from w on. -/
def Tabs (w : World) : Prop := Lib.Utf8Tabs 0 1 w
theorem Tabs.keep {w w' : World} (h : Tabs w) (hb : Below w.heap.size w w') : Tabs w' := by
  obtain ⟨h1, h2⟩ := h
  refine ⟨fun c hc => ?_, fun i hi => ⟨?_, ?_⟩⟩
  · have e := h1 c hc
    rw [hb.cell (p := ⟨0, c, none⟩) (World.block_lt_of_cell? w _ e)]
    exact e
  · have e := (h2 i hi).1
    rw [hb.cell (p := ⟨1, 2 * i, none⟩) (World.block_lt_of_cell? w _ e)]
    exact e
  · have e := (h2 i hi).2
    rw [hb.cell (p := ⟨1, 2 * i + 1, none⟩) (World.block_lt_of_cell? w _ e)]
    exact e
theorem decodeGo_ne {b : ByteArray} (h : b.size ≠ 0) : Lib.decodeGo b = Lib.decodeL b.data.toList := by
  unfold Lib.decodeGo
  rw [if_neg h]
  have := Lib.decodeL_drop b 0
  rw [List.drop_zero] at this
  exact this.symm
theorem decodeGo_nil {b : ByteArray} (h : b.size = 0) : Lib.decodeGo b = (65533, 0) := by
  unfold Lib.decodeGo
  rw [if_pos h]
theorem list_of_zero {b : ByteArray} (h : b.size = 0) : b.data.toList = [] := List.eq_nil_of_length_eq_zero (by rw [← Lib.size_eq]; exact h)
theorem list_of_pos {b : ByteArray} (h : b.size ≠ 0) : b.data.toList ≠ [] := fun e => h (by rw [Lib.size_eq, e]; rfl)
theorem drop_list (b : ByteArray) (k : Nat) : (b.extract k b.size).data.toList = b.data.toList.drop k := by
  rw [Lib.extract_data, List.take_of_length_le (by rw [List.length_drop, ← Lib.size_eq]; exact Nat.le_refl _)]
theorem less_end {r : Nat} {tl : List Nat} {b : ByteArray} {x : Bool} (h : lessR (r :: tl) (runes b.data.toList) = x) (h0 : b.size = 0) : false = x := by
  rw [list_of_zero h0, runes_nil] at h
  rw [← h]
  rfl
theorem less_go {r : Nat} {tl : List Nat} {b : ByteArray} {x : Bool} (h : lessR (r :: tl) (runes b.data.toList) = x) (h0 : b.size ≠ 0) : (if r = (Lib.decodeGo b).1 then lessR tl (runes (b.data.toList.drop (Lib.decodeGo b).2)) else decide (r < (Lib.decodeGo b).1)) = x := by
  rw [runes_cons (list_of_pos h0), lessR_cons] at h
  rw [decodeGo_ne h0]
  exact h

set_option maxHeartbeats 1000000 in
set_option maxRecDepth 100000 in
theorem less_any (w : World) (a b : ByteArray) (hT : Tabs w) : Calls Tryd.prog 40 #[.string a, .string b] w (Lesses a b w) := by
  have HTb := Lib.hid hT
  clear hT
  go_enter Tryd.func40, Tryd.ntmps40
  go_wp2
  go_loopw [1] (fun v wr => ∃ (pos : Nat) (c : ByteArray), ItAt wr w.heap.size a pos ∧ Below w.heap.size w wr ∧ v = .string c ∧ lessR (rs a pos) (runes c.data.toList) = lessB a.data.toList b.data.toList) (fun _ wr => a.size - wr.iterPos w.heap.size)
  case atStart => exact ⟨0, b, it_start w a, (Below.refl _ w).alloc (Nat.le_refl _) _, rfl, by rw [rs_zero]; rfl⟩
  case round =>
    obtain ⟨pos, c, hit, hbw, rfl, hls⟩ := hrel
    have HI := Lib.hid hit
    have HB := Lib.hid hbw
    have HL := Lib.hid hls
    clear hit hbw hls
    by_cases hp : pos < a.size
    · have hnx : ∀ ty, (Instr.next (.pointer (some ⟨w.heap.size, 0, none⟩)) true ty).run Tryd.prog wr = _ := fun ty => Lib.run_next_any_at wr w.heap.size a pos ty HI.out hp
      have HW := Lib.hid (Lib.width_pos a pos)
      have hst := HL.out
      rw [rs_step hp] at hst
      have hr4 := Lib.rune_le a pos
      obtain ⟨r, hr⟩ : ∃ r, r = (Utf8.decode a pos).1 := ⟨_, rfl⟩
      obtain ⟨k, hk⟩ : ∃ k, k = (Utf8.decode a pos).2 := ⟨_, rfl⟩
      rw [← hr, ← hk] at hst
      rw [← hr] at hr4
      rw [← hk] at HW
      simp only [← hr, ← hk] at hnx
      have HS := Lib.hid hst
      clear hst hr hk
      have HB2 := Lib.hid (Lib.below_iterAt HB.out (Nat.le_refl _) a (pos + k))
      have HI2 := Lib.hid (it_next HI.out (pos + k))
      have CD0 := fun W (h : Tabs W) => Tryd.utf8_DecodeRuneInString c W h
      by_cases h0 : c.size = 0
      · have HF := Lib.hid (less_end HS.out h0)
        rw [decodeGo_nil h0] at CD0
        have CD := Lib.hid CD0
        clear CD0 h0
        go_wp2_with fail
        refine (CD.out _ (HTb.out.keep HB2.out)).mono ?_
        rintro e w1 ⟨rfl, hb1⟩
        have HN := Lib.hid hb1
        clear hb1
        go_wp2
        go_ret
        exact lesses_mk HF.out (step HB2.out HN.out)
      · have hg := less_go HS.out h0
        have hkl : (Lib.decodeGo c).2 ≤ c.size := by
          rw [decodeGo_ne h0, Lib.size_eq]
          exact Lib.decodeL_le _ (list_of_pos h0)
        have hk1 : 1 ≤ (Lib.decodeGo c).2 := by
          rw [decodeGo_ne h0]
          exact Lib.decodeL_width _
        have hq4 : (Lib.decodeGo c).1 ≤ 1114111 := by
          rw [decodeGo_ne h0]
          exact Lib.decodeL_rune _
        obtain ⟨q, hq⟩ : ∃ q, q = (Lib.decodeGo c).1 := ⟨_, rfl⟩
        obtain ⟨m, hm⟩ : ∃ m, m = (Lib.decodeGo c).2 := ⟨_, rfl⟩
        rw [← hq, ← hm] at hg CD0
        rw [← hm] at hkl hk1
        rw [← hq] at hq4
        have CD := Lib.hid CD0
        have HG := Lib.hid hg
        clear CD0 hg hq hm h0
        by_cases hrq : r = q
        · have HF : Hid (lessR (rs a (pos + k)) (runes (c.data.toList.drop m)) = lessB a.data.toList b.data.toList) := by
            have h := HG.out
            rw [if_pos hrq] at h
            exact h
          subst hrq
          go_wp2_with fail
          refine (CD.out _ (HTb.out.keep HB2.out)).mono ?_
          rintro e w1 ⟨rfl, hb1⟩
          have HN := Lib.hid hb1
          clear hb1
          go_wp2
          go_roundw
          case rel =>
            exact ⟨pos + k, c.extract m c.size, it_below HI2.out HN.out (it_lt HI2.out), step HB2.out HN.out, rfl, by rw [drop_list]; exact HF.out⟩
          case measure =>
            rw [it_pos (it_below HI2.out HN.out (it_lt HI2.out)), it_pos HI.out]
            have := HW.out
            omega
        · have HF : Hid (decide (r < q) = lessB a.data.toList b.data.toList) := by
            have h := HG.out
            rw [if_neg hrq] at h
            exact h
          go_wp2_with fail
          refine (CD.out _ (HTb.out.keep HB2.out)).mono ?_
          rintro e w1 ⟨rfl, hb1⟩
          have HN := Lib.hid hb1
          clear hb1
          go_wp2
          go_ret
          exact lesses_mk HF.out (step HB2.out HN.out)
    · have hnx : ∀ ty, (Instr.next (.pointer (some ⟨w.heap.size, 0, none⟩)) true ty).run Tryd.prog wr = _ := fun ty => Lib.run_next_end_at wr w.heap.size a pos ty HI.out hp
      have hx := HL.out
      rw [rs_end hp] at hx
      by_cases h0 : c.size = 0
      · rw [list_of_zero h0, runes_nil] at hx
        have HX := Lib.hid hx
        have hc : c = ⟨#[]⟩ := by
          apply ByteArray.ext
          exact Array.eq_empty_of_size_eq_zero h0
        clear hx h0
        subst hc
        go_wp2
        go_ret
        exact lesses_mk HX.out HB.out
      · rw [nil_less (fun e => list_of_pos h0 (runes_eq_nil e))] at hx
        have HX := Lib.hid hx
        have he : c.toList.isEmpty = false := by
          rw [Lib.toList_data]
          cases h : c.data.toList with
          | nil => exact absurd (by rw [Lib.size_eq, h]; rfl) h0
          | cons _ _ => rfl
        clear hx h0
        go_wp2
        go_ret
        exact lesses_mk HX.out HB.out
end Go.Proofs.YtjocfkkcnkpjdaaDoor
