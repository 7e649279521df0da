/- The code's own batch, chapter 6: split, record, length, kind, Count. -/
import Derived.Test.YtlpmfhccfihnfaaBatCode2
import Derived.Test.YtlpmfhccfihnfaaBatWrite
namespace Go.Proofs.Ytlpmfhccfihnfaa
open Go.RowKit
open Go.SeqMath
open Go.BatMath hiding AllB getD_lt take_all
open Go.VarMath (longB length_longB textB beB length_beB beB_take)
set_option linter.unusedVariables false

/-- What stands before round i of split's loop. -/
def SplitAt (w : World) (K u i : Nat) (wr : World) : Prop := Own wr w.heap.size ((beB K u).take i ++ List.replicate (K - i) 0) ∧ Below w.heap.size w wr
theorem splitAt_start (w : World) (K u : Nat) : SplitAt w K u 0 (w.alloc (.cells (vals (List.replicate K 0)).toArray 5)) :=
  ⟨by simpa using own_new w (List.replicate K 0), (Below.refl _ _).alloc (Nat.le_refl _) _⟩
theorem SplitAt.free {w wr : World} {K u i : Nat} (h : SplitAt w K u i wr) (j : Nat) : wr.frozen? ⟨w.heap.size, j, none⟩ = false := h.1.free j
theorem SplitAt.cell {w wr : World} {K u i : Nat} (h : SplitAt w K u i wr) (hi : i < K) : ∃ x, wr.cell? ⟨w.heap.size, i, none⟩ = some x := ⟨_, h.1.cell i (by simp [length_beB]; omega)⟩
theorem SplitAt.next {w wr : World} {K u i z : Nat} (h : SplitAt w K u i wr) (hi : i < K) (hz : z = u / 256 ^ (K - 1 - i) % 256) : SplitAt w K u (i + 1) (wr.setCell ⟨w.heap.size, i, none⟩ (.int .u8 (z : Int))) := by
  refine ⟨?_, h.2.setCell (Nat.le_refl _) _⟩
  have hs := h.1.set i z
  have e : ((beB K u).take i ++ List.replicate (K - i) 0).set i z = (beB K u).take (i + 1) ++ List.replicate (K - (i + 1)) 0 := by
    rw [beB_take i K u hi, ← hz]
    have hl : ((beB K u).take i).length = i := by rw [List.length_take, length_beB]; omega
    obtain ⟨m, hm⟩ : ∃ m, K - i = m + 1 := ⟨K - i - 1, by omega⟩
    rw [hm, show K - (i + 1) = m by omega, List.set_append_right _ _ (by omega), hl, Nat.sub_self, List.replicate_succ, List.set_cons_zero, List.append_assoc]
    rfl
  rw [e] at hs
  exact hs
theorem SplitAt.done {w wr : World} {K u : Nat} (h : SplitAt w K u K wr) (hK : K ≤ 100) : GivesRow w (beB K u) (.returned (.slice (some ⟨w.heap.size, 0, none⟩) K K)) wr := by
  have h1 := h.1
  rw [List.take_of_length_le (by rw [length_beB]; exact Nat.le_refl _), Nat.sub_self] at h1
  exact gives_row (length_beB K u) (owns_front (m := 0) (length_beB K u) h1 (Nat.le_refl _) (by unfold maxLen; omega)) h.2
theorem split_shift (u j : Nat) : (u : Int) / 2 ^ (8 * j) % 256 = ((u / 256 ^ j % 256 : Nat) : Int) := by
  have h : (256 : Nat) ^ j = 2 ^ (8 * j) := by rw [Nat.pow_mul]
  rw [h]; simp
set_option maxHeartbeats 400000 in
theorem split4_any (w : World) (u : Nat) (hu : u < 4294967296) :
    Calls Try.prog 37 #[.int .u32 (u : Int), .int .i64 4] w (GivesRow w (beB 4 u)) := by
  have hmk : ∀ W, (Instr.makeSlice 34 (.int .i64 4) (.int .i64 4)).run Try.prog W = .ok (.slice (some ⟨W.heap.size, 0, none⟩) 4 4) (W.alloc (.cells (vals (List.replicate 4 0)).toArray 5)) := fun W => run_make_part W 4 4 (by omega) (by omega)
  go_enter Try.func37, Try.ntmps37
  go_wp2
  go_loopw [6, 11] (fun v6 v11 wr => ∃ i : Nat, i ≤ 4 ∧ v11 = .int .i64 i ∧ SplitAt w 4 u i wr) (fun _ v11 _ => (4 - intOf v11).toNat)
  case atStart => exact ⟨0, by omega, rfl, splitAt_start w 4 u⟩
  case round =>
    obtain ⟨i, hi, rfl, hat⟩ := hrel
    have HAT := Lib.hid hat
    clear hat hmk
    by_cases hlt : i < 4
    · obtain ⟨z, hz⟩ : ∃ z, z = u / 256 ^ (3 - i) % 256 := ⟨_, rfl⟩
      have hz8 : z < 256 := by omega
      have hsh : (u : Int) / 2 ^ (8 * (3 - i)) % 256 = (z : Int) := by rw [hz]; exact split_shift _ _
      obtain ⟨x, hx⟩ := HAT.out.cell hlt
      have hfr := HAT.out.free i
      have HZ := Lib.hid hz
      clear hz
      go_wp2
      go_roundw
      case rel => exact ⟨i + 1, by omega, by go_num, HAT.out.next hlt HZ.out⟩
      case measure => simp [intOf]; omega
    · obtain rfl : i = 4 := by omega
      go_wp2
      go_ret
      exact HAT.out.done (by omega)
set_option maxHeartbeats 400000 in
theorem split2_any (w : World) (u : Nat) (hu : u < 4294967296) :
    Calls Try.prog 37 #[.int .u32 (u : Int), .int .i64 2] w (GivesRow w (beB 2 u)) := by
  have hmk : ∀ W, (Instr.makeSlice 34 (.int .i64 2) (.int .i64 2)).run Try.prog W = .ok (.slice (some ⟨W.heap.size, 0, none⟩) 2 2) (W.alloc (.cells (vals (List.replicate 2 0)).toArray 5)) := fun W => run_make_part W 2 2 (by omega) (by omega)
  go_enter Try.func37, Try.ntmps37
  go_wp2
  go_loopw [6, 11] (fun v6 v11 wr => ∃ i : Nat, i ≤ 2 ∧ v11 = .int .i64 i ∧ SplitAt w 2 u i wr) (fun _ v11 _ => (2 - intOf v11).toNat)
  case atStart => exact ⟨0, by omega, rfl, splitAt_start w 2 u⟩
  case round =>
    obtain ⟨i, hi, rfl, hat⟩ := hrel
    have HAT := Lib.hid hat
    clear hat hmk
    by_cases hlt : i < 2
    · obtain ⟨z, hz⟩ : ∃ z, z = u / 256 ^ (1 - i) % 256 := ⟨_, rfl⟩
      have hz8 : z < 256 := by omega
      have hsh : (u : Int) / 2 ^ (8 * (1 - i)) % 256 = (z : Int) := by rw [hz]; exact split_shift _ _
      obtain ⟨x, hx⟩ := HAT.out.cell hlt
      have hfr := HAT.out.free i
      have HZ := Lib.hid hz
      clear hz
      go_wp2
      go_roundw
      case rel => exact ⟨i + 1, by omega, by go_num, HAT.out.next hlt HZ.out⟩
      case measure => simp [intOf]; omega
    · obtain rfl : i = 2 := by omega
      go_wp2
      go_ret
      exact HAT.out.done (by omega)

set_option maxRecDepth 100000 in
theorem record_any (w : World) (ks vs : ByteArray) (h1 : ks.size ≤ 4096) (h2 : vs.size ≤ 4096) :
    Calls Try.prog 56 #[.agg #[.string ks, .string vs]] w (GivesRow w (recB ⟨ks, vs⟩)) := by
  have l1 := BatMath.text_len (s := bl ks) (by rw [bl_len]; omega)
  have l2 := BatMath.text_len (s := bl vs) (by rw [bl_len]; omega)
  rw [bl_len] at l1 l2
  obtain ⟨n1, hn1⟩ : ∃ n1, n1 = (textB (bl ks)).length := ⟨_, rfl⟩
  obtain ⟨n2, hn2⟩ : ∃ n2, n2 = (textB (bl vs)).length := ⟨_, rfl⟩
  rw [← hn1] at l1
  rw [← hn2] at l2
  have HN1 : Hid (([] ++ textB (bl ks)).length = n1) := by show _ = _; rw [List.nil_append, hn1]
  have HN2 : Hid ((([] ++ textB (bl ks)) ++ textB (bl vs)).length = n1 + n2) := by show _ = _; rw [List.length_append, HN1.out, hn2]
  have HA1 : Hid (AllB ([] ++ textB (bl ks))) := by show AllB _; rw [List.nil_append]; exact text_all (bl_all _) (by rw [bl_len]; omega)
  clear hn1 hn2
  obtain ⟨wx, hwx⟩ : ∃ wx, wx = w.alloc (.cells #[.string ks, .string vs] 58) := ⟨_, rfl⟩
  have hd0 : wx.cell? ⟨w.heap.size, 0, none⟩ = some (.string ks) := by rw [hwx, World.cell?, heap_alloc_new]; rfl
  have hd1 : wx.cell? ⟨w.heap.size, 1, none⟩ = some (.string vs) := by rw [hwx, World.cell?, heap_alloc_new]; rfl
  have HWX := Lib.hid hwx
  have HBX : Hid (Below w.heap.size w wx) := by show Below _ _ _; rw [hwx]; exact (Below.refl _ _).alloc (Nat.le_refl _) _
  have CT : Hid (∀ W, Below wx.heap.size wx W → Calls Try.prog 74 #[.slice none 0 0, .string ks] W (GivesRow W ([] ++ textB (bl ks)))) := by
    intro W hW
    exact text_any W none 0 0 [] ks ⟨Byt.nil W, fun _ => rfl⟩ (by omega)
  clear hwx
  go_enter Try.func56, Try.ntmps56
  go_upto_region 1 with fail
  rw [← HWX.out]
  go_region_held3 (fun W => Below wx.heap.size wx W ∧ W.cell? ⟨w.heap.size, 0, none⟩ = some (.string ks) ∧ W.cell? ⟨w.heap.size, 1, none⟩ = some (.string vs)) (first | exact keep_two hb6.out hd0 hd1 | exact keep_two hb5.out hd0 hd1 | exact keep_two ((Below.refl _ wx).drew) hd0 hd1) (first | (go_at_call 74; refine (text_any _ _ _ _ _ vs (owns_row ho5.out HA1.out) (by omega)).mono ?_; rintro e w6 hg; obtain ⟨g6, k6, rfl, ho6, hb6, hbb6⟩ := gives_on (w := wx) (n := n1 + n2) hg hb5.out HN2.out) | (go_at_call 74; refine (CT.out _ ?_).mono ?_; exact (And.left ‹Below wx.heap.size wx _ ∧ _›); rintro e w5 hg; obtain ⟨g5, k5, rfl, ho5, hb5, hbb5⟩ := gives_on (w := wx) (n := n1) hg (And.left ‹Below wx.heap.size wx _ ∧ _›) HN1.out))
  go_wp2
  go_ret
  exact gives_row (by rw [recB, ← HN2.out]; rfl) (by rw [recB]; exact owns_low ho6.out HBX.out.size) (HBX.out.trans (hb6.out.mono HBX.out.size))
/-- What stands before round j of length's loop. -/
def LenAt (w : World) (l : List Rc) (v3 v9 : Value) (wr : World) : Prop := ∃ j : Nat, j ≤ l.length ∧ v9 = .int .i64 j ∧ v3 = .int .i64 ((36 + (recsB (l.take j)).length : Nat) : Int) ∧ Below w.heap.size w wr
theorem lenAt_start {w W : World} {l : List Rc} (h : Below w.heap.size w W) : LenAt w l (.int .i64 36) (.int .i64 0) W := ⟨0, Nat.zero_le _, rfl, by simp [recsB], h⟩
set_option maxRecDepth 100000 in
set_option maxHeartbeats 1000000 in
theorem length_any (w : World) (b : Bat) (ad : Option Addr) (len cap : Nat) (hr : RecsAt w ad len cap b.recs) (ht : ∀ r ∈ b.recs, r.key.size ≤ 64 ∧ r.val.size ≤ 64) (hL : len ≤ 255) :
    Calls Try.prog 44 #[.agg #[.int .i64 b.base, .int .i64 b.prod, .int .i64 b.epoch, .int .i64 b.seq, .bool b.txn, .int .i64 b.marker, .slice ad len cap]] w (Says ((bytesB b).length : Int) w) := by
  have hbl := bytes_len b
  have hlr := hr.length
  have HR := Lib.hid hr
  have HT := Lib.hid ht
  have HLR := Lib.hid hlr
  have HBL := Lib.hid hbl
  clear hr ht hlr hbl
  obtain ⟨N, hN⟩ : ∃ N, N = (bytesB b).length := ⟨_, rfl⟩
  rw [← hN] at HBL ⊢
  clear hN
  obtain ⟨base, prod, epoch, seq, txn, marker, recs⟩ := b
  simp only at HR HT HLR HBL ⊢
  have HX := Lib.hid (boxAt_new w base prod epoch seq txn marker (.slice ad len cap))
  have HB : Hid (Below w.heap.size w (w.alloc (.cells #[.int .i64 base, .int .i64 prod, .int .i64 epoch, .int .i64 seq, .bool txn, .int .i64 marker, .slice ad len cap] 24))) := (Below.refl _ _).alloc (Nat.le_refl _) _
  go_enter Try.func44, Try.ntmps44
  go_wp2_with fail
  go_loopw [3, 9] (fun v3 v9 wr => LenAt w recs v3 v9 wr) (fun _ v9 _ => len - (intOf v9).toNat)
  case atStart => exact lenAt_start HB.out
  case round =>
    obtain ⟨j, hj, rfl, rfl, hbel⟩ := hrel
    have HBEL := Lib.hid hbel
    clear hbel
    rw [HLR.out] at hj
    have hsm : (recsB (recs.take j)).length ≤ 37740 := by
      have h1 := (recs_len (take_texts HT.out j)).2
      have h2 : (recs.take j).length ≤ 255 := by rw [List.length_take]; have := HLR.out; omega
      omega
    obtain ⟨m, hm⟩ : ∃ m, m = 36 + (recsB (recs.take j)).length := ⟨_, rfl⟩
    rw [← hm]
    have hm1 : m ≤ 40000 := by omega
    clear hsm
    by_cases hlt : j < len
    · obtain ⟨r, hrj⟩ : ∃ r, recs[j]? = some r := by
        have hjl : j < recs.length := by rw [HLR.out]; exact hlt
        exact ⟨_, List.getElem?_eq_getElem hjl⟩
      obtain ⟨bk, off, rfl, hbk, hcell⟩ : ∃ bk off, ad = some ⟨bk, off, none⟩ ∧ bk < w.heap.size ∧ ∀ i r, recs[i]? = some r → wr.cell? ⟨bk, off + i * 2, none⟩ = some (.string r.key) ∧ wr.cell? ⟨bk, off + i * 2 + 1, none⟩ = some (.string r.val) := by
        rcases HR.out.cells with h | ⟨bk, off, e, hlt, hc⟩
        · omega
        · exact ⟨bk, off, e, hlt, fun i r hi => ⟨(HBEL.out.cell (p := ⟨bk, _, none⟩) hlt).trans (hc i r hi).1, (HBEL.out.cell (p := ⟨bk, _, none⟩) hlt).trans (hc i r hi).2⟩⟩
      obtain ⟨hk, hv⟩ := hcell j r hrj
      obtain ⟨hs1, hs2⟩ := HT.out r (List.mem_of_getElem? hrj)
      have hsn := take_recs hrj
      have hrl := rec_len ⟨hs1, hs2⟩
      obtain ⟨q, hq⟩ : ∃ q, q = (recB r).length := ⟨_, rfl⟩
      have HM2 : Hid (36 + (recsB (recs.take (j + 1))).length = m + q) := by show _ = _; rw [hsn, List.length_append, hq, hm]; omega
      rw [← hq] at hrl
      have HQ := Lib.hid hq
      obtain ⟨ks, vs⟩ := r
      simp only at hk hv hs1 hs2
      have HLE : Hid (j + 1 ≤ recs.length) := by show _ ≤ _; rw [HLR.out]; exact hlt
      have HBA : Hid (Below w.heap.size w (wr.alloc (.cells #[.string ks, .string vs] 58))) := HBEL.out.alloc HBEL.out.size _
      clear hcell hrj hsn hq hm
      go_wp2_with fail
      refine (record_any _ ks vs (by omega) (by omega)).mono ?_
      rintro e w2 hg
      obtain ⟨g2, c2, rfl, _, hb2, _⟩ := gives_on hg HBA.out HQ.out.symm
      clear hg
      go_wp2
      go_roundw
      case rel => exact ⟨j + 1, HLE.out, by go_num, by rw [HM2.out]; go_num, hb2.out⟩
      case measure => simp [intOf]; omega
    · obtain rfl : j = len := by omega
      have hrl : recs.take j = recs := by rw [List.take_of_length_le (by rw [HLR.out]; exact Nat.le_refl _)]
      have HMN : Hid (m = N) := by show _ = _; rw [hm, HBL.out, hrl]
      clear hrl hm
      go_wp2
      go_ret
      exact says_mk (by rw [HMN.out]) HBEL.out
/-- The byte of the flags. -/
theorem kind_any (w : World) (b : Bat) (v : Value) (h0 : 0 ≤ b.marker) (h1 : b.marker ≤ 2) :
    Calls Try.prog 55 #[.agg #[.int .i64 b.base, .int .i64 b.prod, .int .i64 b.epoch, .int .i64 b.seq, .bool b.txn, .int .i64 b.marker, v]] w fun e w' => e = .returned (.int .u8 (flagN b : Nat)) ∧ Below w.heap.size w w' := by
  obtain ⟨F, hF⟩ : ∃ F, F = flagN b := ⟨_, rfl⟩
  have hFx : (F : Int) = 2 * b.marker + (if b.txn = true then 1 else 0) := by
    rw [hF]; unfold flagN; split <;> omega
  rw [← hF]
  have HF := Lib.hid hFx
  clear hF hFx
  obtain ⟨base, prod, epoch, seq, txn, marker, recs⟩ := b
  simp only at HF h0 h1 ⊢
  have hmm : marker = 0 ∨ marker = 1 ∨ marker = 2 := by omega
  clear h0 h1
  cases txn
  · rcases hmm with rfl | rfl | rfl
    all_goals
      go_enter Try.func55, Try.ntmps55
      go_wp2
      go_ret
      exact ⟨by rw [HF.out]; rfl, (Below.refl _ _).alloc (Nat.le_refl _) _⟩
  · rcases hmm with rfl | rfl | rfl
    all_goals
      go_enter Try.func55, Try.ntmps55
      go_wp2
      go_ret
      exact ⟨by rw [HF.out]; rfl, (Below.refl _ _).alloc (Nat.le_refl _) _⟩
theorem batCount_any (w : World) (b0 b1 b2 b3 : Int) (b4 : Bool) (b5 : Int) (ad : Option Addr) (len cap : Nat) (n : Int) (hn : (if b5 ≠ 0 then 1 else (len : Int)) = n) :
    Calls Try.prog 23 #[.agg #[.int .i64 b0, .int .i64 b1, .int .i64 b2, .int .i64 b3, .bool b4, .int .i64 b5, .slice ad len cap]] w (Says n w) := by
  by_cases h : b5 = 0
  · subst h
    obtain rfl : (len : Int) = n := by rw [← hn, if_neg (by decide)]
    clear hn
    go_enter Try.func23, Try.ntmps23
    go_wp2
    go_ret
    exact says_mk rfl ((Below.refl _ _).alloc (Nat.le_refl _) _)
  · have h1 : (b5 != 0) = true := by simpa using h
    obtain rfl : 1 = n := by rw [← hn, if_pos h]
    clear hn
    go_enter Try.func23, Try.ntmps23
    go_wp2
    go_ret
    exact says_mk rfl ((Below.refl _ _).alloc (Nat.le_refl _) _)
end Go.Proofs.Ytlpmfhccfihnfaa
