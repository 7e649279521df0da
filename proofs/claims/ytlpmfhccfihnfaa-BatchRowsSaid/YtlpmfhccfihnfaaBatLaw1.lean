/- The statements' own 'known' of chapter 6; what Bytes and Read give where all is right. -/
import Derived.Test.YtlpmfhccfihnfaaBatCodeB
import Derived.Test.YtlpmfhccfihnfaaTapeBatch
namespace Go.Proofs.Ytlpmfhccfihnfaa
open Go.RowKit
open Go.SeqMath
open Go.BatMath hiding AllB getD_lt take_all
open Go.VarMath (longB length_longB)
set_option linter.unusedVariables false

theorem texts_of {l : List Rc} (h : ∀ r ∈ l, r.key.size ≤ 64 ∧ r.val.size ≤ 64) : TextsOk l := fun r hr => by have := h r hr; omega
/-- Bytes of a batch that is right. -/
theorem bytes_right (w : World) (b : Bat) (ad : Option Addr) (len cap n : Nat) (hr : RecsAt w ad len cap b.recs) (h0 : rightE b = 0) (hw : b.wf) (hn : (bytesB b).length = n) :
    Calls Try.prog 18 #[.agg #[.int .i64 b.base, .int .i64 b.prod, .int .i64 b.epoch, .int .i64 b.seq, .bool b.txn, .int .i64 b.marker, .slice ad len cap]] w fun e w' =>
      ∃ g c, e = .returned (.tuple #[.slice (some ⟨g, 0, none⟩) n c, .int .i64 0]) ∧ Hid (Row w' (some ⟨g, 0, none⟩) n c (bytesB b)) ∧ Hid (w.heap.size ≤ g) ∧ Hid (Below w.heap.size w w') := by
  have ho := ok_of h0
  have hlr := hr.length
  have h16 := ho.recs
  subst hn
  refine (batBytes_any w b ad len cap hr (texts_of ho.texts) (by omega) hw.prod.2).mono ?_
  rintro e w' (⟨_, g, c, rfl, h, hb⟩ | ⟨hne, _, _⟩)
  · have hg : w.heap.size ≤ g := (pre_owns h).2.2.2.1
    exact ⟨g, c, rfl, owns_row h (bytes_all ho), hg, hb⟩
  · exact absurd h0 hne
/-- Read of a row at the front of which there is a batch that is right. -/
theorem read_good (w : World) (ad : Option Addr) (len cap : Nat) (x : List Nat) (h : Byt w ad len cap x) (hL : len ≤ 140737488355328) (b : Bat) (hg : BatMath.Good x b) (n k : Nat) (hn : b.recs.length = n) (hk : (bytesB b).length = k) :
    Calls Try.prog 20 #[.slice ad len cap] w fun e w' =>
      ∃ ad' cap', e = .returned (.tuple #[.agg #[.int .i64 b.base, .int .i64 b.prod, .int .i64 b.epoch, .int .i64 b.seq, .bool b.txn, .int .i64 b.marker, .slice ad' n cap'], .int .i64 (k : Int), .int .i64 0]) ∧ Hid (RecsAt w' ad' n cap' b.recs) ∧ Hid (∀ a, ad' = some a → w.heap.size ≤ a.block) ∧ Hid (Below w.heap.size w w') := by
  subst hn hk
  refine (batRead_any w ad len cap x h hL).mono ?_
  rw [readD_good h.all hg]
  rintro e w' ⟨ad', cap', rfl, h1, h2, h3⟩
  exact ⟨ad', cap', rfl, h1, h2, h3⟩
/-- Rebase of the bytes of a batch that is right. -/
theorem rebase_right (w : World) (ad : Option Addr) (len cap : Nat) (b : Bat) (h : Byt w ad len cap (bytesB b)) (h0 : rightE b = 0) (hw : b.wf) (m : Int) (hm0 : 0 ≤ m) (hm1 : m ≤ 1099511627776) :
    Calls Try.prog 19 #[.slice ad len cap, .int .i64 m] w fun e w' =>
      ∃ g c, e = .returned (.tuple #[.slice (some ⟨g, 0, none⟩) len c, .bool true]) ∧ Hid (Row w' (some ⟨g, 0, none⟩) len c (bytesB (b.at m))) ∧ Hid (Below w.heap.size w w') := by
  have ho := ok_of h0
  have hl := (ok_len ho).1
  have hxl := h.length
  have hg : BatMath.Good (bytesB b) b := by have := good_of h0 hw []; rw [List.append_nil] at this; exact this
  have hc : canB (bytesB b) m = true := by
    unfold canB
    rw [readD_good h.all hg]
    exact decide_eq_true ⟨rfl, rfl, hm0, hm1⟩
  refine (batRebase_any w ad len cap (bytesB b) m h (by omega) (by omega) (by omega)).mono ?_
  rw [hc]
  rintro e w' (⟨_, g, c, rfl, h1, h2⟩ | ⟨hne, _, _⟩)
  · rw [← bytes_at, hxl] at h1
    rw [hxl]
    exact ⟨g, c, rfl, owns_row h1 (bytes_all (ok_of (right_at h0 hm0 hm1))), h2⟩
  · cases hne
theorem recsAt_lit (w : World) (k v : ByteArray) : RecsAt (w.alloc (.cells #[.string k, .string v] 58)) (some ⟨w.heap.size, 0, none⟩) 1 1 [⟨k, v⟩] := by
  refine ⟨rfl, Nat.le_refl _, (fun h => by cases h), .inr ⟨w.heap.size, 0, rfl, by simp, fun i r hi => ?_⟩⟩
  cases i with
  | zero =>
    cases hi
    exact ⟨cell_of_row _ _ 0 _ _ _ (heap_alloc_new w _), cell_of_row _ _ 1 _ _ _ (heap_alloc_new w _)⟩
  | succ i => simp at hi
def knownB : Bat := ⟨7, -1, -1, -1, false, 0, [⟨⟨#[107]⟩, ⟨#[118]⟩⟩]⟩
theorem known_right : rightE knownB = 0 := right_none (by decide) (by decide) (by decide) (by decide) (by intro r hr; rcases List.mem_singleton.1 hr with rfl; exact ⟨by decide, by decide⟩)
theorem known_wf : knownB.wf := ⟨by decide, by decide, by decide, by decide, by decide⟩
set_option maxRecDepth 100000 in
set_option maxHeartbeats 2000000 in
theorem known_any (w : World) : Calls Try.prog 14 #[] w fun e w' => e = .returned (.bool true) ∧ Below w.heap.size w w' := by
  obtain ⟨N, hN⟩ : ∃ N, (bytesB knownB).length = N := ⟨_, rfl⟩
  have hNl : 36 ≤ N ∧ N ≤ 2404 := by rw [← hN]; exact ⟨(ok_len (ok_of known_right)).2, (ok_len (ok_of known_right)).1⟩
  have hsz : sizeB knownB = (N : Int) := by unfold sizeB; rw [if_pos known_right, hN]
  have hN9 : (bytesB (knownB.at 9)).length = N := by rw [bytes_len, ← hN, bytes_len]; rfl
  have hr9 : rightE (knownB.at 9) = 0 := right_at known_right (by decide) (by decide)
  have hw9 : (knownB.at 9).wf := at_wf known_wf (by decide)
  have HN := Lib.hid hN
  have HSZ := Lib.hid hsz
  have HN9 := Lib.hid hN9
  have HR9 := Lib.hid hr9
  have HW9 := Lib.hid hw9
  clear hN hsz hN9 hr9 hw9
  obtain ⟨W1, hW1⟩ : ∃ W1, W1 = ((w.alloc (.cells #[.string ⟨#[107]⟩, .string ⟨#[118]⟩] 58)).alloc (.cells #[.int .i64 7, .int .i64 (-1), .int .i64 (-1), .int .i64 (-1), .bool false, .int .i64 0, .slice (some ⟨w.heap.size, 0, none⟩) 1 1] 24)) := ⟨_, rfl⟩
  have HB1 : Hid (Below w.heap.size w W1) := by show Below _ _ _; rw [hW1]; exact ((Below.refl _ _).alloc (Nat.le_refl _) _).alloc (by simp) _
  have HRC1 : Hid (RecsAt W1 (some ⟨w.heap.size, 0, none⟩) 1 1 knownB.recs) := by
    show RecsAt _ _ _ _ _
    rw [hW1]
    exact (recsAt_lit w ⟨#[107]⟩ ⟨#[118]⟩).keep ((Below.refl _ _).alloc (Nat.le_refl _) _)
  have HV1 : Hid (BoxAt W1 (w.heap.size + 1) 7 (-1) (-1) (-1) false 0 (.slice (some ⟨w.heap.size, 0, none⟩) 1 1)) := by
    show BoxAt _ _ _ _ _ _ _ _ _
    rw [hW1]
    have := boxAt_new (w.alloc (.cells #[.string ⟨#[107]⟩, .string ⟨#[118]⟩] 58)) 7 (-1) (-1) (-1) false 0 (.slice (some ⟨w.heap.size, 0, none⟩) 1 1)
    simpa using this
  have HW1 := Lib.hid hW1
  clear hW1
  go_enter Try.func14, Try.ntmps14
  go_wp2_with fail
  rw [← HW1.out]
  refine (bytes_right W1 knownB _ 1 1 N HRC1.out known_right known_wf HN.out).mono ?_
  rintro e w2 ⟨g2, c2, rfl, HP2, HG2, hb2⟩
  have HBa := Lib.hid hb2.out
  have HB2 := Lib.hid (HB1.out.trans (hb2.out.mono HB1.out.size))
  clear hb2
  go_wp2_with fail
  refine (read_good w2 _ N c2 _ HP2.out.1 (by omega) knownB (by have := good_of known_right known_wf []; rw [List.append_nil] at this; exact this) 1 N rfl HN.out).mono ?_
  rintro e w3 ⟨ad3, cap3, rfl, hre3, _, hb3⟩
  obtain ⟨W3, hW3⟩ : ∃ W3, W3 = w3.alloc (.cells #[.int .i64 7, .int .i64 (-1), .int .i64 (-1), .int .i64 (-1), .bool false, .int .i64 0, .slice ad3 1 cap3] 24) := ⟨_, rfl⟩
  have hB23 : Below w2.heap.size w2 W3 := by rw [hW3]; exact hb3.out.alloc hb3.out.size _
  have HBb := Lib.hid (HBa.out.trans (hB23.mono HBa.out.size))
  have HB3 := Lib.hid (HB2.out.trans (hB23.mono HB2.out.size))
  have HP3 := Lib.hid (HP2.out.keep hB23 (Nat.le_refl _))
  have HRC3 : Hid (RecsAt W3 ad3 1 cap3 knownB.recs) := by show RecsAt _ _ _ _ _; rw [hW3]; exact hre3.out.keep ((Below.refl _ _).alloc (Nat.le_refl _) _)
  have HV3 : Hid (BoxAt W3 w3.heap.size 7 (-1) (-1) (-1) false 0 (.slice ad3 1 cap3)) := by show BoxAt _ _ _ _ _ _ _ _ _; rw [hW3]; exact boxAt_new w3 _ _ _ _ _ _ _
  have HW3 := Lib.hid hW3
  clear hre3 hb3 hB23 hW3
  obtain ⟨B3, hB3⟩ : ∃ B3, B3 = w3.heap.size := ⟨_, rfl⟩
  rw [← hB3] at HV3
  go_wp2_with fail
  simp only [knownB]
  rw [← HW3.out, ← hB3]
  clear hB3
  refine (batRead_any W3 none 0 0 [] (Byt.nil _) (by omega)).mono ?_
  have hrd : readD [] = ⟨Bat.zero, 0, 12⟩ := by unfold readD; rw [if_pos (by decide)]
  rw [hrd]
  rintro e w4 ⟨ad4, cap4, rfl, _, _, hb4⟩
  simp only [Bat.zero, List.length_nil]
  clear hrd
  obtain ⟨W4, hW4⟩ : ∃ W4, W4 = w4.alloc (.cells #[.int .i64 0, .int .i64 0, .int .i64 0, .int .i64 0, .bool false, .int .i64 0, .slice ad4 0 cap4] 24) := ⟨_, rfl⟩
  have hB34 : Below W3.heap.size W3 W4 := by rw [hW4]; exact hb4.alloc hb4.size _
  have HBc := Lib.hid (HBb.out.trans (hB34.mono HBb.out.size))
  have HB4 := Lib.hid (HB3.out.trans (hB34.mono HB3.out.size))
  have HP4 := Lib.hid (HP3.out.keep hB34 (Nat.le_refl _))
  have HRC4 := Lib.hid (HRC3.out.keep hB34)
  have HV4 := Lib.hid (HV3.out.on hB34)
  have HW4 := Lib.hid hW4
  clear hb4 hB34 hW4
  go_wp2_with fail
  rw [← HW4.out]
  refine (rebase_right W4 _ N c2 knownB HP4.out.1 known_right known_wf 9 (by decide) (by decide)).mono ?_
  rintro e w5 ⟨g5, c5, rfl, HQ5, hb5⟩
  have HBd := Lib.hid (HBc.out.trans (hb5.out.mono HBc.out.size))
  have HB5 := Lib.hid (HB4.out.trans (hb5.out.mono HB4.out.size))
  have HRC5 := Lib.hid (HRC4.out.keep hb5.out)
  have HV5 := Lib.hid (HV4.out.on hb5.out)
  clear hb5
  go_wp2_with fail
  refine (read_good w5 _ N c5 _ HQ5.out.1 (by omega) (knownB.at 9) (by have := good_of HR9.out HW9.out []; rw [List.append_nil] at this; exact this) 1 N rfl HN9.out).mono ?_
  rintro e w6 ⟨ad6, cap6, rfl, hre6, _, hb6⟩
  simp only [knownB, Bat.at]
  obtain ⟨W6, hW6⟩ : ∃ W6, W6 = w6.alloc (.cells #[.int .i64 9, .int .i64 (-1), .int .i64 (-1), .int .i64 (-1), .bool false, .int .i64 0, .slice ad6 1 cap6] 24) := ⟨_, rfl⟩
  have hB56 : Below w5.heap.size w5 W6 := by rw [hW6]; exact hb6.out.alloc hb6.out.size _
  have HBe := Lib.hid (HBd.out.trans (hB56.mono HBd.out.size))
  have HB6 := Lib.hid (HB5.out.trans (hB56.mono HB5.out.size))
  have HRC6 := Lib.hid (HRC5.out.keep hB56)
  have HV6 := Lib.hid (HV5.out.on hB56)
  have HY6 : Hid (BoxAt W6 w6.heap.size 9 (-1) (-1) (-1) false 0 (.slice ad6 1 cap6)) := by show BoxAt _ _ _ _ _ _ _ _ _; rw [hW6]; exact boxAt_new w6 _ _ _ _ _ _ _
  have HX6 := Lib.hid (HV1.out.on HBe.out)
  have HRB6 := Lib.hid (HRC1.out.keep HBe.out)
  have HW6 := Lib.hid hW6
  clear hre6 hb6 hB56 hW6
  obtain ⟨B6, hB6⟩ : ∃ B6, B6 = w6.heap.size := ⟨_, rfl⟩
  rw [← hB6] at HY6
  have CSZ : Hid (∀ W, Below W6.heap.size W6 W → Calls Try.prog 22 #[.agg #[.int .i64 7, .int .i64 (-1), .int .i64 (-1), .int .i64 (-1), .bool false, .int .i64 0, .slice (some ⟨w.heap.size, 0, none⟩) 1 1]] W (Says (N : Int) W)) := by
    intro W hW
    have := batSize_any W knownB _ 1 1 (HRB6.out.keep hW) (texts_of (ok_of known_right).texts) (by omega)
    rw [HSZ.out] at this
    exact this
  have CSM : Hid (∀ W, Below W6.heap.size W6 W → Calls Try.prog 16 #[.agg #[.int .i64 7, .int .i64 (-1), .int .i64 (-1), .int .i64 (-1), .bool false, .int .i64 0, .slice ad3 1 cap3], .agg #[.int .i64 7, .int .i64 (-1), .int .i64 (-1), .int .i64 (-1), .bool false, .int .i64 0, .slice (some ⟨w.heap.size, 0, none⟩) 1 1]] W (SaysB true W)) := by
    intro W hW
    exact batSame_any W knownB knownB _ _ 1 1 _ _ (HRC6.out.keep hW) (HRB6.out.keep hW) (by omega) true (by simp)
  go_upto_region 7 with fail
  rw [← HW6.out, ← hB6]
  clear hB6
  have p0 := HX6.out.c0
  have p1 := HX6.out.c1
  have p2 := HX6.out.c2
  have p3 := HX6.out.c3
  have p4 := HX6.out.c4
  have p5 := HX6.out.c5
  have p6 := HX6.out.c6
  go_wp2_with fail
  refine (CSZ.out W6 (Below.refl _ _)).mono ?_
  rintro e w7 ⟨rfl, hb7⟩
  have HBf := Lib.hid hb7
  have HX7 := Lib.hid (HX6.out.on hb7)
  have HV7 := Lib.hid (HV6.out.on hb7)
  clear hb7 p0 p1 p2 p3 p4 p5 p6
  have p0 := HX7.out.c0
  have p1 := HX7.out.c1
  have p2 := HX7.out.c2
  have p3 := HX7.out.c3
  have p4 := HX7.out.c4
  have p5 := HX7.out.c5
  have p6 := HX7.out.c6
  have v0 := HV7.out.c0
  have v1 := HV7.out.c1
  have v2 := HV7.out.c2
  have v3 := HV7.out.c3
  have v4 := HV7.out.c4
  have v5 := HV7.out.c5
  have v6 := HV7.out.c6
  go_wp2_with fail
  refine (CSM.out w7 HBf.out).mono ?_
  rintro e w8 ⟨rfl, hb8⟩
  have HBg := Lib.hid (HBf.out.trans (hb8.mono HBf.out.size))
  clear hb8 p0 p1 p2 p3 p4 p5 p6 v0 v1 v2 v3 v4 v5 v6
  have HY8 := Lib.hid (HY6.out.on HBg.out)
  have HX8 := Lib.hid (HX6.out.on HBg.out)
  have y0 := HY8.out.c0
  have p0 := HX8.out.c0
  have p1 := HX8.out.c1
  have p2 := HX8.out.c2
  have p3 := HX8.out.c3
  have p4 := HX8.out.c4
  have p5 := HX8.out.c5
  have p6 := HX8.out.c6
  go_wp2_with fail
  refine (batCount_any w8 _ _ _ _ _ _ _ 1 1 1 (by decide)).mono ?_
  rintro e w9 ⟨rfl, hb9⟩
  have HBh := Lib.hid (HBg.out.trans (hb9.mono HBg.out.size))
  clear hb9 y0 p0 p1 p2 p3 p4 p5 p6
  go_wp2_with fail
  refine (batCount_any w9 _ _ _ _ _ _ _ 0 0 1 (by decide)).mono ?_
  rintro e w10 ⟨rfl, hb10⟩
  have HBi := Lib.hid (HBh.out.trans (hb10.mono HBh.out.size))
  clear hb10
  go_wp2_with fail
  refine (batRight_any w10 Bat.zero none 0 0 (recsAt_nil _) (fun r hr => by cases hr) (by omega)).mono ?_
  have hz : rightE Bat.zero = 12 := e_data (by decide) (by decide) rfl (by rintro ⟨_, h⟩; exact h rfl)
  rw [hz]
  rintro e w11 ⟨rfl, hb11⟩
  have HBj := Lib.hid (HBi.out.trans (hb11.mono HBi.out.size))
  clear hb11 hz
  go_wp2
  go_ret
  exact ⟨rfl, HB6.out.trans (HBj.out.mono HB6.out.size)⟩
end Go.Proofs.Ytlpmfhccfihnfaa
