/- The contract of 'puts': numbers and texts are written as the document says. -/
import Derived.Test.YtnahagcjieckeaaVarKnown
import Derived.Deep.RegionHeld3
namespace Go.Proofs.Ytnahagcjieckeaa
open Go.RowKit
open Go.VarMath hiding AllB
set_option linter.unusedVariables false

theorem in_zig {n : Int} (h0 : -9223372036854775808 ≤ n) (h1 : n ≤ 9223372036854775807) : AllB (encN n) := enc_all (zig_lt h0 h1)
theorem in_text {s : List Nat} (h : AllB s) (hl : s.length < 9223372036854775808) : AllB (textB s) := all_append (enc_all (by omega)) h
theorem gives_reads {W w' : World} {bs : List Nat} {e : Ending} {t : ByteArray} (h : GivesRow W bs e w') (ha : AllB bs) (ht : t = str bs) : ∃ v, e = .returned v ∧ Hid (Reads w' v t) ∧ Hid (Below W.heap.size W w') := by
  obtain ⟨g, cap, rfl, ho, hb⟩ := h
  exact ⟨_, rfl, by rw [ht]; exact Reads.of (owns_row ho ha).1, hb⟩
set_option maxHeartbeats 4000000 in
theorem puts_any (w : World) (ad : Option Addr) (len cap : Nat) (bs : List Nat) (n : Int) (s : ByteArray) (h : Row w ad len cap bs) (hL : len ≤ 140737488351232) (hs : s.size ≤ 4000) (h0 : -9223372036854775808 ≤ n) (h1 : n ≤ 9223372036854775807) :
    Calls Try.prog 9 #[.slice ad len cap, .int .i64 n, .string s] w fun e w' => e = .returned (.bool true) ∧ Below w.heap.size w w' := by
  have HR := Lib.hid h
  clear h
  obtain ⟨t1, ht1⟩ : ∃ t1, t1 = str (bs ++ encN n) := ⟨_, rfl⟩
  obtain ⟨t2, ht2⟩ : ∃ t2, t2 = str (bs ++ textB (bytesS s)) := ⟨_, rfl⟩
  obtain ⟨t3, ht3⟩ : ∃ t3, t3 = str (bs ++ longB n) := ⟨_, rfl⟩
  have a1 : AllB (bs ++ encN n) := all_append HR.out.all (in_zig h0 h1)
  have a2 : AllB (bs ++ textB (bytesS s)) := all_append HR.out.all (in_text (bytesS_all s) (by rw [length_bytesS]; omega))
  have a3 : AllB (bs ++ longB n) := all_append HR.out.all (longB_all n)
  have H14 : Hid (∀ W, Below w.heap.size w W → Calls Try.prog 14 #[.slice ad len cap, .int .i64 n] W fun e w' => ∃ v, e = .returned v ∧ Hid (Reads w' v t1) ∧ Hid (Below W.heap.size W w')) :=
    fun W hW => (put_any W ad len cap bs n (HR.out.keep hW (Nat.le_refl _)) (by omega) h0 h1).mono fun e w' hg => gives_reads hg a1 ht1
  have H8 : Hid (∀ W, Below w.heap.size w W → Calls Try.prog 8 #[.slice ad len cap, .int .i64 n] W fun e w' => ∃ v, e = .returned v ∧ Hid (Reads w' v t1) ∧ Hid (Below W.heap.size W w')) :=
    fun W hW => (refPut_any W ad len cap bs n (HR.out.keep hW (Nat.le_refl _)) (by omega) h0 h1).mono fun e w' hg => gives_reads hg a1 ht1
  have H17 : Hid (∀ W, Below w.heap.size w W → Calls Try.prog 17 #[.slice ad len cap, .string s] W fun e w' => ∃ v, e = .returned v ∧ Hid (Reads w' v t2) ∧ Hid (Below W.heap.size W w')) :=
    fun W hW => (text_any W ad len cap bs s (HR.out.keep hW (Nat.le_refl _)) (by omega)).mono fun e w' hg => gives_reads hg a2 ht2
  have H11 : Hid (∀ W, Below w.heap.size w W → Calls Try.prog 11 #[.slice ad len cap, .string s] W fun e w' => ∃ v, e = .returned v ∧ Hid (Reads w' v t2) ∧ Hid (Below W.heap.size W w')) :=
    fun W hW => (refText_any W ad len cap bs s (HR.out.keep hW (Nat.le_refl _)) (by omega)).mono fun e w' hg => gives_reads hg a2 ht2
  have H19 : Hid (∀ W, Below w.heap.size w W → Calls Try.prog 19 #[.slice ad len cap, .int .i64 n] W fun e w' => ∃ v, e = .returned v ∧ Hid (Reads w' v t3) ∧ Hid (Below W.heap.size W w')) :=
    fun W hW => (long_any W ad len cap bs n (HR.out.keep hW (Nat.le_refl _)) (by omega) h0 h1).mono fun e w' hg => gives_reads hg a3 ht3
  have H20 : Hid (∀ W, Below w.heap.size w W → Calls Try.prog 20 #[.slice ad len cap, .int .i64 n] W fun e w' => ∃ v, e = .returned v ∧ Hid (Reads w' v t3) ∧ Hid (Below W.heap.size W w')) :=
    fun W hW => (refLong_any W ad len cap bs n (HR.out.keep hW (Nat.le_refl _)) (by omega) h0 h1).mono fun e w' hg => gives_reads hg a3 ht3
  have HD : Hid (Below w.heap.size w w.drew) := (Below.refl _ _).drew
  clear ht1 ht2 ht3 a1 a2 a3
  go_enter Try.func9, Try.ntmps9
  go_wp2_with fail
  refine wp_region_noPanic ?_
  refine wp_region_held_drew (S := (fun _ => True)) (by kernel_rfl) trivial (fun hHeld => ?_)
  refine wpAnyH_take (i := 0) (oi := ⟨_, _, _, _, _, _⟩) (v := ?_) rfl (by kernel_rfl) (by kernel_rfl) (by kernel_rfl) (fun _ _ _ h => h) (Or.inl ⟨by rfl, ?_⟩) (by assumption) ?_
  rotate_left
  · intro W hSw
    (try dsimp only at hSw)
    go_simp
    (try with_reducible rfl)
  (try simp only [Act.put, List.setIfInBounds_toArray, List.set_cons_zero, List.set_cons_succ])
  refine wpAnyH_take (i := 1) (oi := ⟨_, _, _, _, _, _⟩) (v := ?_) rfl (by kernel_rfl) (by kernel_rfl) (by kernel_rfl) (fun _ _ _ h => h) (Or.inl ⟨by rfl, ?_⟩) (by assumption) ?_
  rotate_left
  · intro W hSw
    (try dsimp only at hSw)
    go_simp
    (try with_reducible rfl)
  (try simp only [Act.put, List.setIfInBounds_toArray, List.set_cons_zero, List.set_cons_succ])
  refine wpAnyH_take (i := 4) (oi := ⟨_, _, _, _, _, _⟩) (v := ?_) rfl (by kernel_rfl) (by kernel_rfl) (by kernel_rfl) (fun _ _ _ h => h) (Or.inl ⟨by rfl, ?_⟩) (by assumption) ?_
  rotate_left
  · intro W hSw
    (try dsimp only at hSw)
    go_simp
    (try with_reducible rfl)
  (try simp only [Act.put, List.setIfInBounds_toArray, List.set_cons_zero, List.set_cons_succ])
  refine wpAnyH_take (i := 5) (oi := ⟨_, _, _, _, _, _⟩) (v := ?_) rfl (by kernel_rfl) (by kernel_rfl) (by kernel_rfl) (fun _ _ _ h => h) (Or.inl ⟨by rfl, ?_⟩) (by assumption) ?_
  rotate_left
  · intro W hSw
    (try dsimp only at hSw)
    go_simp
    (try with_reducible rfl)
  (try simp only [Act.put, List.setIfInBounds_toArray, List.set_cons_zero, List.set_cons_succ])
  refine wpAnyH_ready (rs := [2]) (by kernel_rfl) (by simp) ?_
  refine AllReadyH.cons (o := ⟨_, _, _, _, _, _⟩) rfl (fun K hK => ?_) AllReadyH.nil
  go_simp
  refine (H14.out _ HD.out).mono ?_
  rintro e w1 ⟨v1, rfl, HR1, hb1⟩
  have HW1 : Hid (Below w.heap.size w w1) := HD.out.trans (hb1.out.mono HD.out.size)
  have hc1_1 := HR1.out.now
  go_wp2_with fail
  refine hK.out _ _ ?_ (fun hHeld => ?_)
  · exact trivial
  clear hK K
  (try simp only [Act.put, List.setIfInBounds_toArray, List.set_cons_zero, List.set_cons_succ])
  refine wpAnyH_strengthen (S' := (fun w' => (convert 23 9 v1).run Try.prog w' = .ok (.string t1) w')) (fun W h => trivial) _ _ _ _ ?_
  clear hHeld
  have hHeld : (fun w' => (convert 23 9 v1).run Try.prog w' = .ok (.string t1) w') w1 := hc1_1
  refine wpAnyH_take (i := 3) (oi := ⟨_, _, _, _, _, _⟩) (v := ?_) rfl (by kernel_rfl) (by kernel_rfl) (by kernel_rfl) (fun _ _ _ h => h) (Or.inl ⟨by rfl, ?_⟩) (by assumption) ?_
  rotate_left
  · intro W hSw
    (try dsimp only at hSw)
    go_simp
    (try with_reducible rfl)
  (try simp only [Act.put, List.setIfInBounds_toArray, List.set_cons_zero, List.set_cons_succ])
  refine wpAnyH_ready (rs := [6]) (by kernel_rfl) (by simp) ?_
  refine AllReadyH.cons (o := ⟨_, _, _, _, _, _⟩) rfl (fun K hK => ?_) AllReadyH.nil
  go_simp
  refine (H8.out _ HW1.out).mono ?_
  rintro e w2 ⟨v2, rfl, HR2, hb2⟩
  have HW2 : Hid (Below w.heap.size w w2) := HW1.out.trans (hb2.out.mono HW1.out.size)
  have hc2_2 := HR2.out.now
  have HB1_2 := hb2
  have hc1_2 := HR1.out w2 HB1_2.out
  go_wp2_with fail
  refine hK.out _ _ ?_ (fun hHeld => ?_)
  · exact hc1_2
  clear hK K
  (try simp only [Act.put, List.setIfInBounds_toArray, List.set_cons_zero, List.set_cons_succ])
  refine wpAnyH_strengthen (S' := (fun w' => (convert 23 9 v1).run Try.prog w' = .ok (.string t1) w' ∧ (convert 23 9 v2).run Try.prog w' = .ok (.string t1) w')) (fun W h => h.1) _ _ _ _ ?_
  clear hHeld
  have hHeld : (fun w' => (convert 23 9 v1).run Try.prog w' = .ok (.string t1) w' ∧ (convert 23 9 v2).run Try.prog w' = .ok (.string t1) w') w2 := ⟨hc1_2, hc2_2⟩
  refine wpAnyH_take (i := 7) (oi := ⟨_, _, _, _, _, _⟩) (v := ?_) rfl (by kernel_rfl) (by kernel_rfl) (by kernel_rfl) (fun _ _ _ h => h) (Or.inl ⟨by rfl, ?_⟩) (by assumption) ?_
  rotate_left
  · intro W hSw
    (try dsimp only at hSw)
    go_simp
    (try with_reducible rfl)
  (try simp only [Act.put, List.setIfInBounds_toArray, List.set_cons_zero, List.set_cons_succ])
  refine wpAnyH_take (i := 8) (oi := ⟨_, _, _, _, _, _⟩) (v := ?_) rfl (by kernel_rfl) (by kernel_rfl) (by kernel_rfl) (fun _ _ _ h => h) (Or.inl ⟨by rfl, ?_⟩) (by assumption) ?_
  rotate_left
  · intro W hSw
    (try dsimp only at hSw)
    go_simp
    (try with_reducible rfl)
  (try simp only [Act.put, List.setIfInBounds_toArray, List.set_cons_zero, List.set_cons_succ])
  refine wpAnyH_take (i := 9) (oi := ⟨_, _, _, _, _, _⟩) (v := ?_) rfl (by kernel_rfl) (by kernel_rfl) (by kernel_rfl) (fun _ _ _ h => h) (Or.inl ⟨by rfl, ?_⟩) (by assumption) ?_
  rotate_left
  · intro W hSw
    (try dsimp only at hSw)
    go_simp
    (try with_reducible rfl)
  (try simp only [Act.put, List.setIfInBounds_toArray, List.set_cons_zero, List.set_cons_succ])
  refine wpAnyH_take (i := 10) (oi := ⟨_, _, _, _, _, _⟩) (v := ?_) rfl (by kernel_rfl) (by kernel_rfl) (by kernel_rfl) (fun _ _ _ h => h) (Or.inl ⟨by rfl, ?_⟩) (by assumption) ?_
  rotate_left
  · intro W hSw
    (try dsimp only at hSw)
    go_simp
    (try with_reducible rfl)
  (try simp only [Act.put, List.setIfInBounds_toArray, List.set_cons_zero, List.set_cons_succ])
  refine wpAnyH_take (i := 11) (oi := ⟨_, _, _, _, _, _⟩) (v := ?_) rfl (by kernel_rfl) (by kernel_rfl) (by kernel_rfl) (fun _ _ _ h => h) (Or.inl ⟨by rfl, ?_⟩) (by assumption) ?_
  rotate_left
  · intro W hSw
    (try dsimp only at hSw)
    go_simp
    (try with_reducible rfl)
  (try simp only [Act.put, List.setIfInBounds_toArray, List.set_cons_zero, List.set_cons_succ])
  refine wpAnyH_take (i := 14) (oi := ⟨_, _, _, _, _, _⟩) (v := ?_) rfl (by kernel_rfl) (by kernel_rfl) (by kernel_rfl) (fun _ _ _ h => h) (Or.inl ⟨by rfl, ?_⟩) (by assumption) ?_
  rotate_left
  · intro W hSw
    (try dsimp only at hSw)
    go_simp
    (try with_reducible rfl)
  (try simp only [Act.put, List.setIfInBounds_toArray, List.set_cons_zero, List.set_cons_succ])
  refine wpAnyH_take (i := 15) (oi := ⟨_, _, _, _, _, _⟩) (v := ?_) rfl (by kernel_rfl) (by kernel_rfl) (by kernel_rfl) (fun _ _ _ h => h) (Or.inl ⟨by rfl, ?_⟩) (by assumption) ?_
  rotate_left
  · intro W hSw
    (try dsimp only at hSw)
    go_simp
    (try with_reducible rfl)
  (try simp only [Act.put, List.setIfInBounds_toArray, List.set_cons_zero, List.set_cons_succ])
  refine wpAnyH_ready (rs := [12]) (by kernel_rfl) (by simp) ?_
  refine AllReadyH.cons (o := ⟨_, _, _, _, _, _⟩) rfl (fun K hK => ?_) AllReadyH.nil
  go_simp
  refine (H17.out _ HW2.out).mono ?_
  rintro e w3 ⟨v3, rfl, HR3, hb3⟩
  have HW3 : Hid (Below w.heap.size w w3) := HW2.out.trans (hb3.out.mono HW2.out.size)
  have hc3_3 := HR3.out.now
  have HB1_3 : Hid (Below w1.heap.size w1 w3) := HB1_2.out.trans (hb3.out.mono HB1_2.out.size)
  have hc1_3 := HR1.out w3 HB1_3.out
  have HB2_3 := hb3
  have hc2_3 := HR2.out w3 HB2_3.out
  go_wp2_with fail
  refine hK.out _ _ ?_ (fun hHeld => ?_)
  · exact ⟨hc1_3, hc2_3⟩
  clear hK K
  (try simp only [Act.put, List.setIfInBounds_toArray, List.set_cons_zero, List.set_cons_succ])
  refine wpAnyH_strengthen (S' := (fun w' => (convert 23 9 v1).run Try.prog w' = .ok (.string t1) w' ∧ (convert 23 9 v2).run Try.prog w' = .ok (.string t1) w' ∧ (convert 23 9 v3).run Try.prog w' = .ok (.string t2) w')) (fun W h => ⟨h.1, h.2.1⟩) _ _ _ _ ?_
  clear hHeld
  have hHeld : (fun w' => (convert 23 9 v1).run Try.prog w' = .ok (.string t1) w' ∧ (convert 23 9 v2).run Try.prog w' = .ok (.string t1) w' ∧ (convert 23 9 v3).run Try.prog w' = .ok (.string t2) w') w3 := ⟨hc1_3, hc2_3, hc3_3⟩
  refine wpAnyH_take (i := 13) (oi := ⟨_, _, _, _, _, _⟩) (v := ?_) rfl (by kernel_rfl) (by kernel_rfl) (by kernel_rfl) (fun _ _ _ h => h) (Or.inl ⟨by rfl, ?_⟩) (by assumption) ?_
  rotate_left
  · intro W hSw
    (try dsimp only at hSw)
    go_simp
    (try with_reducible rfl)
  (try simp only [Act.put, List.setIfInBounds_toArray, List.set_cons_zero, List.set_cons_succ])
  refine wpAnyH_ready (rs := [16]) (by kernel_rfl) (by simp) ?_
  refine AllReadyH.cons (o := ⟨_, _, _, _, _, _⟩) rfl (fun K hK => ?_) AllReadyH.nil
  go_simp
  refine (H11.out _ HW3.out).mono ?_
  rintro e w4 ⟨v4, rfl, HR4, hb4⟩
  have HW4 : Hid (Below w.heap.size w w4) := HW3.out.trans (hb4.out.mono HW3.out.size)
  have hc4_4 := HR4.out.now
  have HB1_4 : Hid (Below w1.heap.size w1 w4) := HB1_3.out.trans (hb4.out.mono HB1_3.out.size)
  have hc1_4 := HR1.out w4 HB1_4.out
  have HB2_4 : Hid (Below w2.heap.size w2 w4) := HB2_3.out.trans (hb4.out.mono HB2_3.out.size)
  have hc2_4 := HR2.out w4 HB2_4.out
  have HB3_4 := hb4
  have hc3_4 := HR3.out w4 HB3_4.out
  go_wp2_with fail
  refine hK.out _ _ ?_ (fun hHeld => ?_)
  · exact ⟨hc1_4, hc2_4, hc3_4⟩
  clear hK K
  (try simp only [Act.put, List.setIfInBounds_toArray, List.set_cons_zero, List.set_cons_succ])
  refine wpAnyH_strengthen (S' := (fun w' => (convert 23 9 v1).run Try.prog w' = .ok (.string t1) w' ∧ (convert 23 9 v2).run Try.prog w' = .ok (.string t1) w' ∧ (convert 23 9 v3).run Try.prog w' = .ok (.string t2) w' ∧ (convert 23 9 v4).run Try.prog w' = .ok (.string t2) w')) (fun W h => ⟨h.1, h.2.1, h.2.2.1⟩) _ _ _ _ ?_
  clear hHeld
  have hHeld : (fun w' => (convert 23 9 v1).run Try.prog w' = .ok (.string t1) w' ∧ (convert 23 9 v2).run Try.prog w' = .ok (.string t1) w' ∧ (convert 23 9 v3).run Try.prog w' = .ok (.string t2) w' ∧ (convert 23 9 v4).run Try.prog w' = .ok (.string t2) w') w4 := ⟨hc1_4, hc2_4, hc3_4, hc4_4⟩
  refine wpAnyH_take (i := 17) (oi := ⟨_, _, _, _, _, _⟩) (v := ?_) rfl (by kernel_rfl) (by kernel_rfl) (by kernel_rfl) (fun _ _ _ h => h) (Or.inl ⟨by rfl, ?_⟩) (by assumption) ?_
  rotate_left
  · intro W hSw
    (try dsimp only at hSw)
    go_simp
    (try with_reducible rfl)
  (try simp only [Act.put, List.setIfInBounds_toArray, List.set_cons_zero, List.set_cons_succ])
  refine wpAnyH_take (i := 18) (oi := ⟨_, _, _, _, _, _⟩) (v := ?_) rfl (by kernel_rfl) (by kernel_rfl) (by kernel_rfl) (fun _ _ _ h => h) (Or.inl ⟨by rfl, ?_⟩) (by assumption) ?_
  rotate_left
  · intro W hSw
    (try dsimp only at hSw)
    go_simp
    (try with_reducible rfl)
  (try simp only [Act.put, List.setIfInBounds_toArray, List.set_cons_zero, List.set_cons_succ])
  refine wpAnyH_take (i := 19) (oi := ⟨_, _, _, _, _, _⟩) (v := ?_) rfl (by kernel_rfl) (by kernel_rfl) (by kernel_rfl) (fun _ _ _ h => h) (Or.inl ⟨by rfl, ?_⟩) (by assumption) ?_
  rotate_left
  · intro W hSw
    (try dsimp only at hSw)
    go_simp
    (try with_reducible rfl)
  (try simp only [Act.put, List.setIfInBounds_toArray, List.set_cons_zero, List.set_cons_succ])
  refine wpAnyH_take (i := 20) (oi := ⟨_, _, _, _, _, _⟩) (v := ?_) rfl (by kernel_rfl) (by kernel_rfl) (by kernel_rfl) (fun _ _ _ h => h) (Or.inl ⟨by rfl, ?_⟩) (by assumption) ?_
  rotate_left
  · intro W hSw
    (try dsimp only at hSw)
    go_simp
    (try with_reducible rfl)
  (try simp only [Act.put, List.setIfInBounds_toArray, List.set_cons_zero, List.set_cons_succ])
  refine wpAnyH_take (i := 21) (oi := ⟨_, _, _, _, _, _⟩) (v := ?_) rfl (by kernel_rfl) (by kernel_rfl) (by kernel_rfl) (fun _ _ _ h => h) (Or.inl ⟨by rfl, ?_⟩) (by assumption) ?_
  rotate_left
  · intro W hSw
    (try dsimp only at hSw)
    go_simp
    (try with_reducible rfl)
  (try simp only [Act.put, List.setIfInBounds_toArray, List.set_cons_zero, List.set_cons_succ])
  refine wpAnyH_take (i := 22) (oi := ⟨_, _, _, _, _, _⟩) (v := ?_) rfl (by kernel_rfl) (by kernel_rfl) (by kernel_rfl) (fun _ _ _ h => h) (Or.inl ⟨by rfl, ?_⟩) (by assumption) ?_
  rotate_left
  · intro W hSw
    (try dsimp only at hSw)
    go_simp
    (try with_reducible rfl)
  (try simp only [Act.put, List.setIfInBounds_toArray, List.set_cons_zero, List.set_cons_succ])
  refine wpAnyH_take (i := 25) (oi := ⟨_, _, _, _, _, _⟩) (v := ?_) rfl (by kernel_rfl) (by kernel_rfl) (by kernel_rfl) (fun _ _ _ h => h) (Or.inl ⟨by rfl, ?_⟩) (by assumption) ?_
  rotate_left
  · intro W hSw
    (try dsimp only at hSw)
    go_simp
    (try with_reducible rfl)
  (try simp only [Act.put, List.setIfInBounds_toArray, List.set_cons_zero, List.set_cons_succ])
  refine wpAnyH_take (i := 26) (oi := ⟨_, _, _, _, _, _⟩) (v := ?_) rfl (by kernel_rfl) (by kernel_rfl) (by kernel_rfl) (fun _ _ _ h => h) (Or.inl ⟨by rfl, ?_⟩) (by assumption) ?_
  rotate_left
  · intro W hSw
    (try dsimp only at hSw)
    go_simp
    (try with_reducible rfl)
  (try simp only [Act.put, List.setIfInBounds_toArray, List.set_cons_zero, List.set_cons_succ])
  refine wpAnyH_ready (rs := [23]) (by kernel_rfl) (by simp) ?_
  refine AllReadyH.cons (o := ⟨_, _, _, _, _, _⟩) rfl (fun K hK => ?_) AllReadyH.nil
  go_simp
  refine (H19.out _ HW4.out).mono ?_
  rintro e w5 ⟨v5, rfl, HR5, hb5⟩
  have HW5 : Hid (Below w.heap.size w w5) := HW4.out.trans (hb5.out.mono HW4.out.size)
  have hc5_5 := HR5.out.now
  have HB1_5 : Hid (Below w1.heap.size w1 w5) := HB1_4.out.trans (hb5.out.mono HB1_4.out.size)
  have hc1_5 := HR1.out w5 HB1_5.out
  have HB2_5 : Hid (Below w2.heap.size w2 w5) := HB2_4.out.trans (hb5.out.mono HB2_4.out.size)
  have hc2_5 := HR2.out w5 HB2_5.out
  have HB3_5 : Hid (Below w3.heap.size w3 w5) := HB3_4.out.trans (hb5.out.mono HB3_4.out.size)
  have hc3_5 := HR3.out w5 HB3_5.out
  have HB4_5 := hb5
  have hc4_5 := HR4.out w5 HB4_5.out
  go_wp2_with fail
  refine hK.out _ _ ?_ (fun hHeld => ?_)
  · exact ⟨hc1_5, hc2_5, hc3_5, hc4_5⟩
  clear hK K
  (try simp only [Act.put, List.setIfInBounds_toArray, List.set_cons_zero, List.set_cons_succ])
  refine wpAnyH_strengthen (S' := (fun w' => (convert 23 9 v1).run Try.prog w' = .ok (.string t1) w' ∧ (convert 23 9 v2).run Try.prog w' = .ok (.string t1) w' ∧ (convert 23 9 v3).run Try.prog w' = .ok (.string t2) w' ∧ (convert 23 9 v4).run Try.prog w' = .ok (.string t2) w' ∧ (convert 23 9 v5).run Try.prog w' = .ok (.string t3) w')) (fun W h => ⟨h.1, h.2.1, h.2.2.1, h.2.2.2.1⟩) _ _ _ _ ?_
  clear hHeld
  have hHeld : (fun w' => (convert 23 9 v1).run Try.prog w' = .ok (.string t1) w' ∧ (convert 23 9 v2).run Try.prog w' = .ok (.string t1) w' ∧ (convert 23 9 v3).run Try.prog w' = .ok (.string t2) w' ∧ (convert 23 9 v4).run Try.prog w' = .ok (.string t2) w' ∧ (convert 23 9 v5).run Try.prog w' = .ok (.string t3) w') w5 := ⟨hc1_5, hc2_5, hc3_5, hc4_5, hc5_5⟩
  refine wpAnyH_take (i := 24) (oi := ⟨_, _, _, _, _, _⟩) (v := ?_) rfl (by kernel_rfl) (by kernel_rfl) (by kernel_rfl) (fun _ _ _ h => h) (Or.inl ⟨by rfl, ?_⟩) (by assumption) ?_
  rotate_left
  · intro W hSw
    (try dsimp only at hSw)
    go_simp
    (try with_reducible rfl)
  (try simp only [Act.put, List.setIfInBounds_toArray, List.set_cons_zero, List.set_cons_succ])
  refine wpAnyH_ready (rs := [27]) (by kernel_rfl) (by simp) ?_
  refine AllReadyH.cons (o := ⟨_, _, _, _, _, _⟩) rfl (fun K hK => ?_) AllReadyH.nil
  go_simp
  refine (H20.out _ HW5.out).mono ?_
  rintro e w6 ⟨v6, rfl, HR6, hb6⟩
  have HW6 : Hid (Below w.heap.size w w6) := HW5.out.trans (hb6.out.mono HW5.out.size)
  have hc6_6 := HR6.out.now
  have HB1_6 : Hid (Below w1.heap.size w1 w6) := HB1_5.out.trans (hb6.out.mono HB1_5.out.size)
  have hc1_6 := HR1.out w6 HB1_6.out
  have HB2_6 : Hid (Below w2.heap.size w2 w6) := HB2_5.out.trans (hb6.out.mono HB2_5.out.size)
  have hc2_6 := HR2.out w6 HB2_6.out
  have HB3_6 : Hid (Below w3.heap.size w3 w6) := HB3_5.out.trans (hb6.out.mono HB3_5.out.size)
  have hc3_6 := HR3.out w6 HB3_6.out
  have HB4_6 : Hid (Below w4.heap.size w4 w6) := HB4_5.out.trans (hb6.out.mono HB4_5.out.size)
  have hc4_6 := HR4.out w6 HB4_6.out
  have HB5_6 := hb6
  have hc5_6 := HR5.out w6 HB5_6.out
  go_wp2_with fail
  refine hK.out _ _ ?_ (fun hHeld => ?_)
  · exact ⟨hc1_6, hc2_6, hc3_6, hc4_6, hc5_6⟩
  clear hK K
  (try simp only [Act.put, List.setIfInBounds_toArray, List.set_cons_zero, List.set_cons_succ])
  refine wpAnyH_strengthen (S' := (fun w' => (convert 23 9 v1).run Try.prog w' = .ok (.string t1) w' ∧ (convert 23 9 v2).run Try.prog w' = .ok (.string t1) w' ∧ (convert 23 9 v3).run Try.prog w' = .ok (.string t2) w' ∧ (convert 23 9 v4).run Try.prog w' = .ok (.string t2) w' ∧ (convert 23 9 v5).run Try.prog w' = .ok (.string t3) w' ∧ (convert 23 9 v6).run Try.prog w' = .ok (.string t3) w')) (fun W h => ⟨h.1, h.2.1, h.2.2.1, h.2.2.2.1, h.2.2.2.2.1⟩) _ _ _ _ ?_
  clear hHeld
  have hHeld : (fun w' => (convert 23 9 v1).run Try.prog w' = .ok (.string t1) w' ∧ (convert 23 9 v2).run Try.prog w' = .ok (.string t1) w' ∧ (convert 23 9 v3).run Try.prog w' = .ok (.string t2) w' ∧ (convert 23 9 v4).run Try.prog w' = .ok (.string t2) w' ∧ (convert 23 9 v5).run Try.prog w' = .ok (.string t3) w' ∧ (convert 23 9 v6).run Try.prog w' = .ok (.string t3) w') w6 := ⟨hc1_6, hc2_6, hc3_6, hc4_6, hc5_6, hc6_6⟩
  refine wpAnyH_take (i := 28) (oi := ⟨_, _, _, _, _, _⟩) (v := ?_) rfl (by kernel_rfl) (by kernel_rfl) (by kernel_rfl) (fun _ _ _ h => h) (Or.inl ⟨by rfl, ?_⟩) (by assumption) ?_
  rotate_left
  · intro W hSw
    (try dsimp only at hSw)
    go_simp
    (try with_reducible rfl)
  (try simp only [Act.put, List.setIfInBounds_toArray, List.set_cons_zero, List.set_cons_succ])
  refine wpAnyH_take (i := 29) (oi := ⟨_, _, _, _, _, _⟩) (v := ?_) rfl (by kernel_rfl) (by kernel_rfl) (by kernel_rfl) (fun _ _ _ h => h) (Or.inl ⟨by rfl, ?_⟩) (by assumption) ?_
  rotate_left
  · intro W hSw
    (try dsimp only at hSw)
    go_simp
    (try with_reducible rfl)
  (try simp only [Act.put, List.setIfInBounds_toArray, List.set_cons_zero, List.set_cons_succ])
  refine wpAnyH_take (i := 30) (oi := ⟨_, _, _, _, _, _⟩) (v := ?_) rfl (by kernel_rfl) (by kernel_rfl) (by kernel_rfl) (fun _ _ _ h => h) (Or.inl ⟨by rfl, ?_⟩) (by assumption) ?_
  rotate_left
  · intro W hSw
    (try dsimp only at hSw)
    go_simp
    (try with_reducible rfl)
  (try simp only [Act.put, List.setIfInBounds_toArray, List.set_cons_zero, List.set_cons_succ])
  refine wpAnyH_take (i := 31) (oi := ⟨_, _, _, _, _, _⟩) (v := ?_) rfl (by kernel_rfl) (by kernel_rfl) (by kernel_rfl) (fun _ _ _ h => h) (Or.inl ⟨by rfl, ?_⟩) (by assumption) ?_
  rotate_left
  · intro W hSw
    (try dsimp only at hSw)
    go_simp
    (try with_reducible rfl)
  (try simp only [Act.put, List.setIfInBounds_toArray, List.set_cons_zero, List.set_cons_succ])
  refine wpAnyH_done (by kernel_rfl) ?_ _
  refine NoPanic.normal ?_
  go_wp2
  go_ret
  exact ⟨rfl, HW6.out⟩
end Go.Proofs.Ytnahagcjieckeaa
