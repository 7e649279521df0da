/- The statements' own 'reads' of chapter 6: the code's reader and the document's give the same, and so do their Rebase. -/
import Derived.Test.YtlpmfhccfihnfaaBatLaw1
import Derived.Deep.RegionHeld3
namespace Go.Proofs.Ytlpmfhccfihnfaa
open Go.RowKit
open Go.SeqMath
open Go.BatMath hiding AllB getD_lt take_all
open Go.VarMath (longB length_longB)
set_option linter.unusedVariables false

/-- What a reader gives, field by field. -/
def ReadParts (w : World) (b0 b1 b2 b3 : Int) (b4 : Bool) (b5 : Int) (l : List Rc) (n k : Nat) (ev : Int) (e : Ending) (w' : World) : Prop :=
  ∃ ad cap, e = .returned (.tuple #[.agg #[.int .i64 b0, .int .i64 b1, .int .i64 b2, .int .i64 b3, .bool b4, .int .i64 b5, .slice ad n cap], .int .i64 (k : Int), .int .i64 ev]) ∧ Hid (RecsAt w' ad n cap l) ∧ Hid (Below w.heap.size w w')
theorem read_parts {w w' : World} {e : Ending} {b0 b1 b2 b3 : Int} {b4 : Bool} {b5 : Int} {l : List Rc} {n k : Nat} {ev : Int} (hn : l.length = n) (h : GivesRead w ⟨⟨b0, b1, b2, b3, b4, b5, l⟩, k, ev⟩ e w') : ReadParts w b0 b1 b2 b3 b4 b5 l n k ev e w' := by
  subst hn
  obtain ⟨ad, cap, rfl, h1, _, h3⟩ := h
  exact ⟨ad, cap, rfl, h1, h3⟩
theorem str_app (a b : List Nat) : str (a ++ b) = str a ++ str b := by
  apply ba_toList_inj
  rw [str_toList, ByteArray.toList_eq, ByteArray.data_append, Array.toList_append, List.map_append]
  simp [str]
theorem row_reads {w w' : World} {bs : List Nat} {e : Ending} {s : ByteArray} (hb : AllB bs) (hs : s = str bs) (h : GivesRow w bs e w') : ∃ v, e = .returned v ∧ Hid ((convert 34 9 v).run Try.prog w' = .ok (.string s) w') ∧ Below w.heap.size w w' := by
  obtain ⟨g, cap, rfl, ho, hbl⟩ := h
  exact ⟨_, rfl, run_str_at (owns_row ho hb).1 hs, hbl⟩
theorem str_size (a : List Nat) : (str a).size = a.length := by simp [str, ByteArray.size]
set_option maxRecDepth 100000 in
set_option maxHeartbeats 8000000 in
theorem lawReads_any (w : World) (ad : Option Addr) (len cap : Nat) (x : List Nat) (h : Byt w ad len cap x) (hL : len ≤ 140737488355300) (base : Int) (hq0 : -9223372036854775808 ≤ base) (hq1 : base ≤ 9223372036854775807) :
    Calls Try.prog 13 #[.slice ad len cap, .int .i64 base] w fun e w' => e = .returned (.bool true) ∧ Below w.heap.size w w' := by
  have hxl := h.length
  obtain ⟨⟨⟨b0, b1, b2, b3, b4, b5, l⟩, k, ev⟩, ho⟩ : ∃ o, o = readD x := ⟨_, rfl⟩
  obtain ⟨n, hn⟩ : ∃ n, l.length = n := ⟨_, rfl⟩
  have hn5 : n ≤ 140737488355328 := by
    have hr := reads_readD h.all
    rw [← ho] at hr
    rcases hr with ⟨hg, hf⟩
    by_cases he : ev = 0
    · have h16 : l.length ≤ 16 := (ok_of (hg he).1.right).recs
      omega
    · have : l = [] := congrArg Bat.recs (hf he).1
      rw [this] at hn
      simp at hn
      omega
  have CR : Hid (∀ W, Below w.heap.size w W → Calls Try.prog 20 #[.slice ad len cap] W (ReadParts W b0 b1 b2 b3 b4 b5 l n k ev)) := by
    intro W hW
    refine (batRead_any W ad len cap x (h.keep hW (Nat.le_refl _)) (by omega)).mono fun e w' hh => ?_
    rw [← ho] at hh
    exact read_parts hn hh
  have CD : Hid (∀ W, Below w.heap.size w W → Calls Try.prog 31 #[.slice ad len cap] W (ReadParts W b0 b1 b2 b3 b4 b5 l n k ev)) := by
    intro W hW
    refine (refRead_any W ad len cap x (h.keep hW (Nat.le_refl _)) (by omega)).mono fun e w' hh => ?_
    rw [← ho] at hh
    exact read_parts hn hh
  have hcan : canB x base = true ↔ (ev = 0 ∧ k = len ∧ 0 ≤ base ∧ base ≤ 1099511627776) := by
    unfold canB
    rw [← ho, decide_eq_true_iff, hxl]
  obtain ⟨can, hcn⟩ : ∃ c, c = canB x base := ⟨_, rfl⟩
  rw [← hcn] at hcan
  have CB : Hid (∀ W, Below w.heap.size w W → Calls Try.prog 19 #[.slice ad len cap, .int .i64 base] W (GivesRebase W x base can)) := by
    intro W hW
    rw [hcn]
    exact batRebase_any W ad len cap x base (h.keep hW (Nat.le_refl _)) hL hq0 hq1
  have h36 : can = true → 36 ≤ len := by
    intro hc
    have hr := reads_readD h.all
    rw [← ho] at hr
    have := good_len (hr.1 (hcan.1 hc).1).1
    omega
  have HC := Lib.hid hcan
  have HB := Lib.hid h
  have HN := Lib.hid hn
  clear h ho hcan hcn hn
  go_enter Try.func13, Try.ntmps13
  go_wp2_with fail
  refine (CR.out w (Below.refl _ _)).mono ?_
  rintro e w1 ⟨ad1, cap1, rfl, HR1, HB1⟩
  go_upto_region 2 with fail
  obtain ⟨W1, hW1⟩ : ∃ W1, W1 = w1.alloc (.cells #[.int .i64 b0, .int .i64 b1, .int .i64 b2, .int .i64 b3, .bool b4, .int .i64 b5, .slice ad1 n cap1] 24) := ⟨_, rfl⟩
  have hBa : Below w1.heap.size w1 W1 := by rw [hW1]; exact (Below.refl _ _).alloc (Nat.le_refl _) _
  have HBW1 := Lib.hid (HB1.out.trans (hBa.mono HB1.out.size))
  have HR1' := Lib.hid (HR1.out.keep hBa)
  have HX1 : Hid (BoxAt W1 w1.heap.size b0 b1 b2 b3 b4 b5 (.slice ad1 n cap1)) := by show BoxAt _ _ _ _ _ _ _ _ _; rw [hW1]; exact boxAt_new w1 _ _ _ _ _ _ _
  obtain ⟨K1, hK1⟩ : ∃ B, B = w1.heap.size := ⟨_, rfl⟩
  rw [← hK1] at HX1
  rw [← hW1, ← hK1]
  clear hW1 hBa hK1 HR1 HB1
  go_wp2_with fail
  refine (CD.out W1 HBW1.out).mono ?_
  rintro e w2 ⟨ad2, cap2, rfl, HR2, HB2⟩
  go_upto_region 3 with fail
  obtain ⟨W2, hW2⟩ : ∃ W2, W2 = w2.alloc (.cells #[.int .i64 b0, .int .i64 b1, .int .i64 b2, .int .i64 b3, .bool b4, .int .i64 b5, .slice ad2 n cap2] 24) := ⟨_, rfl⟩
  have hBb : Below w2.heap.size w2 W2 := by rw [hW2]; exact (Below.refl _ _).alloc (Nat.le_refl _) _
  have HBc := Lib.hid (HB2.out.trans (hBb.mono HB2.out.size))
  have HBW2 := Lib.hid (HBW1.out.trans (HBc.out.mono HBW1.out.size))
  have HR1b := Lib.hid (HR1'.out.keep HBc.out)
  have HX1b := Lib.hid (HX1.out.on HBc.out)
  have HR2' := Lib.hid (HR2.out.keep hBb)
  have HX2 : Hid (BoxAt W2 w2.heap.size b0 b1 b2 b3 b4 b5 (.slice ad2 n cap2)) := by show BoxAt _ _ _ _ _ _ _ _ _; rw [hW2]; exact boxAt_new w2 _ _ _ _ _ _ _
  obtain ⟨K2, hK2⟩ : ∃ B, B = w2.heap.size := ⟨_, rfl⟩
  rw [← hK2] at HX2
  rw [← hW2, ← hK2]
  clear hW2 hBb hK2 HR2 HB2 HBc HR1' HX1
  go_wp2_with fail
  refine (CB.out W2 HBW2.out).mono ?_
  rintro e w3 (⟨hc, g, c, rfl, hg, hb3⟩ | ⟨hc, rfl, hb3⟩)
  · have h36' := h36 hc
    obtain ⟨he0, hk, hp0, hp1⟩ := HC.out.1 hc
    rw [hxl] at hg ⊢
    obtain ⟨bk, off, had, hcl⟩ := HB.out.get (by omega)
    have HB3 := Lib.hid (HBW2.out.trans (hb3.mono HBW2.out.size))
    have HX1c := Lib.hid (HX1b.out.on hb3)
    have HX2c := Lib.hid (HX2.out.on hb3)
    have HR1c := Lib.hid (HR1b.out.keep hb3)
    have HR2c := Lib.hid (HR2'.out.keep hb3)
    have hb := HB.out
    rw [had] at hb
    obtain ⟨o8, c8, hs8, hp8⟩ := from_lit hb 8 8 rfl (by omega)
    have hall : AllB (longB base ++ x.drop 8) := all_append (VarMath.longB_all _) (drop_all HB.out.all 8)
    have HQ := Lib.hid (owns_row hg hall)
    have HP8 := Lib.hid (hp8.keep HB3.out (Nat.le_refl _))
    subst he0 hk had
    clear hcl hg hb hp8 hb3 hc
    obtain ⟨sQ, hsQ⟩ : ∃ s, s = str (longB base ++ x.drop 8) := ⟨_, rfl⟩
    obtain ⟨sL, hsL⟩ : ∃ s, s = str (longB base) := ⟨_, rfl⟩
    obtain ⟨sX, hsX⟩ : ∃ s, s = str (x.drop 8) := ⟨_, rfl⟩
    obtain ⟨vQ, hvQ⟩ : ∃ v : Value, v = .slice (some ⟨g, 0, none⟩) k c := ⟨_, rfl⟩
    obtain ⟨vX, hvX⟩ : ∃ v : Value, v = .slice (some ⟨bk, o8, none⟩) (k - 8) c8 := ⟨_, rfl⟩
    have hsum : sL.size + sX.size ≤ 9223372036854775807 := by
      have := length_longB base
      rw [hsL, hsX, str_size, str_size, List.length_drop]; omega
    have hEQ : sQ = sL ++ sX := by rw [hsQ, hsL, hsX, str_app]
    have HEQ : (sQ.toList == (sL ++ sX).toList) = true := by rw [hEQ]; exact ba_eq _
    have KS : Hid (∀ W, Below w3.heap.size w3 W → (convert 34 9 vQ).run Try.prog W = .ok (.string sQ) W ∧ (convert 34 9 vX).run Try.prog W = .ok (.string sX) W ∧ W.cell? ⟨K1, 0, none⟩ = some (.int .i64 b0) ∧ W.cell? ⟨K1, 1, none⟩ = some (.int .i64 b1) ∧ W.cell? ⟨K1, 2, none⟩ = some (.int .i64 b2) ∧ W.cell? ⟨K1, 3, none⟩ = some (.int .i64 b3) ∧ W.cell? ⟨K1, 4, none⟩ = some (.bool b4) ∧ W.cell? ⟨K1, 5, none⟩ = some (.int .i64 b5) ∧ W.cell? ⟨K1, 6, none⟩ = some (.slice ad1 n cap1) ∧ W.cell? ⟨K2, 0, none⟩ = some (.int .i64 b0) ∧ W.cell? ⟨K2, 1, none⟩ = some (.int .i64 b1) ∧ W.cell? ⟨K2, 2, none⟩ = some (.int .i64 b2) ∧ W.cell? ⟨K2, 3, none⟩ = some (.int .i64 b3) ∧ W.cell? ⟨K2, 4, none⟩ = some (.bool b4) ∧ W.cell? ⟨K2, 5, none⟩ = some (.int .i64 b5) ∧ W.cell? ⟨K2, 6, none⟩ = some (.slice ad2 n cap2)) := by
      intro W hW
      refine ⟨?_, ?_, ?_⟩
      · rw [hvQ, hsQ]; exact run_str (HQ.out.1.keep hW (Nat.le_refl _))
      · rw [hvX, hsX]; exact run_str (HP8.out.keep hW (Nat.le_refl _))
      · have hX := HX1c.out.on hW
        have hY := HX2c.out.on hW
        exact ⟨hX.c0, hX.c1, hX.c2, hX.c3, hX.c4, hX.c5, hX.c6, hY.c0, hY.c1, hY.c2, hY.c3, hY.c4, hY.c5, hY.c6⟩
    have CS : Hid (∀ W, Below w3.heap.size w3 W → Calls Try.prog 17 #[.agg #[.int .i64 b0, .int .i64 b1, .int .i64 b2, .int .i64 b3, .bool b4, .int .i64 b5, .slice ad1 n cap1], .agg #[.int .i64 b0, .int .i64 b1, .int .i64 b2, .int .i64 b3, .bool b4, .int .i64 b5, .slice ad2 n cap2]] W (SaysB true W)) := fun W hW =>
      refSame_any W ⟨b0, b1, b2, b3, b4, b5, l⟩ ⟨b0, b1, b2, b3, b4, b5, l⟩ _ _ n n _ _ (HR1c.out.keep hW) (HR2c.out.keep hW) hn5 true (by simp)
    have CL : Hid (∀ W, Calls Try.prog 32 #[.slice none 0 0, .int .i64 base] W fun e w' => ∃ v, e = .returned v ∧ Hid ((convert 34 9 v).run Try.prog w' = .ok (.string sL) w') ∧ Below W.heap.size W w') := fun W => by
      have := refLong_any W none 0 0 [] base ⟨Byt.nil W, fun _ => rfl⟩ (by omega) hq0 hq1
      rw [List.nil_append] at this
      exact this.mono fun e w' hh => row_reads (VarMath.longB_all _) hsL hh
    rw [← hvX] at hs8
    clear hsQ hsL hsX hvX hEQ HC HB HX1b HR1b HX2 HR2' HR1c HR2c HX1c HX2c HQ HP8
    go_upto_region 7 with fail
    rw [← hvQ]
    clear hvQ
    refine wp_region_noPanic ?_
    refine wp_region_held_drew (S := (fun W => Below w3.heap.size w3 W ∧ (convert 34 9 vQ).run Try.prog W = .ok (.string sQ) W ∧ (convert 34 9 vX).run Try.prog W = .ok (.string sX) W ∧ W.cell? ⟨K1, 0, none⟩ = some (.int .i64 b0) ∧ W.cell? ⟨K1, 1, none⟩ = some (.int .i64 b1) ∧ W.cell? ⟨K1, 2, none⟩ = some (.int .i64 b2) ∧ W.cell? ⟨K1, 3, none⟩ = some (.int .i64 b3) ∧ W.cell? ⟨K1, 4, none⟩ = some (.bool b4) ∧ W.cell? ⟨K1, 5, none⟩ = some (.int .i64 b5) ∧ W.cell? ⟨K1, 6, none⟩ = some (.slice ad1 n cap1) ∧ W.cell? ⟨K2, 0, none⟩ = some (.int .i64 b0) ∧ W.cell? ⟨K2, 1, none⟩ = some (.int .i64 b1) ∧ W.cell? ⟨K2, 2, none⟩ = some (.int .i64 b2) ∧ W.cell? ⟨K2, 3, none⟩ = some (.int .i64 b3) ∧ W.cell? ⟨K2, 4, none⟩ = some (.bool b4) ∧ W.cell? ⟨K2, 5, none⟩ = some (.int .i64 b5) ∧ W.cell? ⟨K2, 6, none⟩ = some (.slice ad2 n cap2))) (by kernel_rfl) ⟨(Below.refl _ w3).drew, KS.out _ ((Below.refl _ w3).drew)⟩ (fun hHeld => ?_)
    refine wpAnyH_take (i := 0) (oi := ⟨_, _, _, _, _, _⟩) (v := ?_) rfl (by kernel_rfl) (by kernel_rfl) (by kernel_rfl) (fun _ _ _ h => h) (Or.inl ⟨by rfl, ?_⟩) (by assumption) ?_
    rotate_left
    · intro W hSw
      (try dsimp only at hSw)
      go_simp
      (try with_reducible rfl)
    (try simp only [Act.put, List.setIfInBounds_toArray, List.set_cons_zero, List.set_cons_succ])
    refine wpAnyH_take (i := 1) (oi := ⟨_, _, _, _, _, _⟩) (v := ?_) rfl (by kernel_rfl) (by kernel_rfl) (by kernel_rfl) (fun _ _ _ h => h) (Or.inl ⟨by rfl, ?_⟩) (by assumption) ?_
    rotate_left
    · intro W hSw
      (try dsimp only at hSw)
      go_simp
      (try with_reducible rfl)
    (try simp only [Act.put, List.setIfInBounds_toArray, List.set_cons_zero, List.set_cons_succ])
    refine wpAnyH_take (i := 2) (oi := ⟨_, _, _, _, _, _⟩) (v := ?_) rfl (by kernel_rfl) (by kernel_rfl) (by kernel_rfl) (fun _ _ _ h => h) (Or.inl ⟨by rfl, ?_⟩) (by assumption) ?_
    rotate_left
    · intro W hSw
      (try dsimp only at hSw)
      go_simp
      (try with_reducible rfl)
    (try simp only [Act.put, List.setIfInBounds_toArray, List.set_cons_zero, List.set_cons_succ])
    refine wpAnyH_take (i := 3) (oi := ⟨_, _, _, _, _, _⟩) (v := ?_) rfl (by kernel_rfl) (by kernel_rfl) (by kernel_rfl) (fun _ _ _ h => h) (Or.inl ⟨by rfl, ?_⟩) (by assumption) ?_
    rotate_left
    · intro W hSw
      (try dsimp only at hSw)
      go_simp
      (try with_reducible rfl)
    (try simp only [Act.put, List.setIfInBounds_toArray, List.set_cons_zero, List.set_cons_succ])
    refine wpAnyH_take (i := 4) (oi := ⟨_, _, _, _, _, _⟩) (v := ?_) rfl (by kernel_rfl) (by kernel_rfl) (by kernel_rfl) (fun _ _ _ h => h) (Or.inl ⟨by rfl, ?_⟩) (by assumption) ?_
    rotate_left
    · intro W hSw
      (try dsimp only at hSw)
      go_simp
      (try with_reducible rfl)
    (try simp only [Act.put, List.setIfInBounds_toArray, List.set_cons_zero, List.set_cons_succ])
    refine wpAnyH_take (i := 5) (oi := ⟨_, _, _, _, _, _⟩) (v := ?_) rfl (by kernel_rfl) (by kernel_rfl) (by kernel_rfl) (fun _ _ _ h => h) (Or.inl ⟨by rfl, ?_⟩) (by assumption) ?_
    rotate_left
    · intro W hSw
      (try dsimp only at hSw)
      go_simp
      (try with_reducible rfl)
    (try simp only [Act.put, List.setIfInBounds_toArray, List.set_cons_zero, List.set_cons_succ])
    refine wpAnyH_take (i := 6) (oi := ⟨_, _, _, _, _, _⟩) (v := ?_) rfl (by kernel_rfl) (by kernel_rfl) (by kernel_rfl) (fun _ _ _ h => h) (Or.inl ⟨by rfl, ?_⟩) (by assumption) ?_
    rotate_left
    · intro W hSw
      (try dsimp only at hSw)
      go_simp
      (try with_reducible rfl)
    (try simp only [Act.put, List.setIfInBounds_toArray, List.set_cons_zero, List.set_cons_succ])
    refine wpAnyH_take (i := 7) (oi := ⟨_, _, _, _, _, _⟩) (v := ?_) rfl (by kernel_rfl) (by kernel_rfl) (by kernel_rfl) (fun _ _ _ h => h) (Or.inl ⟨by rfl, ?_⟩) (by assumption) ?_
    rotate_left
    · intro W hSw
      (try dsimp only at hSw)
      go_simp
      (try with_reducible rfl)
    (try simp only [Act.put, List.setIfInBounds_toArray, List.set_cons_zero, List.set_cons_succ])
    refine wpAnyH_take (i := 8) (oi := ⟨_, _, _, _, _, _⟩) (v := ?_) rfl (by kernel_rfl) (by kernel_rfl) (by kernel_rfl) (fun _ _ _ h => h) (Or.inl ⟨by rfl, ?_⟩) (by assumption) ?_
    rotate_left
    · intro W hSw
      (try dsimp only at hSw)
      go_simp
      (try with_reducible rfl)
    (try simp only [Act.put, List.setIfInBounds_toArray, List.set_cons_zero, List.set_cons_succ])
    refine wpAnyH_take (i := 9) (oi := ⟨_, _, _, _, _, _⟩) (v := ?_) rfl (by kernel_rfl) (by kernel_rfl) (by kernel_rfl) (fun _ _ _ h => h) (Or.inl ⟨by rfl, ?_⟩) (by assumption) ?_
    rotate_left
    · intro W hSw
      (try dsimp only at hSw)
      go_simp
      (try with_reducible rfl)
    (try simp only [Act.put, List.setIfInBounds_toArray, List.set_cons_zero, List.set_cons_succ])
    refine wpAnyH_take (i := 10) (oi := ⟨_, _, _, _, _, _⟩) (v := ?_) rfl (by kernel_rfl) (by kernel_rfl) (by kernel_rfl) (fun _ _ _ h => h) (Or.inl ⟨by rfl, ?_⟩) (by assumption) ?_
    rotate_left
    · intro W hSw
      (try dsimp only at hSw)
      go_simp
      (try with_reducible rfl)
    (try simp only [Act.put, List.setIfInBounds_toArray, List.set_cons_zero, List.set_cons_succ])
    refine wpAnyH_ready (rs := [11]) (by kernel_rfl) (by simp) ?_
    refine AllReadyH.cons (o := ⟨_, _, _, _, _, _⟩) rfl (fun K hK => ?_) AllReadyH.nil
    go_simp
    refine (CS.out _ (And.left hHeld)).mono ?_
    rintro e w4 ⟨rfl, hbb4⟩
    have hb4 := Lib.hid ((And.left hHeld).trans (hbb4.mono (And.left hHeld).size))
    clear hbb4
    go_wp2_with fail
    refine hK.out _ _ ?_ (fun hHeld => ?_)
    · exact ⟨hb4.out, KS.out _ hb4.out⟩
    clear hK K
    (try simp only [Act.put, List.setIfInBounds_toArray, List.set_cons_zero, List.set_cons_succ])
    refine wpAnyH_take (i := 12) (oi := ⟨_, _, _, _, _, _⟩) (v := ?_) rfl (by kernel_rfl) (by kernel_rfl) (by kernel_rfl) (fun _ _ _ h => h) (Or.inl ⟨by rfl, ?_⟩) (by assumption) ?_
    rotate_left
    · intro W hSw
      (try dsimp only at hSw)
      go_simp
      (try with_reducible rfl)
    (try simp only [Act.put, List.setIfInBounds_toArray, List.set_cons_zero, List.set_cons_succ])
    refine wpAnyH_take (i := 13) (oi := ⟨_, _, _, _, _, _⟩) (v := ?_) rfl (by kernel_rfl) (by kernel_rfl) (by kernel_rfl) (fun _ _ _ h => h) (Or.inl ⟨by rfl, ?_⟩) (by assumption) ?_
    rotate_left
    · intro W hSw
      (try dsimp only at hSw)
      go_simp
      (try with_reducible rfl)
    (try simp only [Act.put, List.setIfInBounds_toArray, List.set_cons_zero, List.set_cons_succ])
    refine wpAnyH_take (i := 14) (oi := ⟨_, _, _, _, _, _⟩) (v := ?_) rfl (by kernel_rfl) (by kernel_rfl) (by kernel_rfl) (fun _ _ _ h => h) (Or.inl ⟨by rfl, ?_⟩) (by assumption) ?_
    rotate_left
    · intro W hSw
      (try dsimp only at hSw)
      go_simp
      (try with_reducible rfl)
    (try simp only [Act.put, List.setIfInBounds_toArray, List.set_cons_zero, List.set_cons_succ])
    refine wpAnyH_take (i := 15) (oi := ⟨_, _, _, _, _, _⟩) (v := ?_) rfl (by kernel_rfl) (by kernel_rfl) (by kernel_rfl) (fun _ _ _ h => h) (Or.inl ⟨by rfl, ?_⟩) (by assumption) ?_
    rotate_left
    · intro W hSw
      (try dsimp only at hSw)
      go_simp
      (try with_reducible rfl)
    (try simp only [Act.put, List.setIfInBounds_toArray, List.set_cons_zero, List.set_cons_succ])
    refine wpAnyH_take (i := 16) (oi := ⟨_, _, _, _, _, _⟩) (v := ?_) rfl (by kernel_rfl) (by kernel_rfl) (by kernel_rfl) (fun _ _ _ h => h) (Or.inl ⟨by rfl, ?_⟩) (by assumption) ?_
    rotate_left
    · intro W hSw
      (try dsimp only at hSw)
      go_simp
      (try with_reducible rfl)
    (try simp only [Act.put, List.setIfInBounds_toArray, List.set_cons_zero, List.set_cons_succ])
    refine wpAnyH_take (i := 17) (oi := ⟨_, _, _, _, _, _⟩) (v := ?_) rfl (by kernel_rfl) (by kernel_rfl) (by kernel_rfl) (fun _ _ _ h => h) (Or.inl ⟨by rfl, ?_⟩) (by assumption) ?_
    rotate_left
    · intro W hSw
      (try dsimp only at hSw)
      go_simp
      (try with_reducible rfl)
    (try simp only [Act.put, List.setIfInBounds_toArray, List.set_cons_zero, List.set_cons_succ])
    refine wpAnyH_take (i := 18) (oi := ⟨_, _, _, _, _, _⟩) (v := ?_) rfl (by kernel_rfl) (by kernel_rfl) (by kernel_rfl) (fun _ _ _ h => h) (Or.inl ⟨by rfl, ?_⟩) (by assumption) ?_
    rotate_left
    · intro W hSw
      (try dsimp only at hSw)
      go_simp
      (try with_reducible rfl)
    (try simp only [Act.put, List.setIfInBounds_toArray, List.set_cons_zero, List.set_cons_succ])
    refine wpAnyH_take (i := 19) (oi := ⟨_, _, _, _, _, _⟩) (v := ?_) rfl (by kernel_rfl) (by kernel_rfl) (by kernel_rfl) (fun _ _ _ h => h) (Or.inl ⟨by rfl, ?_⟩) (by assumption) ?_
    rotate_left
    · intro W hSw
      (try dsimp only at hSw)
      go_simp
      (try with_reducible rfl)
    (try simp only [Act.put, List.setIfInBounds_toArray, List.set_cons_zero, List.set_cons_succ])
    refine wpAnyH_take (i := 22) (oi := ⟨_, _, _, _, _, _⟩) (v := ?_) rfl (by kernel_rfl) (by kernel_rfl) (by kernel_rfl) (fun _ _ _ h => h) (Or.inl ⟨by rfl, ?_⟩) (by assumption) ?_
    rotate_left
    · intro W hSw
      (try dsimp only at hSw)
      go_simp
      (try with_reducible rfl)
    (try simp only [Act.put, List.setIfInBounds_toArray, List.set_cons_zero, List.set_cons_succ])
    refine wpAnyH_take (i := 23) (oi := ⟨_, _, _, _, _, _⟩) (v := ?_) rfl (by kernel_rfl) (by kernel_rfl) (by kernel_rfl) (fun _ _ _ h => h) (Or.inl ⟨by rfl, ?_⟩) (by assumption) ?_
    rotate_left
    · intro W hSw
      (try dsimp only at hSw)
      go_simp
      (try with_reducible rfl)
    (try simp only [Act.put, List.setIfInBounds_toArray, List.set_cons_zero, List.set_cons_succ])
    refine wpAnyH_take (i := 24) (oi := ⟨_, _, _, _, _, _⟩) (v := ?_) rfl (by kernel_rfl) (by kernel_rfl) (by kernel_rfl) (fun _ _ _ h => h) (Or.inl ⟨by rfl, ?_⟩) (by assumption) ?_
    rotate_left
    · intro W hSw
      (try dsimp only at hSw)
      go_simp
      (try with_reducible rfl)
    (try simp only [Act.put, List.setIfInBounds_toArray, List.set_cons_zero, List.set_cons_succ])
    refine wpAnyH_ready (rs := [20]) (by kernel_rfl) (by simp) ?_
    refine AllReadyH.cons (o := ⟨_, _, _, _, _, _⟩) rfl (fun K hK => ?_) AllReadyH.nil
    go_simp
    refine (CL.out _).mono ?_
    rintro e w5 ⟨v5, rfl, HV5, hbb5⟩
    have hb5 := Lib.hid (hb4.out.trans (hbb5.mono hb4.out.size))
    clear hbb5
    go_wp2_with fail
    refine hK.out _ _ ?_ (fun hHeld => ?_)
    · exact ⟨hb5.out, KS.out _ hb5.out⟩
    clear hK K
    (try simp only [Act.put, List.setIfInBounds_toArray, List.set_cons_zero, List.set_cons_succ])
    refine wpAnyH_strengthen (S' := (fun W => (Below w3.heap.size w3 W ∧ (convert 34 9 vQ).run Try.prog W = .ok (.string sQ) W ∧ (convert 34 9 vX).run Try.prog W = .ok (.string sX) W ∧ W.cell? ⟨K1, 0, none⟩ = some (.int .i64 b0) ∧ W.cell? ⟨K1, 1, none⟩ = some (.int .i64 b1) ∧ W.cell? ⟨K1, 2, none⟩ = some (.int .i64 b2) ∧ W.cell? ⟨K1, 3, none⟩ = some (.int .i64 b3) ∧ W.cell? ⟨K1, 4, none⟩ = some (.bool b4) ∧ W.cell? ⟨K1, 5, none⟩ = some (.int .i64 b5) ∧ W.cell? ⟨K1, 6, none⟩ = some (.slice ad1 n cap1) ∧ W.cell? ⟨K2, 0, none⟩ = some (.int .i64 b0) ∧ W.cell? ⟨K2, 1, none⟩ = some (.int .i64 b1) ∧ W.cell? ⟨K2, 2, none⟩ = some (.int .i64 b2) ∧ W.cell? ⟨K2, 3, none⟩ = some (.int .i64 b3) ∧ W.cell? ⟨K2, 4, none⟩ = some (.bool b4) ∧ W.cell? ⟨K2, 5, none⟩ = some (.int .i64 b5) ∧ W.cell? ⟨K2, 6, none⟩ = some (.slice ad2 n cap2)) ∧ (convert 34 9 v5).run Try.prog W = .ok (.string sL) W)) (fun W h => h.1) _ _ _ _ ?_
    clear hHeld
    have hHeld : (fun W => (Below w3.heap.size w3 W ∧ (convert 34 9 vQ).run Try.prog W = .ok (.string sQ) W ∧ (convert 34 9 vX).run Try.prog W = .ok (.string sX) W ∧ W.cell? ⟨K1, 0, none⟩ = some (.int .i64 b0) ∧ W.cell? ⟨K1, 1, none⟩ = some (.int .i64 b1) ∧ W.cell? ⟨K1, 2, none⟩ = some (.int .i64 b2) ∧ W.cell? ⟨K1, 3, none⟩ = some (.int .i64 b3) ∧ W.cell? ⟨K1, 4, none⟩ = some (.bool b4) ∧ W.cell? ⟨K1, 5, none⟩ = some (.int .i64 b5) ∧ W.cell? ⟨K1, 6, none⟩ = some (.slice ad1 n cap1) ∧ W.cell? ⟨K2, 0, none⟩ = some (.int .i64 b0) ∧ W.cell? ⟨K2, 1, none⟩ = some (.int .i64 b1) ∧ W.cell? ⟨K2, 2, none⟩ = some (.int .i64 b2) ∧ W.cell? ⟨K2, 3, none⟩ = some (.int .i64 b3) ∧ W.cell? ⟨K2, 4, none⟩ = some (.bool b4) ∧ W.cell? ⟨K2, 5, none⟩ = some (.int .i64 b5) ∧ W.cell? ⟨K2, 6, none⟩ = some (.slice ad2 n cap2)) ∧ (convert 34 9 v5).run Try.prog W = .ok (.string sL) W) w5 := ⟨⟨hb5.out, KS.out _ hb5.out⟩, HV5.out⟩
    refine wpAnyH_take (i := 21) (oi := ⟨_, _, _, _, _, _⟩) (v := ?_) rfl (by kernel_rfl) (by kernel_rfl) (by kernel_rfl) (fun _ _ _ h => h) (Or.inl ⟨by rfl, ?_⟩) (by assumption) ?_
    rotate_left
    · intro W hSw
      (try dsimp only at hSw)
      go_simp
      (try with_reducible rfl)
    (try simp only [Act.put, List.setIfInBounds_toArray, List.set_cons_zero, List.set_cons_succ])
    refine wpAnyH_take (i := 25) (oi := ⟨_, _, _, _, _, _⟩) (v := ?_) rfl (by kernel_rfl) (by kernel_rfl) (by kernel_rfl) (fun _ _ _ h => h) (Or.inl ⟨by rfl, ?_⟩) (by assumption) ?_
    rotate_left
    · intro W hSw
      (try dsimp only at hSw)
      go_simp
      (try rw [if_neg (by omega)])
      (try with_reducible rfl)
    (try simp only [Act.put, List.setIfInBounds_toArray, List.set_cons_zero, List.set_cons_succ])
    refine wpAnyH_take (i := 26) (oi := ⟨_, _, _, _, _, _⟩) (v := ?_) rfl (by kernel_rfl) (by kernel_rfl) (by kernel_rfl) (fun _ _ _ h => h) (Or.inl ⟨by rfl, ?_⟩) (by assumption) ?_
    rotate_left
    · intro W hSw
      (try dsimp only at hSw)
      go_simp
      (try with_reducible rfl)
    (try simp only [Act.put, List.setIfInBounds_toArray, List.set_cons_zero, List.set_cons_succ])
    refine wpAnyH_take (i := 27) (oi := ⟨_, _, _, _, _, _⟩) (v := ?_) rfl (by kernel_rfl) (by kernel_rfl) (by kernel_rfl) (fun _ _ _ h => h) (Or.inl ⟨by rfl, ?_⟩) (by assumption) ?_
    rotate_left
    · intro W hSw
      (try dsimp only at hSw)
      go_simp
      (try with_reducible rfl)
    (try simp only [Act.put, List.setIfInBounds_toArray, List.set_cons_zero, List.set_cons_succ])
    refine wpAnyH_take (i := 28) (oi := ⟨_, _, _, _, _, _⟩) (v := ?_) rfl (by kernel_rfl) (by kernel_rfl) (by kernel_rfl) (fun _ _ _ h => h) (Or.inl ⟨by rfl, ?_⟩) (by assumption) ?_
    rotate_left
    · intro W hSw
      (try dsimp only at hSw)
      go_simp
      (try with_reducible rfl)
    (try simp only [Act.put, List.setIfInBounds_toArray, List.set_cons_zero, List.set_cons_succ])
    refine wpAnyH_done (by kernel_rfl) ?_ _
    refine NoPanic.normal ?_
    go_wp2
    go_ret
    exact ⟨rfl, HB3.out.trans (hb5.out.mono HB3.out.size)⟩
  · have hno : ¬ (ev = 0 ∧ k = len ∧ 0 ≤ base ∧ base ≤ 1099511627776) := fun hh => by rw [HC.out.2 hh] at hc; cases hc
    have HB3 := Lib.hid (HBW2.out.trans (hb3.mono HBW2.out.size))
    have HX1c := Lib.hid (HX1b.out.on hb3)
    have HX2c := Lib.hid (HX2.out.on hb3)
    have HR1c := Lib.hid (HR1b.out.keep hb3)
    have HR2c := Lib.hid (HR2'.out.keep hb3)
    have CS : Hid (∀ W, Below w3.heap.size w3 W → Calls Try.prog 17 #[.agg #[.int .i64 b0, .int .i64 b1, .int .i64 b2, .int .i64 b3, .bool b4, .int .i64 b5, .slice ad1 n cap1], .agg #[.int .i64 b0, .int .i64 b1, .int .i64 b2, .int .i64 b3, .bool b4, .int .i64 b5, .slice ad2 n cap2]] W (SaysB true W)) := fun W hW =>
      refSame_any W ⟨b0, b1, b2, b3, b4, b5, l⟩ ⟨b0, b1, b2, b3, b4, b5, l⟩ _ _ n n _ _ (HR1c.out.keep hW) (HR2c.out.keep hW) hn5 true (by simp)
    have HNO := Lib.hid hno
    clear hno hb3 hc
    cases h1 : decide (ev = 0)
    · have e0 := of_decide_eq_false h1
      go_upto_region 6 with fail
      have p0 := HX1c.out.c0
      have p1 := HX1c.out.c1
      have p2 := HX1c.out.c2
      have p3 := HX1c.out.c3
      have p4 := HX1c.out.c4
      have p5 := HX1c.out.c5
      have p6 := HX1c.out.c6
      have q0 := HX2c.out.c0
      have q1 := HX2c.out.c1
      have q2 := HX2c.out.c2
      have q3 := HX2c.out.c3
      have q4 := HX2c.out.c4
      have q5 := HX2c.out.c5
      have q6 := HX2c.out.c6
      go_wp2_with fail
      refine (CS.out w3 (Below.refl _ _)).mono ?_
      rintro e w4 ⟨rfl, hb4⟩
      go_wp2
      go_ret
      exact ⟨rfl, HB3.out.trans (hb4.mono HB3.out.size)⟩
    · have e1 : ev = 0 := of_decide_eq_true h1
      subst e1
      clear h1
      cases h1 : decide (k = len)
      · have e0 := of_decide_eq_false h1
        go_upto_region 6 with fail
        have p0 := HX1c.out.c0
        have p1 := HX1c.out.c1
        have p2 := HX1c.out.c2
        have p3 := HX1c.out.c3
        have p4 := HX1c.out.c4
        have p5 := HX1c.out.c5
        have p6 := HX1c.out.c6
        have q0 := HX2c.out.c0
        have q1 := HX2c.out.c1
        have q2 := HX2c.out.c2
        have q3 := HX2c.out.c3
        have q4 := HX2c.out.c4
        have q5 := HX2c.out.c5
        have q6 := HX2c.out.c6
        go_wp2_with fail
        refine (CS.out w3 (Below.refl _ _)).mono ?_
        rintro e w4 ⟨rfl, hb4⟩
        go_wp2
        go_ret
        exact ⟨rfl, HB3.out.trans (hb4.mono HB3.out.size)⟩
      · have e2 : k = len := of_decide_eq_true h1
        subst e2
        clear h1
        cases h1 : decide (0 ≤ base)
        · have e0 := of_decide_eq_false h1
          go_upto_region 6 with fail
          have p0 := HX1c.out.c0
          have p1 := HX1c.out.c1
          have p2 := HX1c.out.c2
          have p3 := HX1c.out.c3
          have p4 := HX1c.out.c4
          have p5 := HX1c.out.c5
          have p6 := HX1c.out.c6
          have q0 := HX2c.out.c0
          have q1 := HX2c.out.c1
          have q2 := HX2c.out.c2
          have q3 := HX2c.out.c3
          have q4 := HX2c.out.c4
          have q5 := HX2c.out.c5
          have q6 := HX2c.out.c6
          go_wp2_with fail
          refine (CS.out w3 (Below.refl _ _)).mono ?_
          rintro e w4 ⟨rfl, hb4⟩
          go_wp2
          go_ret
          exact ⟨rfl, HB3.out.trans (hb4.mono HB3.out.size)⟩
        · have e3 : 0 ≤ base := of_decide_eq_true h1
          have e4 : ¬ base ≤ 1099511627776 := fun hh => HNO.out ⟨rfl, rfl, e3, hh⟩
          clear h1
          have h1 : decide (base ≤ 1099511627776) = false := decide_eq_false e4
          go_upto_region 6 with fail
          have p0 := HX1c.out.c0
          have p1 := HX1c.out.c1
          have p2 := HX1c.out.c2
          have p3 := HX1c.out.c3
          have p4 := HX1c.out.c4
          have p5 := HX1c.out.c5
          have p6 := HX1c.out.c6
          have q0 := HX2c.out.c0
          have q1 := HX2c.out.c1
          have q2 := HX2c.out.c2
          have q3 := HX2c.out.c3
          have q4 := HX2c.out.c4
          have q5 := HX2c.out.c5
          have q6 := HX2c.out.c6
          go_wp2_with fail
          refine (CS.out w3 (Below.refl _ _)).mono ?_
          rintro e w4 ⟨rfl, hb4⟩
          go_wp2
          go_ret
          exact ⟨rfl, HB3.out.trans (hb4.mono HB3.out.size)⟩
end Go.Proofs.Ytlpmfhccfihnfaa
