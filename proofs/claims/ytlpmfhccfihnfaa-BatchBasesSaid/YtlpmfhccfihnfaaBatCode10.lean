/- The code's own batch, chapter 6: opened: the batch of a row that is as long as it says. -/
import Derived.Test.YtlpmfhccfihnfaaBatCode9
import Derived.Test.YtlpmfhccfihnfaaBatCode4
import Derived.Test.YtlpmfhccfihnfaaCrcSeal
import Derived.Deep.RegionHeld3
namespace Go.Proofs.Ytlpmfhccfihnfaa
open Go.RowKit
open Go.SeqMath
open Go.BatMath hiding AllB getD_lt take_all
open Go.VarMath (backB)
open Go.CrcMath (okB)
set_option linter.unusedVariables false

theorem check_any (w : World) (ad : Option Addr) (len cap : Nat) (bs : List Nat) (h : Byt w ad len cap bs) (hL : len ≤ 140737488355328) :
    Calls Try.prog 58 #[.slice ad len cap] w fun e w' => (okB bs = false → e = .returned (.tuple #[.slice none 0 0, .bool false]) ∧ Below w.heap.size w w') ∧
      (okB bs = true → ∃ g m, 4 + m = len ∧ e = .returned (.tuple #[.slice (some ⟨g, 0, none⟩) m m, .bool true]) ∧ w.heap.size ≤ g ∧ Own w' g (bs.drop 4) ∧ Below w.heap.size w w') := by
  by_cases h4 : len < 4
  · refine (check_short w ad len cap bs h h4).mono ?_
    rintro e w' ⟨rfl, n, rfl⟩
    exact ⟨fun _ => ⟨rfl, below_drewN (Below.refl _ _) n⟩, fun hk => by rw [CrcMath.okB_short (by rw [h.length]; exact h4)] at hk; cases hk⟩
  · refine (check_long w ad len cap bs h (by omega) hL).mono ?_
    rintro e w' ⟨h1, h2⟩
    refine ⟨h1, fun hk => ?_⟩
    obtain ⟨g, rfl, a, b, c⟩ := h2 hk
    exact ⟨g, len - 4, by omega, rfl, a, b, c⟩
theorem gives_fields_parts {w w' : World} {x : List Nat} {e : Ending} (h : GivesFields w x e w') :
    ∃ p ep s t m, Hid (∀ n l, fieldsC x n l = ⟨n, p, ep, s, t, m, l⟩) ∧ e = .returned (.agg #[.int .i64 0, .int .i64 p, .int .i64 ep, .int .i64 s, .bool t, .int .i64 m, .slice none 0 0]) ∧ Hid (Below w.heap.size w w') := by
  obtain ⟨b, rfl, rfl, hb⟩ := h
  exact ⟨_, _, _, _, _, fun n l => rfl, rfl, hb⟩
theorem gives_records_parts {w w' : World} {n : Nat} {x : List Nat} {e : Ending} (h : GivesRecords w n x e w') :
    ∃ ad k cap l ok, e = .returned (.tuple #[.slice ad k cap, .bool ok]) ∧ Hid (RecsAt w' ad k cap l) ∧ Hid (∀ a, ad = some a → w.heap.size ≤ a.block) ∧ Hid (Below w.heap.size w w') ∧ Hid (ok = true → recsC n x = some (l, [])) ∧ Hid (ok = false → ∀ l, recsC n x ≠ some (l, [])) := by
  rcases h with ⟨l, ad, cap, h1, rfl, h2, h3, h4⟩ | ⟨h1, rfl, h2⟩
  · exact ⟨ad, _, cap, l, true, rfl, h2, h3, h4, fun _ => h1, fun h => by cases h⟩
  · exact ⟨none, 0, 0, [], false, rfl, recsAt_nil _, fun a h => (by cases h), h2, fun h => (by cases h), fun _ => h1⟩
theorem resultsOpened {tmps : Array Value} {B : Nat} {W : World} {b0 b1 b2 b3 : Int} {b4 : Bool} {b5 : Int} {v : Value} (h : BoxAt W B b0 b1 b2 b3 b4 b5 v) (ht : tmps.getD 2 undef = .pointer (some ⟨B, 0, none⟩)) :
    (results Try.f40 tmps).run Try.prog W = .ok (.tuple #[.agg #[.int .i64 b0, .int .i64 b1, .int .i64 b2, .int .i64 b3, .bool b4, .int .i64 b5, v], tmps.getD 3 undef]) W := by
  rw [results_cell_tmp (p := 2) (u := 3) (ty := 24) Try.results40, ht]
  have hl := run_loadVar_row (P := Try.prog) W B 24 24 _ (0, 0) _ h Try.underlying24 rfl (by kernel_rfl)
  simp only [asAddr, Sem.run_pure, Result.andThen, hl]
/-- What opened gives. -/
def GivesOpened (w : World) (p : List Nat) (e : Ending) (w' : World) : Prop :=
  (∃ (b : Bat) (ad : Option Addr) (cap : Nat), Opens p (some b) ∧ e = .returned (.tuple #[.agg #[.int .i64 b.base, .int .i64 b.prod, .int .i64 b.epoch, .int .i64 b.seq, .bool b.txn, .int .i64 b.marker, .slice ad b.recs.length cap], .bool true]) ∧
    RecsAt w' ad b.recs.length cap b.recs ∧ (∀ a, ad = some a → w.heap.size ≤ a.block) ∧ Below w.heap.size w w') ∨
  (Opens p none ∧ e = .returned (.tuple #[.agg #[.int .i64 0, .int .i64 0, .int .i64 0, .int .i64 0, .bool false, .int .i64 0, .slice none 0 0], .bool false]) ∧ Below w.heap.size w w')
theorem gives_unopened {w w' : World} {p : List Nat} (h : Opens p none) (hb : Below w.heap.size w w') : GivesOpened w p (.returned (.tuple #[.agg #[.int .i64 0, .int .i64 0, .int .i64 0, .int .i64 0, .bool false, .int .i64 0, .slice none 0 0], .bool false])) w' := .inr ⟨h, rfl, hb⟩
theorem gives_opened {w w' : World} {p : List Nat} {b : Bat} {ad : Option Addr} {n cap : Nat} (h : Opens p (some b)) (hn : b.recs.length = n) (hr : RecsAt w' ad n cap b.recs) (hk : ∀ a, ad = some a → w.heap.size ≤ a.block) (hb : Below w.heap.size w w') :
    GivesOpened w p (.returned (.tuple #[.agg #[.int .i64 b.base, .int .i64 b.prod, .int .i64 b.epoch, .int .i64 b.seq, .bool b.txn, .int .i64 b.marker, .slice ad n cap], .bool true])) w' := by
  subst hn; exact .inl ⟨b, ad, cap, h, rfl, hr, hk, hb⟩
set_option maxRecDepth 100000 in
set_option maxHeartbeats 4000000 in
theorem opened_any (w : World) (bx ox len cap : Nat) (p : List Nat) (h : Byt w (some ⟨bx, ox, none⟩) len cap p) (h12 : 12 ≤ len) (hL : len ≤ 4096) :
    Calls Try.prog 40 #[.slice (some ⟨bx, ox, none⟩) len cap] w (GivesOpened w p) := by
  obtain ⟨o12, k12, hs12, hB12⟩ := from_lit h 12 12 rfl h12
  obtain ⟨q, hq⟩ : ∃ q, q = p.drop 12 := ⟨_, rfl⟩
  obtain ⟨x, hx⟩ : ∃ x, x = q.drop 4 := ⟨_, rfl⟩
  obtain ⟨bs, hbs⟩ : ∃ s, s = (backB p).1 := ⟨_, rfl⟩
  obtain ⟨bo, hbo⟩ : ∃ s, s = (backB p).2 := ⟨_, rfl⟩
  have CK : Hid (∀ W, Below w.heap.size w W → Calls Try.prog 58 #[.slice (some ⟨bx, o12, none⟩) (len - 12) k12] W fun e w' => (okB q = false → e = .returned (.tuple #[.slice none 0 0, .bool false]) ∧ Below W.heap.size W w') ∧
      (okB q = true → ∃ g m, 4 + m = len - 12 ∧ e = .returned (.tuple #[.slice (some ⟨g, 0, none⟩) m m, .bool true]) ∧ W.heap.size ≤ g ∧ Own w' g x ∧ Below W.heap.size W w')) := by
    intro W hW
    rw [hx, hq]
    exact check_any W _ _ _ _ (hB12.keep hW (Nat.le_refl _)) (by omega)
  have CB : Hid (∀ W, Below w.heap.size w W → Calls Try.prog 60 #[.slice (some ⟨bx, ox, none⟩) len cap] W fun e w' => e = .returned (.tuple #[.int .i64 bs, .bool bo]) ∧ W = w') := by
    intro W hW
    have := back_any W _ _ _ _ (h.keep hW (Nat.le_refl _)) (by omega)
    unfold GivesBack at this
    rw [← hbs, ← hbo] at this
    exact this
  have hxl : 4 + x.length = len - 12 ∨ len - 12 < 4 := by
    rw [hx, hq, List.length_drop, List.length_drop, h.length]; omega
  have hxa : AllB x := by rw [hx, hq]; exact drop_all (drop_all h.all 12) 4
  have ON1 : Hid (okB q = false → Opens p none) := by
    intro hk
    unfold Opens
    rw [← hq]
    exact ⟨fun b hb => (by cases hb), fun _ l h1 => by rw [hk] at h1; cases h1⟩
  have ON2 : Hid (¬ 20 ≤ x.length → Opens p none) := by
    intro hk
    unfold Opens
    rw [← hq, ← hx]
    exact ⟨fun b hb => (by cases hb), fun _ l _ h1 => absurd h1 hk⟩
  have ON3 : Hid ((∀ l, recsC (x.getD 19 0) (x.drop 20) ≠ some (l, [])) → Opens p none) := by
    intro hk
    unfold Opens
    rw [← hq, ← hx]
    exact ⟨fun b hb => (by cases hb), fun _ l _ _ h1 => absurd h1 (hk l)⟩
  have ON4 : Hid (∀ l, recsC (x.getD 19 0) (x.drop 20) = some (l, []) → rightE (fieldsC x bs l) ≠ 0 → Opens p none) := by
    intro l hk hne
    unfold Opens
    rw [← hq, ← hx, ← hbs]
    refine ⟨fun b hb => (by cases hb), fun _ l' _ _ h1 => ?_⟩
    rw [hk] at h1
    have e : l = l' := congrArg Prod.fst (Option.some.inj h1)
    rw [← e]
    exact hne
  have OS : Hid (∀ l, okB q = true → 20 ≤ x.length → recsC (x.getD 19 0) (x.drop 20) = some (l, []) → rightE (fieldsC x bs l) = 0 → Opens p (some (fieldsC x bs l))) := by
    intro l hk h20 hrc h0
    unfold Opens
    rw [← hq, ← hx, ← hbs]
    refine ⟨fun b hb => ?_, fun hb => (by cases hb)⟩
    obtain rfl := Option.some.inj hb
    exact ⟨hk, h20, hrc, rfl, h0⟩
  obtain ⟨W0, hW0⟩ : ∃ W0, W0 = (w.alloc (.cells #[.int .i64 0, .int .i64 0, .int .i64 0, .int .i64 0, .bool false, .int .i64 0, .slice none 0 0] 24)) := ⟨_, rfl⟩
  have HX0 := Lib.hid (show BoxAt W0 w.heap.size 0 0 0 0 false 0 (.slice none 0 0) by rw [hW0]; exact boxAt_new w _ _ _ _ _ _ _)
  have HB0 := Lib.hid (show Below w.heap.size w W0 by rw [hW0]; exact (Below.refl _ _).alloc (Nat.le_refl _) _)
  have HW0 := Lib.hid hW0
  clear h hB12 hq hx hbs hbo hW0
  go_enter Try.func40, Try.ntmps40
  go_wp2_with fail
  rw [← HW0.out]
  refine (CK.out _ HB0.out).mono ?_
  rintro e w1 ⟨hF, hT⟩
  cases hok : okB q
  · obtain ⟨rfl, hb⟩ := hF hok
    have HX1 := Lib.hid (HX0.out.on hb)
    have HB1 := Lib.hid (HB0.out.trans (hb.mono HB0.out.size))
    have HON := Lib.hid (ON1.out hok)
    clear hb hF hT hok
    have r0 := HX1.out.c0
    have q0 := HX1.out.free 0
    have r1 := HX1.out.c1
    have q1 := HX1.out.free 1
    have r2 := HX1.out.c2
    have q2 := HX1.out.free 2
    have r3 := HX1.out.c3
    have q3 := HX1.out.free 3
    have r4 := HX1.out.c4
    have q4 := HX1.out.free 4
    have r5 := HX1.out.c5
    have q5 := HX1.out.free 5
    have r6 := HX1.out.c6
    have q6 := HX1.out.free 6
    go_wp2
    exact bodyPost_ret (resultsOpened (((((((HX1.out.s0 0).s1 0).s2 0).s3 0).s4 false).s5 0).s6 (.slice none 0 0)) rfl) rfl (gives_unopened HON.out (((((((HB1.out.setCell (Nat.le_refl _) _).setCell (Nat.le_refl _) _).setCell (Nat.le_refl _) _).setCell (Nat.le_refl _) _).setCell (Nat.le_refl _) _).setCell (Nat.le_refl _) _).setCell (Nat.le_refl _) _))
  · obtain ⟨g, m, hm, rfl, hg, ho, hb⟩ := hT hok
    have HX1 := Lib.hid (HX0.out.on hb)
    have HB1 := Lib.hid (HB0.out.trans (hb.mono HB0.out.size))
    have hR := HX0.out.lt
    have hml : x.length = m := by omega
    have HML := Lib.hid hml
    have HOK := Lib.hid hok
    have HOW := Lib.hid ho
    have hy1 := ho.byt hxa m (by rw [hml]; exact Nat.le_refl _)
    rw [hml] at hy1
    have HY1 := Lib.hid hy1
    clear hb hF hT hok ho hml hy1 hxl
    by_cases h20 : m < 20
    · have HON := Lib.hid (ON2.out (by rw [HML.out]; omega))
      have r0 := HX1.out.c0
      have q0 := HX1.out.free 0
      have r1 := HX1.out.c1
      have q1 := HX1.out.free 1
      have r2 := HX1.out.c2
      have q2 := HX1.out.free 2
      have r3 := HX1.out.c3
      have q3 := HX1.out.free 3
      have r4 := HX1.out.c4
      have q4 := HX1.out.free 4
      have r5 := HX1.out.c5
      have q5 := HX1.out.free 5
      have r6 := HX1.out.c6
      have q6 := HX1.out.free 6
      go_wp2
      exact bodyPost_ret (resultsOpened (((((((HX1.out.s0 0).s1 0).s2 0).s3 0).s4 false).s5 0).s6 (.slice none 0 0)) rfl) rfl (gives_unopened HON.out (((((((HB1.out.setCell (Nat.le_refl _) _).setCell (Nat.le_refl _) _).setCell (Nat.le_refl _) _).setCell (Nat.le_refl _) _).setCell (Nat.le_refl _) _).setCell (Nat.le_refl _) _).setCell (Nat.le_refl _) _))
    · have h20' : 20 ≤ m := by omega
      go_wp2_with fail
      refine (fields_any w1 _ m m x HY1.out h20' (by omega)).mono ?_
      rintro e w2 hg2
      obtain ⟨fp, fe, fs, ft, fm, HFD, rfl, hb2⟩ := gives_fields_parts hg2
      clear hg2
      obtain ⟨W3, hW3⟩ : ∃ W3, W3 = (w2.alloc (.cells #[.int .i64 0, .int .i64 fp, .int .i64 fe, .int .i64 fs, .bool ft, .int .i64 fm, .slice none 0 0] 24)) := ⟨_, rfl⟩
      have hBd : Below w1.heap.size w1 W3 := by rw [hW3]; exact hb2.out.alloc hb2.out.size _
      have HV3 := Lib.hid (show BoxAt W3 w2.heap.size 0 fp fe fs ft fm (.slice none 0 0) by rw [hW3]; exact boxAt_new w2 _ _ _ _ _ _ _)
      have HX3 := Lib.hid (HX1.out.on hBd)
      have HB3 := Lib.hid (HB1.out.trans (hBd.mono HB1.out.size))
      have HO3 := Lib.hid (HOW.out.keep hBd HOW.out.lt)
      have hgB : g < w2.heap.size := Nat.lt_of_lt_of_le HOW.out.lt hb2.out.size
      have hRB : w.heap.size < w2.heap.size := by omega
      have HW3 := Lib.hid hW3
      clear hBd hb2 hW3
      have p0 := HV3.out.c0
      have f0 := HV3.out.free 0
      go_wp2_with fail
      rw [← HW3.out]
      refine (CB.out _ HB3.out).mono ?_
      rintro e w' ⟨rfl, rfl⟩
      go_upto_region 6 with fail
      obtain ⟨B, hB⟩ : ∃ B, B = w2.heap.size := ⟨_, rfl⟩
      rw [← hB] at HV3 hgB hRB p0 f0 ⊢
      obtain ⟨W4, hW4⟩ : ∃ W4, W4 = W3.setCell ⟨B, 0, none⟩ (.int .i64 bs) := ⟨_, rfl⟩
      have HV4 := Lib.hid (show BoxAt W4 B bs fp fe fs ft fm (.slice none 0 0) by rw [hW4]; exact HV3.out.s0 bs)
      have HX4 := Lib.hid (show BoxAt W4 w.heap.size 0 0 0 0 false 0 (.slice none 0 0) by rw [hW4]; exact HX3.out.off (by omega) _)
      have HB4 := Lib.hid (show Below w.heap.size w W4 by rw [hW4]; exact HB3.out.setCell (by show w.heap.size ≤ B; omega) _)
      have HO4 := Lib.hid (show Own W4 g x by rw [hW4]; exact box_off HO3.out (by omega) _)
      rw [← hW4]
      clear p0 f0 hB hW4 hs12
      have hy4 := HO4.out.byt hxa m (by rw [HML.out]; exact Nat.le_refl _)
      rw [HML.out] at hy4
      obtain ⟨o20, k20, hs20, hB20⟩ := from_lit hy4 20 20 rfl h20'
      obtain ⟨n, hn⟩ : ∃ n, n = x.getD 19 0 := ⟨_, rfl⟩
      have hn255 : n < 256 := by rw [hn]; exact getD_all hxa 19
      have hc19 := HO4.out.cell 19 (by rw [HML.out]; omega)
      rw [← hn] at hc19 ON3 ON4 OS
      have CR : Hid (∀ W, Below W4.heap.size W4 W → Calls Try.prog 61 #[.slice (some ⟨g, o20, none⟩) (m - 20) k20, .int .i64 (n : Int)] W (GivesRecords W n (x.drop 20))) := by
        intro W hW
        exact records_any W g o20 (m - 20) k20 n _ (hB20.keep hW (Nat.le_refl _)) (by omega) (by omega)
      have hB4l := HV4.out.lt
      have hi19 : (19 : Int) < (m : Int) := by omega
      have hwn : IntKind.i64.wrap (n : Int) = (n : Int) := by rw [IntKind.wrap_i64]; omega
      clear hn hy4 hB20
      refine wp_region_noPanic ?_
      refine wp_region_held_drew (S := (fun W => W.cell? ⟨g, 19, none⟩ = some (.int .u8 (n : Int)))) (by kernel_rfl) (by simpa using hc19) (fun hHeld => ?_)
      refine wpAnyH_take (i := 0) (oi := ⟨_, _, _, _, _, _⟩) (v := ?_) rfl (by kernel_rfl) (by kernel_rfl) (by kernel_rfl) (fun _ _ _ h => h) (Or.inl ⟨by rfl, ?_⟩) (by assumption) ?_
      rotate_left
      · intro W hSw
        (try dsimp only at hSw)
        go_simp
        (try with_reducible rfl)
      (try simp only [Act.put, List.setIfInBounds_toArray, List.set_cons_zero, List.set_cons_succ])
      refine wpAnyH_take (i := 1) (oi := ⟨_, _, _, _, _, _⟩) (v := ?_) rfl (by kernel_rfl) (by kernel_rfl) (by kernel_rfl) (fun _ _ _ h => h) (Or.inl ⟨by rfl, ?_⟩) (by assumption) ?_
      rotate_left
      · intro W hSw
        (try dsimp only at hSw)
        go_simp
        (try with_reducible rfl)
      (try simp only [Act.put, List.setIfInBounds_toArray, List.set_cons_zero, List.set_cons_succ])
      refine wpAnyH_take (i := 2) (oi := ⟨_, _, _, _, _, _⟩) (v := ?_) rfl (by kernel_rfl) (by kernel_rfl) (by kernel_rfl) (fun _ _ _ h => h) (Or.inl ⟨by rfl, ?_⟩) (by assumption) ?_
      rotate_left
      · intro W hSw
        (try dsimp only at hSw)
        go_simp
        (try with_reducible rfl)
      (try simp only [Act.put, List.setIfInBounds_toArray, List.set_cons_zero, List.set_cons_succ])
      refine wpAnyH_take (i := 3) (oi := ⟨_, _, _, _, _, _⟩) (v := ?_) rfl (by kernel_rfl) (by kernel_rfl) (by kernel_rfl) (fun _ _ _ h => h) (Or.inl ⟨by rfl, ?_⟩) (by assumption) ?_
      rotate_left
      · intro W hSw
        (try dsimp only at hSw)
        go_simp
        (try with_reducible rfl)
      (try simp only [Act.put, List.setIfInBounds_toArray, List.set_cons_zero, List.set_cons_succ])
      refine wpAnyH_take (i := 4) (oi := ⟨_, _, _, _, _, _⟩) (v := ?_) rfl (by kernel_rfl) (by kernel_rfl) (by kernel_rfl) (fun _ _ _ h => h) (Or.inl ⟨by rfl, ?_⟩) (by assumption) ?_
      rotate_left
      · intro W hSw
        (try dsimp only at hSw)
        go_simp
        (try with_reducible rfl)
      (try simp only [Act.put, List.setIfInBounds_toArray, List.set_cons_zero, List.set_cons_succ])
      refine wpAnyH_take (i := 5) (oi := ⟨_, _, _, _, _, _⟩) (v := ?_) rfl (by kernel_rfl) (by kernel_rfl) (by kernel_rfl) (fun _ _ _ h => h) (Or.inl ⟨by rfl, ?_⟩) (by assumption) ?_
      rotate_left
      · intro W hSw
        (try dsimp only at hSw)
        go_simp
        (try with_reducible rfl)
      (try simp only [Act.put, List.setIfInBounds_toArray, List.set_cons_zero, List.set_cons_succ])
      refine wpAnyH_ready (rs := [6]) (by kernel_rfl) (by simp) ?_
      refine AllReadyH.cons (o := ⟨_, _, _, _, _, _⟩) rfl (fun K hK => ?_) AllReadyH.nil
      go_simp
      refine (CR.out _ ((Below.refl _ W4).drew)).mono ?_
      rintro e w5 hg5
      obtain ⟨ad5, n5, cap5, l5, ok5, rfl, HREC, HBLK, hb5, HYOK, HNOK⟩ := gives_records_parts hg5
      clear hg5
      have hb5' : Below W4.heap.size W4 w5 := ((Below.refl _ W4).drew).trans (hb5.out.mono (Nat.le_refl _))
      have HV5 := Lib.hid (HV4.out.on hb5')
      have HX5 := Lib.hid (HX4.out.on hb5')
      have HB5 := Lib.hid (HB4.out.trans (hb5'.mono HB4.out.size))
      have hcell5 : w5.cell? ⟨g, 19, none⟩ = some (.int .u8 (n : Int)) := (hb5'.cell (p := ⟨g, 19, none⟩) (by show g < W4.heap.size; omega)).trans hc19
      have p6 := HV5.out.c6
      have f6 := HV5.out.free 6
      have hcell6 : (w5.setCell ⟨B, 6, none⟩ (.slice ad5 n5 cap5)).cell? ⟨g, 19, none⟩ = some (.int .u8 (n : Int)) := by
        rw [← hcell5]
        exact World.cell?_of_block (a := ⟨g, 19, none⟩) (by
          show (w5.heap.modify B _)[g]? = _
          rw [Array.getElem?_modify, if_neg (by omega)])
      clear hb5 hb5'
      go_wp2_with fail
      refine hK.out _ _ ?_ (fun hHeld => ?_)
      · exact hcell5
      clear hK K
      (try simp only [Act.put, List.setIfInBounds_toArray, List.set_cons_zero, List.set_cons_succ])
      refine wpAnyH_take (i := 7) (oi := ⟨_, _, _, _, _, _⟩) (v := ?_) rfl (by kernel_rfl) (by kernel_rfl) (by kernel_rfl) (fun _ _ _ h => h) (Or.inl ⟨by rfl, ?_⟩) (by assumption) ?_
      rotate_left
      · intro W hSw
        (try dsimp only at hSw)
        go_simp
        (try with_reducible rfl)
      (try simp only [Act.put, List.setIfInBounds_toArray, List.set_cons_zero, List.set_cons_succ])
      refine wpAnyH_take (i := 8) (oi := ⟨_, _, _, _, _, _⟩) (v := ?_) rfl (by kernel_rfl) (by kernel_rfl) (by kernel_rfl) (fun _ _ _ h => h) (Or.inl ⟨by rfl, ?_⟩) (by assumption) ?_
      rotate_left
      · intro W hSw
        (try dsimp only at hSw)
        go_simp
        (try with_reducible rfl)
      (try simp only [Act.put, List.setIfInBounds_toArray, List.set_cons_zero, List.set_cons_succ])
      refine wpAnyH_take (i := 9) (oi := ⟨_, _, _, _, _, _⟩) (v := ?_) rfl (by kernel_rfl) (by kernel_rfl) (by kernel_rfl) (fun _ _ _ h => h) (Or.inl ⟨by rfl, ?_⟩) (by assumption) ?_
      rotate_left
      · intro W hSw
        (try dsimp only at hSw)
        go_simp
        (try with_reducible rfl)
      (try simp only [Act.put, List.setIfInBounds_toArray, List.set_cons_zero, List.set_cons_succ])
      refine wpAnyH_take (i := 10) (oi := ⟨_, _, _, _, _, _⟩) (v := ?_) rfl (by kernel_rfl) (by kernel_rfl) (by kernel_rfl) (fun _ _ _ h => h) (Or.inl ⟨by rfl, ?_⟩) (by assumption) ?_
      rotate_left
      · intro W hSw
        (try dsimp only at hSw)
        go_simp
        (try with_reducible rfl)
      (try simp only [Act.put, List.setIfInBounds_toArray, List.set_cons_zero, List.set_cons_succ])
      refine wpAnyH_ready (rs := [11]) (by kernel_rfl) (by simp) ?_
      refine AllReadyH.cons (o := ⟨_, _, _, _, _, _⟩) rfl (fun K hK => ?_) AllReadyH.nil
      go_simp
      refine hK.out _ _ ?_ (fun hHeld => ?_)
      · exact hcell6
      clear hK K
      (try simp only [Act.put, List.setIfInBounds_toArray, List.set_cons_zero, List.set_cons_succ])
      refine wpAnyH_take (i := 12) (oi := ⟨_, _, _, _, _, _⟩) (v := ?_) rfl (by kernel_rfl) (by kernel_rfl) (by kernel_rfl) (fun _ _ _ h => h) (Or.inl ⟨by rfl, ?_⟩) (by assumption) ?_
      rotate_left
      · intro W hSw
        (try dsimp only at hSw)
        go_simp
        (try with_reducible rfl)
      (try simp only [Act.put, List.setIfInBounds_toArray, List.set_cons_zero, List.set_cons_succ])
      refine wpAnyH_done (by kernel_rfl) ?_ _
      refine NoPanic.normal ?_
      clear hcell5 hcell6 p6 f6 hc19
      have HV6 := Lib.hid (HV5.out.s6 (.slice ad5 n5 cap5))
      have HX6 := Lib.hid (HX5.out.off (j := B) (i := 6) (by omega) (.slice ad5 n5 cap5))
      have HB6 : Hid (Below w.heap.size w (w5.setCell ⟨B, 6, none⟩ (.slice ad5 n5 cap5))) := HB5.out.setCell (by show w.heap.size ≤ B; omega) _
      have HREC6 := Lib.hid (RecsAt.put (base := B) (j := 6) (u := .slice ad5 n5 cap5) HREC.out (fun a h => by have h2 : W4.heap.size ≤ a.block := HBLK.out a h; omega))
      have HBLK6 : Hid (∀ a, ad5 = some a → w.heap.size < a.block) := fun a h => by have h2 : W4.heap.size ≤ a.block := HBLK.out a h; omega
      obtain ⟨W6, hW6⟩ : ∃ W6, W6 = w5.setCell ⟨B, 6, none⟩ (.slice ad5 n5 cap5) := ⟨_, rfl⟩
      rw [← hW6] at HV6 HX6 HB6 HREC6 ⊢
      clear hW6 hs20 CR
      cases ok5
      · have HON := Lib.hid (ON3.out (HNOK.out rfl))
        have r0 := HX6.out.c0
        have q0 := HX6.out.free 0
        have r1 := HX6.out.c1
        have q1 := HX6.out.free 1
        have r2 := HX6.out.c2
        have q2 := HX6.out.free 2
        have r3 := HX6.out.c3
        have q3 := HX6.out.free 3
        have r4 := HX6.out.c4
        have q4 := HX6.out.free 4
        have r5 := HX6.out.c5
        have q5 := HX6.out.free 5
        have r6 := HX6.out.c6
        have q6 := HX6.out.free 6
        go_wp2
        exact bodyPost_ret (resultsOpened (((((((HX6.out.s0 0).s1 0).s2 0).s3 0).s4 false).s5 0).s6 (.slice none 0 0)) rfl) rfl (gives_unopened HON.out (((((((HB6.out.setCell (Nat.le_refl _) _).setCell (Nat.le_refl _) _).setCell (Nat.le_refl _) _).setCell (Nat.le_refl _) _).setCell (Nat.le_refl _) _).setCell (Nat.le_refl _) _).setCell (Nat.le_refl _) _))
      · have hrc := HYOK.out rfl
        have HRC := Lib.hid hrc
        obtain ⟨i1, i2, i3⟩ := recsC_sound _ _ _ _ (drop_all hxa 20) hrc
        have hn5 := HREC6.out.length
        have CT : Hid (Calls Try.prog 26 #[.agg #[.int .i64 bs, .int .i64 fp, .int .i64 fe, .int .i64 fs, .bool ft, .int .i64 fm, .slice ad5 n5 cap5]] W6 (Says (rightE ⟨bs, fp, fe, fs, ft, fm, l5⟩) W6)) :=
          batRight_any W6 ⟨bs, fp, fe, fs, ft, fm, l5⟩ ad5 n5 cap5 HREC6.out (fun r hr => by have := i3 r hr; omega) (by omega)
        have HFB := HFD.out bs l5
        have HN4 : Hid (rightE ⟨bs, fp, fe, fs, ft, fm, l5⟩ ≠ 0 → Opens p none) := fun h => ON4.out l5 HRC.out (by rw [HFB]; exact h)
        have HOS : Hid (rightE ⟨bs, fp, fe, fs, ft, fm, l5⟩ = 0 → Opens p (some ⟨bs, fp, fe, fs, ft, fm, l5⟩)) := fun h => by
          have := OS.out l5 HOK.out (by rw [HML.out]; exact h20') HRC.out (by rw [HFB]; exact h)
          rw [HFB] at this
          exact this
        obtain ⟨ev, hev⟩ : ∃ ev, ev = rightE ⟨bs, fp, fe, fs, ft, fm, l5⟩ := ⟨_, rfl⟩
        rw [← hev] at CT HN4 HOS
        clear hrc i1 i2 i3 hn5 hev HFB
        have p0 := HV6.out.c0
        have p1 := HV6.out.c1
        have p2 := HV6.out.c2
        have p3 := HV6.out.c3
        have p4 := HV6.out.c4
        have p5 := HV6.out.c5
        have p6 := HV6.out.c6
        go_wp2_with fail
        refine CT.out.mono ?_
        rintro e w7 ⟨rfl, hb7⟩
        have HX7 := Lib.hid (HX6.out.on hb7)
        have HV7 := Lib.hid (HV6.out.on hb7)
        have HB7 := Lib.hid (HB6.out.trans (hb7.mono HB6.out.size))
        have HREC7 := Lib.hid (HREC6.out.keep hb7)
        clear hb7 p0 p1 p2 p3 p4 p5 p6
        by_cases h0 : ev = 0
        · have h1 : (ev != 0) = false := by simpa using h0
          have HOS2 := Lib.hid (HOS.out h0)
          clear h0
          have r0 := HX7.out.c0
          have q0 := HX7.out.free 0
          have r1 := HX7.out.c1
          have q1 := HX7.out.free 1
          have r2 := HX7.out.c2
          have q2 := HX7.out.free 2
          have r3 := HX7.out.c3
          have q3 := HX7.out.free 3
          have r4 := HX7.out.c4
          have q4 := HX7.out.free 4
          have r5 := HX7.out.c5
          have q5 := HX7.out.free 5
          have r6 := HX7.out.c6
          have q6 := HX7.out.free 6
          have p0 := HV7.out.c0
          have p1 := HV7.out.c1
          have p2 := HV7.out.c2
          have p3 := HV7.out.c3
          have p4 := HV7.out.c4
          have p5 := HV7.out.c5
          have p6 := HV7.out.c6
          go_wp2
          exact bodyPost_ret (resultsOpened (((((((HX7.out.s0 bs).s1 fp).s2 fe).s3 fs).s4 ft).s5 fm).s6 (.slice ad5 n5 cap5)) rfl) rfl (gives_opened HOS2.out HREC7.out.length (((((((HREC7.out.put HBLK6.out).put HBLK6.out).put HBLK6.out).put HBLK6.out).put HBLK6.out).put HBLK6.out).put HBLK6.out) (fun a h => by have := HBLK6.out a h; omega) (((((((HB7.out.setCell (Nat.le_refl _) _).setCell (Nat.le_refl _) _).setCell (Nat.le_refl _) _).setCell (Nat.le_refl _) _).setCell (Nat.le_refl _) _).setCell (Nat.le_refl _) _).setCell (Nat.le_refl _) _))
        · have h1 : (ev != 0) = true := by simpa using h0
          have HON := Lib.hid (HN4.out h0)
          clear h0
          have r0 := HX7.out.c0
          have q0 := HX7.out.free 0
          have r1 := HX7.out.c1
          have q1 := HX7.out.free 1
          have r2 := HX7.out.c2
          have q2 := HX7.out.free 2
          have r3 := HX7.out.c3
          have q3 := HX7.out.free 3
          have r4 := HX7.out.c4
          have q4 := HX7.out.free 4
          have r5 := HX7.out.c5
          have q5 := HX7.out.free 5
          have r6 := HX7.out.c6
          have q6 := HX7.out.free 6
          go_wp2
          exact bodyPost_ret (resultsOpened (((((((HX7.out.s0 0).s1 0).s2 0).s3 0).s4 false).s5 0).s6 (.slice none 0 0)) rfl) rfl (gives_unopened HON.out (((((((HB7.out.setCell (Nat.le_refl _) _).setCell (Nat.le_refl _) _).setCell (Nat.le_refl _) _).setCell (Nat.le_refl _) _).setCell (Nat.le_refl _) _).setCell (Nat.le_refl _) _).setCell (Nat.le_refl _) _))
end Go.Proofs.Ytlpmfhccfihnfaa
