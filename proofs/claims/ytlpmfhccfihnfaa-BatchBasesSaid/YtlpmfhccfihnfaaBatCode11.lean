/- The code's own batch, chapter 6: Read. -/
import Derived.Test.YtlpmfhccfihnfaaBatCode10
import Derived.Test.YtlpmfhccfihnfaaBatRead
namespace Go.Proofs.Ytlpmfhccfihnfaa
open Go.RowKit
open Go.SeqMath
open Go.BatMath hiding AllB getD_lt take_all
open Go.VarMath (unbe)
set_option linter.unusedVariables false

theorem resultsCodeRead {tmps : Array Value} {B : Nat} {W : World} {b0 b1 b2 b3 : Int} {b4 : Bool} {b5 : Int} {v : Value} (h : BoxAt W B b0 b1 b2 b3 b4 b5 v) (ht : tmps.getD 2 undef = .pointer (some ⟨B, 0, none⟩)) :
    (results Try.f20 tmps).run Try.prog W = .ok (.tuple #[.agg #[.int .i64 b0, .int .i64 b1, .int .i64 b2, .int .i64 b3, .bool b4, .int .i64 b5, v], tmps.getD 3 undef, tmps.getD 4 undef]) W := by
  rw [results_cell_tmp2 (p := 2) (u := 3) (v := 4) (ty := 24) Try.results20, ht]
  have hl := run_loadVar_row (P := Try.prog) W B 24 24 _ (0, 0) _ h Try.underlying24 rfl (by kernel_rfl)
  simp only [asAddr, Sem.run_pure, Result.andThen, hl]
set_option maxRecDepth 100000 in
set_option maxHeartbeats 2000000 in
theorem batRead_any (w : World) (ad : Option Addr) (len cap : Nat) (x : List Nat) (h : Byt w ad len cap x) (hL : len ≤ 140737488355328) :
    Calls Try.prog 20 #[.slice ad len cap] w (GivesRead w (readD x)) := by
  have hxl := h.length
  have hxa := h.all
  obtain ⟨o, ho⟩ : ∃ o, o = readD x := ⟨_, rfl⟩
  have HRD : Hid (∀ o', BatMath.Reads x o' → o = o') := fun o' h' => by rw [ho, readD_of hxa h']
  rw [← ho]
  clear ho
  by_cases h12 : len < 12
  · have HON : Hid (o = ⟨Bat.zero, 0, 12⟩) := HRD.out _ (reads_none (by unfold fellD; rw [if_pos (by omega)]) fun b hb => by have := (good_parts hb).2.1; omega)
    have hd : decide ((len : Int) < 12) = true := by simp; omega
    clear h hxl
    go_enter Try.func20, Try.ntmps20
    go_wp2
    exact bodyPost_ret (resultsCodeRead (boxAt_new w 0 0 0 0 false 0 (.slice none 0 0)) rfl) rfl (gives_read HON.out rfl rfl (recsAt_nil _) (fun a h => by cases h) ((Below.refl _ _).alloc (Nat.le_refl _) _))
  · have h12' : 12 ≤ len := by omega
    obtain ⟨bx, ox, rfl, hcell⟩ := h.get (by omega)
    obtain ⟨o8, k8, hs8, hB8⟩ := part_lit h 8 4 8 12 rfl (by omega) (by omega)
    obtain ⟨N, hN⟩ : ∃ N, N = lenD x := ⟨_, rfl⟩
    have hN32 : N < 4294967296 := by
      have h1 := VarMath.unbe_lt hB8.all
      rw [hB8.length] at h1
      rw [hN]
      exact h1
    have CJ : Hid (∀ W, Below w.heap.size w W → Calls Try.prog 39 #[.slice (some ⟨bx, o8, none⟩) 4 k8] W fun e w' => e = .returned (.int .u32 (N : Int)) ∧ W = w') := by
      intro W hW
      have := join_any W _ _ _ _ (hB8.keep hW (Nat.le_refl _)) (by omega) (by omega)
      rw [show unbe ((x.drop 8).take 4) = N from hN.symm] at this
      exact this
    have HNO : Hid (∀ e, e = fellD x → (∀ b, ¬ BatMath.Good x b) → o = ⟨Bat.zero, 0, e⟩) := fun e he hb => HRD.out _ (reads_none he hb)
    have HYES : Hid (∀ b, BatMath.Good x b → o = ⟨b, N + 12, 0⟩) := fun b hb => HRD.out _ (by rw [hN]; exact reads_some hb)
    have HF2 : Hid (4096 < N + 12 → fellD x = 13) := fun hh => by unfold fellD; rw [if_neg (by omega), if_pos (by omega)]
    have HF3 : Hid (N + 12 ≤ 4096 → fellD x = 12) := fun hh => by unfold fellD; rw [if_neg (by omega), if_neg (by omega)]
    have HGN : Hid (∀ b, BatMath.Good x b → N + 12 ≤ 4096 ∧ N + 12 ≤ len) := fun b hb => by
      obtain ⟨_, _, g3, g4, _⟩ := good_parts hb
      omega
    have HOP : Hid (N + 12 ≤ len → ∀ ob, Opens (x.take (N + 12)) ob → ∀ b, ob = some b ↔ BatMath.Good x b) := fun hh ob hob b => by
      rw [opens_good (take_all hxa _) (by rw [List.length_take]; omega) (by rw [lenD_take (by omega), List.length_take]; omega) hob b, hN]
      exact good_take (by omega) b
    have HX := Lib.hid h
    obtain ⟨W0, hW0⟩ : ∃ W0, W0 = (w.alloc (.cells #[.int .i64 0, .int .i64 0, .int .i64 0, .int .i64 0, .bool false, .int .i64 0, .slice none 0 0] 24)) := ⟨_, rfl⟩
    have HX0 := Lib.hid (show BoxAt W0 w.heap.size 0 0 0 0 false 0 (.slice none 0 0) by rw [hW0]; exact boxAt_new w _ _ _ _ _ _ _)
    have HB0 := Lib.hid (show Below w.heap.size w W0 by rw [hW0]; exact (Below.refl _ _).alloc (Nat.le_refl _) _)
    have HW0 := Lib.hid hW0
    have hfit := h.fits
    have hdl : decide ((len : Int) < 12) = false := by simp; omega
    clear h hxl hcell hB8 hN hW0 HRD
    go_enter Try.func20, Try.ntmps20
    go_wp2_with fail
    rw [← HW0.out]
    refine (CJ.out _ HB0.out).mono ?_
    rintro e w' ⟨rfl, rfl⟩
    clear hs8 hdl
    by_cases h4 : 4096 < N + 12
    · have HON : Hid (o = ⟨Bat.zero, 0, 13⟩) := HNO.out 13 (HF2.out h4).symm fun b hb => by have := (HGN.out b hb).1; omega
      have h4' : 4084 < N := by omega
      have r0 := HX0.out.c0
      have q0 := HX0.out.free 0
      have r1 := HX0.out.c1
      have q1 := HX0.out.free 1
      have r2 := HX0.out.c2
      have q2 := HX0.out.free 2
      have r3 := HX0.out.c3
      have q3 := HX0.out.free 3
      have r4 := HX0.out.c4
      have q4 := HX0.out.free 4
      have r5 := HX0.out.c5
      have q5 := HX0.out.free 5
      have r6 := HX0.out.c6
      have q6 := HX0.out.free 6
      go_wp2
      exact bodyPost_ret (resultsCodeRead (((((((HX0.out.s0 0).s1 0).s2 0).s3 0).s4 false).s5 0).s6 (.slice none 0 0)) rfl) rfl (gives_read HON.out rfl rfl (recsAt_nil _) (fun a h => by cases h) (((((((HB0.out.setCell (Nat.le_refl _) _).setCell (Nat.le_refl _) _).setCell (Nat.le_refl _) _).setCell (Nat.le_refl _) _).setCell (Nat.le_refl _) _).setCell (Nat.le_refl _) _).setCell (Nat.le_refl _) _))
    · have h4' : N ≤ 4084 := by omega
      have hf3 := HF3.out (by omega)
      have HF := Lib.hid hf3
      clear hf3 h4
      by_cases h5 : len < N + 12
      · have HON : Hid (o = ⟨Bat.zero, 0, 12⟩) := HNO.out 12 HF.out.symm fun b hb => by have := (HGN.out b hb).2; omega
        have r0 := HX0.out.c0
        have q0 := HX0.out.free 0
        have r1 := HX0.out.c1
        have q1 := HX0.out.free 1
        have r2 := HX0.out.c2
        have q2 := HX0.out.free 2
        have r3 := HX0.out.c3
        have q3 := HX0.out.free 3
        have r4 := HX0.out.c4
        have q4 := HX0.out.free 4
        have r5 := HX0.out.c5
        have q5 := HX0.out.free 5
        have r6 := HX0.out.c6
        have q6 := HX0.out.free 6
        go_wp2
        exact bodyPost_ret (resultsCodeRead (((((((HX0.out.s0 0).s1 0).s2 0).s3 0).s4 false).s5 0).s6 (.slice none 0 0)) rfl) rfl (gives_read HON.out rfl rfl (recsAt_nil _) (fun a h => by cases h) (((((((HB0.out.setCell (Nat.le_refl _) _).setCell (Nat.le_refl _) _).setCell (Nat.le_refl _) _).setCell (Nat.le_refl _) _).setCell (Nat.le_refl _) _).setCell (Nat.le_refl _) _).setCell (Nat.le_refl _) _))
      · have h5' : N + 12 ≤ len := by omega
        have hop := HOP.out h5'
        have HOP2 := Lib.hid hop
        obtain ⟨n, hn⟩ : ∃ n, n = N + 12 := ⟨_, rfl⟩
        have hsl := run_upto (some ⟨bx, ox, none⟩) len cap n (by omega)
        have hnn : (12 : Int) + (N : Int) = (n : Int) := by omega
        have HBT := Lib.hid (byt_upto HX.out n (by omega))
        rw [← hn] at HOP2 HYES
        have hn5 : n ≤ len := by omega
        have hn12 : 12 ≤ n := by omega
        have hn4 : n ≤ 4096 := by omega
        clear hop h5 h5' hn
        go_wp2_with fail
        refine (opened_any W0 bx ox n cap _ (HBT.out.keep HB0.out (Nat.le_refl _)) hn12 hn4).mono ?_
        rintro e w1 hg
        rcases hg with ⟨b, ad1, cap1, hop, rfl, hre, hbl, hb1⟩ | ⟨hop, rfl, hb1⟩
        · have HON : Hid (o = ⟨b, n, 0⟩) := HYES.out b ((HOP2.out _ hop b).1 rfl)
          have HX1 := Lib.hid (HX0.out.on (hb1.alloc hb1.size (.cells #[.int .i64 b.base, .int .i64 b.prod, .int .i64 b.epoch, .int .i64 b.seq, .bool b.txn, .int .i64 b.marker, .slice ad1 b.recs.length cap1] 24)))
          have HB1 := Lib.hid (HB0.out.trans ((hb1.alloc hb1.size (.cells #[.int .i64 b.base, .int .i64 b.prod, .int .i64 b.epoch, .int .i64 b.seq, .bool b.txn, .int .i64 b.marker, .slice ad1 b.recs.length cap1] 24)).mono HB0.out.size))
          have hR := HX0.out.lt
          have HREC := Lib.hid (hre.keep ((Below.refl _ _).alloc (Nat.le_refl _) (.cells #[.int .i64 b.base, .int .i64 b.prod, .int .i64 b.epoch, .int .i64 b.seq, .bool b.txn, .int .i64 b.marker, .slice ad1 b.recs.length cap1] 24)))
          have HBLK : Hid (∀ a, ad1 = some a → w.heap.size < a.block) := fun a h => by have := hbl a h; omega
          have HV1 := Lib.hid (boxAt_new w1 b.base b.prod b.epoch b.seq b.txn b.marker (.slice ad1 b.recs.length cap1))
          obtain ⟨W1, hW1⟩ : ∃ W1, W1 = (w1.alloc (.cells #[.int .i64 b.base, .int .i64 b.prod, .int .i64 b.epoch, .int .i64 b.seq, .bool b.txn, .int .i64 b.marker, .slice ad1 b.recs.length cap1] 24)) := ⟨_, rfl⟩
          rw [← hW1] at HX1 HB1 HREC HV1
          have HW1 := Lib.hid hW1
          obtain ⟨nl, hnl⟩ : ∃ nl, nl = b.recs.length := ⟨_, rfl⟩
          rw [← hnl] at HREC HV1 HW1 ⊢
          have HNL := Lib.hid hnl.symm
          clear hop hre hbl hb1 hW1 hnl
          go_upto_region 10 with fail
          rw [← HW1.out]
          have r0 := HX1.out.c0
          have q0 := HX1.out.free 0
          have r1 := HX1.out.c1
          have q1 := HX1.out.free 1
          have r2 := HX1.out.c2
          have q2 := HX1.out.free 2
          have r3 := HX1.out.c3
          have q3 := HX1.out.free 3
          have r4 := HX1.out.c4
          have q4 := HX1.out.free 4
          have r5 := HX1.out.c5
          have q5 := HX1.out.free 5
          have r6 := HX1.out.c6
          have q6 := HX1.out.free 6
          have p0 := HV1.out.c0
          have p1 := HV1.out.c1
          have p2 := HV1.out.c2
          have p3 := HV1.out.c3
          have p4 := HV1.out.c4
          have p5 := HV1.out.c5
          have p6 := HV1.out.c6
          go_wp2
          exact bodyPost_ret (resultsCodeRead (((((((HX1.out.s0 b.base).s1 b.prod).s2 b.epoch).s3 b.seq).s4 b.txn).s5 b.marker).s6 (.slice ad1 nl cap1)) rfl) rfl (gives_read HON.out rfl HNL.out (((((((HREC.out.put HBLK.out).put HBLK.out).put HBLK.out).put HBLK.out).put HBLK.out).put HBLK.out).put HBLK.out) (fun a h => by have := HBLK.out a h; omega) (((((((HB1.out.setCell (Nat.le_refl _) _).setCell (Nat.le_refl _) _).setCell (Nat.le_refl _) _).setCell (Nat.le_refl _) _).setCell (Nat.le_refl _) _).setCell (Nat.le_refl _) _).setCell (Nat.le_refl _) _))
        · have HON : Hid (o = ⟨Bat.zero, 0, 12⟩) := HNO.out 12 HF.out.symm fun b hb => by have := (HOP2.out _ hop b).2 hb; cases this
          have HX1 := Lib.hid (HX0.out.on (hb1.alloc hb1.size (.cells #[.int .i64 0, .int .i64 0, .int .i64 0, .int .i64 0, .bool false, .int .i64 0, .slice none 0 0] 24)))
          have HB1 := Lib.hid (HB0.out.trans ((hb1.alloc hb1.size (.cells #[.int .i64 0, .int .i64 0, .int .i64 0, .int .i64 0, .bool false, .int .i64 0, .slice none 0 0] 24)).mono HB0.out.size))
          obtain ⟨W1, hW1⟩ : ∃ W1, W1 = (w1.alloc (.cells #[.int .i64 0, .int .i64 0, .int .i64 0, .int .i64 0, .bool false, .int .i64 0, .slice none 0 0] 24)) := ⟨_, rfl⟩
          rw [← hW1] at HX1 HB1
          have HW1 := Lib.hid hW1
          clear hop hb1 hW1
          go_upto_region 10 with fail
          rw [← HW1.out]
          have r0 := HX1.out.c0
          have q0 := HX1.out.free 0
          have r1 := HX1.out.c1
          have q1 := HX1.out.free 1
          have r2 := HX1.out.c2
          have q2 := HX1.out.free 2
          have r3 := HX1.out.c3
          have q3 := HX1.out.free 3
          have r4 := HX1.out.c4
          have q4 := HX1.out.free 4
          have r5 := HX1.out.c5
          have q5 := HX1.out.free 5
          have r6 := HX1.out.c6
          have q6 := HX1.out.free 6
          go_wp2
          exact bodyPost_ret (resultsCodeRead (((((((HX1.out.s0 0).s1 0).s2 0).s3 0).s4 false).s5 0).s6 (.slice none 0 0)) rfl) rfl (gives_read HON.out rfl rfl (recsAt_nil _) (fun a h => by cases h) (((((((HB1.out.setCell (Nat.le_refl _) _).setCell (Nat.le_refl _) _).setCell (Nat.le_refl _) _).setCell (Nat.le_refl _) _).setCell (Nat.le_refl _) _).setCell (Nat.le_refl _) _).setCell (Nat.le_refl _) _))
end Go.Proofs.Ytlpmfhccfihnfaa
