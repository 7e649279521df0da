/- Batches made of tapes, for the statements of chapter 6; two batches that have unlike bases alone. -/
import Derived.Test.YtlpmfhccfihnfaaBatLaw1
import Derived.Deep.RegionHeld3
namespace Go.Proofs.Ytlpmfhccfihnfaa
open Go.RowKit
open Go.SeqMath
open Go.BatMath hiding AllB getD_lt take_all
open Go.VarMath (longB length_longB)
set_option linter.unusedVariables false

theorem mask40 (a : Int) : bits .and .i64 a 1099511627775 = a % 1099511627776 := by
  have h1 : (BitVec.ofInt 64 1099511627775).toNat = 2 ^ 40 - 1 := by decide
  have key : (BitVec.ofInt 64 a &&& BitVec.ofInt 64 1099511627775).toNat = (a % ((2 ^ 64 : Nat) : Int)).toNat % 2 ^ 40 := by
    rw [BitVec.toNat_and, BitVec.toNat_ofInt, h1, Nat.and_two_pow_sub_one_eq_mod]
  show IntKind.i64.wrap ((BitVec.ofInt 64 a &&& BitVec.ofInt 64 1099511627775).toNat : Nat) = _
  rw [key, IntKind.wrap_i64]
  omega
theorem below_of_grow {W W' : World} {k B : Nat} (h : W.grownBy W' (some k)) (hk : B ≤ k) (hB : B ≤ W.heap.size) : Below B W W' :=
  ⟨h.os, h.tape, h.output, h.size, fun j hj => h.block j (Nat.lt_of_lt_of_le hj hB) (fun e => by cases e; omega)⟩
/-- A tape that is made of a slice of numbers. -/
theorem tape_new {w : World} {ad : Option Addr} {len cap : Nat} {zs : List Int} (h : Nums w ad len zs) (hL : len ≤ 140737488355328) : TapeAt (w.alloc (.cells #[.slice ad len cap, .int .i64 0] 29)) w.heap.size ad len cap 0 := by
  refine ⟨heap_alloc_new w _, Nat.zero_le _, hL, fun j hj => ?_⟩
  rcases h.cells with h0 | ⟨b, off, e, hc⟩
  · omega
  · have hcj := hc j hj
    have hb := World.block_lt_of_cell? w _ hcj
    refine ⟨b, off, zs.getD j 0, e, hb, ?_, ?_⟩
    · rw [((Below.refl w.heap.size w).alloc (Nat.le_refl _) _).cell (p := ⟨b, off + j, none⟩) hb]
      exact hcj
    · have hl := h.length
      rw [List.getD_eq_getElem?_getD, List.getElem?_eq_getElem (by omega)]
      exact h.all _ (List.getElem_mem _)
/-- What Tape.Batch gives, field by field. -/
def MadeBat (w : World) (base : Int) (e : Ending) (w' : World) : Prop :=
  ∃ (p ep s : Int) (t : Bool) (m : Int) (l : List Rc) (ad : Option Addr) (n cap : Nat), e = .returned (.agg #[.int .i64 base, .int .i64 p, .int .i64 ep, .int .i64 s, .bool t, .int .i64 m, .slice ad n cap]) ∧
    Hid (rightE ⟨base, p, ep, s, t, m, l⟩ = 0) ∧ Hid (Bat.wf ⟨base, p, ep, s, t, m, l⟩) ∧ Hid (RecsAt w' ad n cap l) ∧ Hid (Below w.heap.size w w')
theorem made_bat (w : World) (ad : Option Addr) (len cap : Nat) (zs : List Int) (h : Nums w ad len zs) (hL : len ≤ 140737488355328) (base : Int) (h0 : 0 ≤ base) (h1 : base ≤ 1099511627776) :
    Calls Try.prog 9 #[.pointer (some ⟨w.heap.size, 0, none⟩), .int .i64 base] (w.alloc (.cells #[.slice ad len cap, .int .i64 0] 29)) (MadeBat w base) := by
  refine (tapeBatch_any _ w.heap.size ad len cap 0 base (tape_new h hL) h0 h1).mono ?_
  rintro e w' ⟨b, ad', cap', rfl, rfl, hr, hw, hre, _, _, hg⟩
  exact ⟨b.prod, b.epoch, b.seq, b.txn, b.marker, b.recs, ad', _, cap', rfl, hr, hw, hre, ((Below.refl _ _).alloc (Nat.le_refl _) _).trans (below_of_grow hg (Nat.le_refl _) (by simp))⟩
theorem bytes_two (b : Bat) (n : Int) : (bytesB (b.at n)).length = (bytesB b).length ∧ (bytesB (b.at n)).drop 8 = (bytesB b).drop 8 ∧ (bytesB (b.at n)).take 8 = longB n := by
  have e := bytes_at b n
  have h8 := length_longB n
  refine ⟨by rw [bytes_len, bytes_len]; rfl, ?_, ?_⟩
  · rw [e, List.drop_append, List.drop_of_length_le (by omega), h8]; simp
  · rw [e, List.take_append_of_le_length (by omega), List.take_of_length_le (by omega)]
theorem long_inj {a b : Int} (ha : In64 a) (hb : In64 b) (h : longB a = longB b) : a = b := by
  have h1 := VarMath.backB_long ha.1 ha.2 []
  have h2 := VarMath.backB_long hb.1 hb.2 []
  rw [h] at h1
  rw [h1] at h2
  exact (Prod.mk.inj h2).1
set_option maxRecDepth 100000 in
set_option maxHeartbeats 8000000 in
theorem bases_any (w : World) (ad : Option Addr) (len cap : Nat) (zs : List Int) (h : Nums w ad len zs) (hL : len ≤ 140737488355328) (a c : Int) :
    Calls Try.prog 7 #[.slice ad len cap, .int .i64 a, .int .i64 c] w fun e w' => e = .returned (.bool true) ∧ Below w.heap.size w w' := by
  have hma := mask40 a
  have hmc := mask40 c
  obtain ⟨x, hx⟩ : ∃ x, x = a % 1099511627776 := ⟨_, rfl⟩
  obtain ⟨y, hy⟩ : ∃ x, x = c % 1099511627776 := ⟨_, rfl⟩
  have hx0 : 0 ≤ x ∧ x ≤ 1099511627776 := by omega
  have hy0 : 0 ≤ y ∧ y ≤ 1099511627776 := by omega
  rw [← hx] at hma
  rw [← hy] at hmc
  have HN := Lib.hid h
  clear h hx hy
  go_enter Try.func7, Try.ntmps7
  go_wp2_with fail
  refine (made_bat w ad len cap zs HN.out hL x hx0.1 hx0.2).mono ?_
  rintro e w1 ⟨p, ep, s, t, m, l, ad1, n1, cap1, rfl, HR, HW, HRE1, HB1⟩
  clear hma
  go_upto_region 4 with fail
  obtain ⟨W2, hW2⟩ : ∃ W2, W2 = ((w1.alloc (.cells #[.int .i64 x, .int .i64 p, .int .i64 ep, .int .i64 s, .bool t, .int .i64 m, .slice ad1 n1 cap1] 24)).alloc (.cells #[.int .i64 y, .int .i64 p, .int .i64 ep, .int .i64 s, .bool t, .int .i64 m, .slice ad1 n1 cap1] 24)) := ⟨_, rfl⟩
  have hB12 : Below w1.heap.size w1 W2 := by rw [hW2]; exact ((Below.refl _ _).alloc (Nat.le_refl _) _).alloc (by simp) _
  have HB2 := Lib.hid (HB1.out.trans (hB12.mono HB1.out.size))
  have HRE2 := Lib.hid (HRE1.out.keep hB12)
  have HX2 : Hid (BoxAt W2 w1.heap.size x p ep s t m (.slice ad1 n1 cap1)) := by
    show BoxAt _ _ _ _ _ _ _ _ _
    rw [hW2]
    exact (boxAt_new w1 x p ep s t m (.slice ad1 n1 cap1)).keep ((Below.refl _ _).alloc (Nat.le_refl _) _) (by simp)
  have HY2 : Hid (BoxAt W2 (w1.heap.size + 1) y p ep s t m (.slice ad1 n1 cap1)) := by
    show BoxAt _ _ _ _ _ _ _ _ _
    rw [hW2]
    have := boxAt_new (w1.alloc (.cells #[.int .i64 x, .int .i64 p, .int .i64 ep, .int .i64 s, .bool t, .int .i64 m, .slice ad1 n1 cap1] 24)) y p ep s t m (.slice ad1 n1 cap1)
    simpa using this
  rw [← hW2]
  clear hW2 hB12 hmc
  obtain ⟨B1, hB1⟩ : ∃ B, B = w1.heap.size := ⟨_, rfl⟩
  obtain ⟨B2, hB2⟩ : ∃ B, B = w1.heap.size + 1 := ⟨_, rfl⟩
  rw [← hB1] at HX2
  rw [← hB2] at HY2
  rw [← hB2, ← hB1]
  clear hB1 hB2
  obtain ⟨bt1, bt2, bt3⟩ := bytes_two ⟨x, p, ep, s, t, m, l⟩ y
  obtain ⟨_, _, bt4⟩ := bytes_two ⟨x, p, ep, s, t, m, l⟩ x
  have HRY := Lib.hid (right_at HR.out hy0.1 hy0.2)
  have HWY := Lib.hid (at_wf HW.out (n := y) ⟨by omega, by omega⟩)
  obtain ⟨L, hLL⟩ : ∃ L, L = bytesB ⟨x, p, ep, s, t, m, l⟩ := ⟨_, rfl⟩
  obtain ⟨M, hM⟩ : ∃ M, M = bytesB (Bat.at ⟨x, p, ep, s, t, m, l⟩ y) := ⟨_, rfl⟩
  have bt5 : L.take 8 = longB x := by rw [hLL]; exact bt4
  rw [← hM, ← hLL] at bt1 bt2
  rw [← hM] at bt3
  have hl36 : 36 ≤ L.length ∧ L.length ≤ 2404 := by rw [hLL]; exact ⟨(ok_len (ok_of HR.out)).2, (ok_len (ok_of HR.out)).1⟩
  obtain ⟨N, hN⟩ : ∃ N, L.length = N := ⟨_, rfl⟩
  rw [hN] at bt1 hl36
  have C1 : Hid (∀ W, Below W2.heap.size W2 W → Calls Try.prog 18 #[.agg #[.int .i64 x, .int .i64 p, .int .i64 ep, .int .i64 s, .bool t, .int .i64 m, .slice ad1 n1 cap1]] W fun e w' => ∃ g c, e = .returned (.tuple #[.slice (some ⟨g, 0, none⟩) N c, .int .i64 0]) ∧ Hid (Row w' (some ⟨g, 0, none⟩) N c L) ∧ Hid (W.heap.size ≤ g) ∧ Hid (Below W.heap.size W w')) := by
    intro W hW
    rw [hLL]
    exact bytes_right W ⟨x, p, ep, s, t, m, l⟩ ad1 n1 cap1 N (HRE2.out.keep hW) HR.out HW.out (by rw [← hLL]; exact hN)
  have C2 : Hid (∀ W, Below W2.heap.size W2 W → Calls Try.prog 18 #[.agg #[.int .i64 y, .int .i64 p, .int .i64 ep, .int .i64 s, .bool t, .int .i64 m, .slice ad1 n1 cap1]] W fun e w' => ∃ g c, e = .returned (.tuple #[.slice (some ⟨g, 0, none⟩) N c, .int .i64 0]) ∧ Hid (Row w' (some ⟨g, 0, none⟩) N c M) ∧ Hid (W.heap.size ≤ g) ∧ Hid (Below W.heap.size W w')) := by
    intro W hW
    rw [hM]
    exact bytes_right W (Bat.at ⟨x, p, ep, s, t, m, l⟩ y) ad1 n1 cap1 N (HRE2.out.keep hW) HRY.out HWY.out (by rw [← hM]; exact bt1)
  have HT2 := Lib.hid bt2
  have HT3 := Lib.hid bt3
  have HT5 := Lib.hid bt5
  clear hLL hM bt1 bt2 bt3 bt4 bt5 hN HRY HWY HR HW
  have p0 := HX2.out.c0
  have p1 := HX2.out.c1
  have p2 := HX2.out.c2
  have p3 := HX2.out.c3
  have p4 := HX2.out.c4
  have p5 := HX2.out.c5
  have p6 := HX2.out.c6
  go_wp2_with fail
  refine (C1.out W2 (Below.refl _ _)).mono ?_
  rintro e w3 ⟨g3, k3, rfl, HP3, _, hb3⟩
  have HBa := Lib.hid hb3.out
  have HY3 := Lib.hid (HY2.out.on hb3.out)
  clear hb3 C1
  clear p0 p1 p2 p3 p4 p5 p6
  have p0 := HY3.out.c0
  have p1 := HY3.out.c1
  have p2 := HY3.out.c2
  have p3 := HY3.out.c3
  have p4 := HY3.out.c4
  have p5 := HY3.out.c5
  have p6 := HY3.out.c6
  go_wp2_with fail
  refine (C2.out w3 HBa.out).mono ?_
  rintro e w4 ⟨g4, k4, rfl, HQ4, _, hb4⟩
  have HBb := Lib.hid (HBa.out.trans (hb4.out.mono HBa.out.size))
  have HP4 := Lib.hid (HP3.out.keep hb4.out (Nat.le_refl _))
  have HX4 := Lib.hid (HX2.out.on HBb.out)
  have HY4 := Lib.hid (HY2.out.on HBb.out)
  have HBW := Lib.hid (HB2.out.trans (HBb.out.mono HB2.out.size))
  clear hb4 HBa C2 HY3 HP3
  clear p0 p1 p2 p3 p4 p5 p6
  go_upto_region 6 with fail
  obtain ⟨o3, c3, hs3, hP8⟩ := from_lit HP4.out.1 8 8 rfl (by omega)
  obtain ⟨o4, c4, hs4, hQ8⟩ := from_lit HQ4.out.1 8 8 rfl (by omega)
  have hpf := HP4.out.1.fits
  have hqf := HQ4.out.1.fits
  have hu3 : ∀ W, (Instr.slice 34 (.slice (some ⟨g3, 0, none⟩) N k3) none (some (.int .i64 8)) none).run Try.prog W = .ok (.slice (some ⟨g3, 0, none⟩) 8 k3) W := run_upto (some ⟨g3, 0, none⟩) N k3 8 (by omega)
  have hu4 : ∀ W, (Instr.slice 34 (.slice (some ⟨g4, 0, none⟩) N k4) none (some (.int .i64 8)) none).run Try.prog W = .ok (.slice (some ⟨g4, 0, none⟩) 8 k4) W := run_upto (some ⟨g4, 0, none⟩) N k4 8 (by omega)
  have hPU := byt_upto HP4.out.1 8 (by omega)
  have hQU := byt_upto HQ4.out.1 8 (by omega)
  rw [HT2.out] at hQ8
  rw [HT5.out] at hPU
  rw [HT3.out] at hQU
  obtain ⟨sT, hsT⟩ : ∃ s, s = str (L.drop 8) := ⟨_, rfl⟩
  obtain ⟨sP, hsP⟩ : ∃ s, s = str (longB x) := ⟨_, rfl⟩
  obtain ⟨sQ, hsQ⟩ : ∃ s, s = str (longB y) := ⟨_, rfl⟩
  obtain ⟨v8, hv8⟩ : ∃ v : Value, v = .slice (some ⟨g3, o3, none⟩) (N - 8) c3 := ⟨_, rfl⟩
  obtain ⟨q8, hq8⟩ : ∃ v : Value, v = .slice (some ⟨g4, o4, none⟩) (N - 8) c4 := ⟨_, rfl⟩
  obtain ⟨vU, hvU⟩ : ∃ v : Value, v = .slice (some ⟨g3, 0, none⟩) 8 k3 := ⟨_, rfl⟩
  obtain ⟨qU, hqU⟩ : ∃ v : Value, v = .slice (some ⟨g4, 0, none⟩) 8 k4 := ⟨_, rfl⟩
  have KS : Hid (∀ W, Below w4.heap.size w4 W → (convert 34 9 v8).run Try.prog W = .ok (.string sT) W ∧ (convert 34 9 q8).run Try.prog W = .ok (.string sT) W ∧ (convert 34 9 vU).run Try.prog W = .ok (.string sP) W ∧ (convert 34 9 qU).run Try.prog W = .ok (.string sQ) W ∧ W.cell? ⟨B1, 0, none⟩ = some (.int .i64 x) ∧ W.cell? ⟨B1, 1, none⟩ = some (.int .i64 p) ∧ W.cell? ⟨B1, 2, none⟩ = some (.int .i64 ep) ∧ W.cell? ⟨B1, 3, none⟩ = some (.int .i64 s) ∧ W.cell? ⟨B1, 4, none⟩ = some (.bool t) ∧ W.cell? ⟨B1, 5, none⟩ = some (.int .i64 m) ∧ W.cell? ⟨B1, 6, none⟩ = some (.slice ad1 n1 cap1) ∧ W.cell? ⟨B2, 0, none⟩ = some (.int .i64 y) ∧ W.cell? ⟨B2, 1, none⟩ = some (.int .i64 p) ∧ W.cell? ⟨B2, 2, none⟩ = some (.int .i64 ep) ∧ W.cell? ⟨B2, 3, none⟩ = some (.int .i64 s) ∧ W.cell? ⟨B2, 4, none⟩ = some (.bool t) ∧ W.cell? ⟨B2, 5, none⟩ = some (.int .i64 m) ∧ W.cell? ⟨B2, 6, none⟩ = some (.slice ad1 n1 cap1)) := by
    intro W hW
    refine ⟨?_, ?_, ?_, ?_, ?_⟩
    · rw [hv8, hsT]; exact run_str (hP8.keep hW (Nat.le_refl _))
    · rw [hq8, hsT]; exact run_str (hQ8.keep hW (Nat.le_refl _))
    · rw [hvU, hsP]; exact run_str (hPU.keep hW (Nat.le_refl _))
    · rw [hqU, hsQ]; exact run_str (hQU.keep hW (Nat.le_refl _))
    · have hX := HX4.out.on hW
      have hY := HY4.out.on hW
      exact ⟨hX.c0, hX.c1, hX.c2, hX.c3, hX.c4, hX.c5, hX.c6, hY.c0, hY.c1, hY.c2, hY.c3, hY.c4, hY.c5, hY.c6⟩
  rw [← hv8] at hs3
  rw [← hq8] at hs4
  rw [← hvU] at hu3
  rw [← hqU] at hu4
  have hEQ : ((sP.toList == sQ.toList) == (x == y)) = true := by
    by_cases e : x = y
    · subst e
      rw [hsP, hsQ]; simp
    · have h1 : (x == y) = false := by simpa using e
      have h2 : (sP.toList == sQ.toList) = false := ba_ne (fun h => e (by
        rw [hsP, hsQ] at h
        exact long_inj ⟨by omega, by omega⟩ ⟨by omega, by omega⟩ (str_inj (VarMath.longB_all _) (VarMath.longB_all _) (by rw [h]))))
      rw [h1, h2]; rfl
  obtain ⟨cnt, hcnt⟩ : ∃ cnt, (if m ≠ 0 then 1 else (n1 : Int)) = cnt := ⟨_, rfl⟩
  have HCNT := Lib.hid hcnt
  have hN12 : (12 : Int) < (N : Int) := by omega
  clear hP8 hQ8 hPU hQU hsT hsP hsQ hv8 hq8 hvU hqU hcnt hpf hqf
  go_region_held3 (fun W => Below w4.heap.size w4 W ∧ (convert 34 9 v8).run Try.prog W = .ok (.string sT) W ∧ (convert 34 9 q8).run Try.prog W = .ok (.string sT) W ∧ (convert 34 9 vU).run Try.prog W = .ok (.string sP) W ∧ (convert 34 9 qU).run Try.prog W = .ok (.string sQ) W ∧ W.cell? ⟨B1, 0, none⟩ = some (.int .i64 x) ∧ W.cell? ⟨B1, 1, none⟩ = some (.int .i64 p) ∧ W.cell? ⟨B1, 2, none⟩ = some (.int .i64 ep) ∧ W.cell? ⟨B1, 3, none⟩ = some (.int .i64 s) ∧ W.cell? ⟨B1, 4, none⟩ = some (.bool t) ∧ W.cell? ⟨B1, 5, none⟩ = some (.int .i64 m) ∧ W.cell? ⟨B1, 6, none⟩ = some (.slice ad1 n1 cap1) ∧ W.cell? ⟨B2, 0, none⟩ = some (.int .i64 y) ∧ W.cell? ⟨B2, 1, none⟩ = some (.int .i64 p) ∧ W.cell? ⟨B2, 2, none⟩ = some (.int .i64 ep) ∧ W.cell? ⟨B2, 3, none⟩ = some (.int .i64 s) ∧ W.cell? ⟨B2, 4, none⟩ = some (.bool t) ∧ W.cell? ⟨B2, 5, none⟩ = some (.int .i64 m) ∧ W.cell? ⟨B2, 6, none⟩ = some (.slice ad1 n1 cap1)) (first | exact ⟨hb7.out, KS.out _ hb7.out⟩ | exact ⟨hb6.out, KS.out _ hb6.out⟩ | exact ⟨hb5.out, KS.out _ hb5.out⟩ | exact ⟨(Below.refl _ w4).drew, KS.out _ ((Below.refl _ w4).drew)⟩) (first | (go_at_call 14; refine (known_any _).mono ?_; rintro e w7 ⟨rfl, hbb7⟩; have hb7 := Lib.hid ((And.left ‹Below w4.heap.size w4 _ ∧ _›).trans (hbb7.mono (And.left ‹Below w4.heap.size w4 _ ∧ _›).size))) | (go_at_call 23; refine (batCount_any _ _ _ _ _ _ _ _ _ _ cnt HCNT.out).mono ?_; rintro e w5 ⟨rfl, hbb5⟩; have hb5 := Lib.hid ((And.left ‹Below w4.heap.size w4 _ ∧ _›).trans (hbb5.mono (And.left ‹Below w4.heap.size w4 _ ∧ _›).size))))
  all_goals
    go_wp2
    go_ret
    exact ⟨rfl, HBW.out.trans (hb7.out.mono HBW.out.size)⟩
end Go.Proofs.Ytlpmfhccfihnfaa
