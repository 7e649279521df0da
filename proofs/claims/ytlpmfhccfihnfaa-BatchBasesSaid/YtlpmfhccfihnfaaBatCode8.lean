/- The code's own batch, chapter 6: join, fields: what stands under the sum, but for its records. -/
import Derived.Test.YtlpmfhccfihnfaaBatInner
import Derived.Test.YtlpmfhccfihnfaaBatCodeMath
import Derived.Test.YtlpmfhccfihnfaaCrcSeal
namespace Go.Proofs.Ytlpmfhccfihnfaa
open Go.RowKit
open Go.SeqMath
open Go.BatMath hiding AllB getD_lt take_all
open Go.VarMath (longB length_longB textB backB unbe unbe_lt unbe_take)
set_option linter.unusedVariables false

theorem join_or (u x : Nat) (hu : u < 16777216) (hx : x < 256) : bits .or .u32 ((u : Int) * 256) (x : Int) = ((u * 256 + x : Nat) : Int) := by
  have e : (u : Int) * 256 = ((u * 256 : Nat) : Int) := by omega
  rw [e, u32_or_nat (u * 256) x (by omega) (by omega), nat_join 8 (u * 256) x (Nat.mul_mod_left _ _) (by simpa using hx)]
theorem unbe_three {bs : List Nat} (h : AllB bs) (k : Nat) (hk : k < 4) : unbe (bs.take k) < 16777216 := by
  have h1 := unbe_lt (take_all h k)
  have h2 : (bs.take k).length ≤ 3 := by rw [List.length_take]; omega
  have h3 : (256 : Nat) ^ (bs.take k).length ≤ 256 ^ 3 := Nat.pow_le_pow_right (by omega) h2
  have h4 : (256 : Nat) ^ 3 = 16777216 := by decide
  omega
theorem join_eq {a b : Int} (h : a = b) : Value.int .u32 a = Value.int .u32 b := by rw [h]
theorem u32_ret {a b : Int} (h : a = b) : Ending.returned (.int .u32 a) = .returned (.int .u32 b) := by rw [h]
theorem wrap_i16 (e : Nat) (h : e < 65536) : IntKind.i16.wrap (e : Int) = i16D e := by
  unfold i16D
  simp only [IntKind.wrap, IntKind.bits, IntKind.signed, Bool.true_and, decide_eq_true_eq, ge_iff_le, Nat.reduceSub, Int.reducePow]
  split <;> split <;> omega
set_option maxHeartbeats 400000 in
theorem join_any (w : World) (ad : Option Addr) (len cap : Nat) (bs : List Nat) (h : Byt w ad len cap bs) (h1 : 0 < len) (h4 : len ≤ 4) :
    Calls Try.prog 39 #[.slice ad len cap] w fun e w' => e = .returned (.int .u32 (unbe bs : Nat)) ∧ w = w' := by
  have HL := Lib.hid h.length
  obtain ⟨b, off, rfl, hcell⟩ := h.get h1
  have HC := Lib.hid hcell
  have HA := Lib.hid h.all
  clear h hcell
  go_enter Try.func39, Try.ntmps39
  go_wp2
  go_loop [3, 8] (fun v3 v8 => ∃ k : Nat, k ≤ len ∧ v8 = .int .i64 k ∧ v3 = .int .u32 (unbe (bs.take k) : Nat)) (fun _ i => len - (intOf i).toNat)
  case atStart => exact ⟨0, by omega, rfl, rfl⟩
  case round =>
    obtain ⟨k, hk, rfl, rfl⟩ := hrel
    by_cases hlt : k < len
    · have hu := unbe_three HA.out k (by omega)
      have hx8 := getD_all HA.out k
      have hc := HC.out k (by omega)
      have hs := unbe_take bs k (by rw [HL.out]; omega)
      obtain ⟨u, hue⟩ : ∃ u, u = unbe (bs.take k) := ⟨_, rfl⟩
      obtain ⟨x, hxe⟩ : ∃ x, x = bs.getD k 0 := ⟨_, rfl⟩
      rw [← hue] at hu hs ⊢
      rw [← hxe] at hx8 hc hs
      have HS := Lib.hid hs
      clear hue hxe hs
      have hor := join_or u x hu hx8
      go_wp2
      go_round
      case rel => exact ⟨k + 1, by omega, by go_num, by rw [HS.out]; exact join_eq (by omega)⟩
      case measure => simp [intOf]; omega
    · obtain rfl : k = len := by omega
      have HU : Hid (unbe (bs.take k) = unbe bs) := by show _ = _; rw [List.take_of_length_le (by rw [HL.out]; exact Nat.le_refl _)]
      obtain ⟨u, hue⟩ : ∃ u, u = unbe (bs.take k) := ⟨_, rfl⟩
      rw [← hue] at HU ⊢
      clear hue
      go_wp2
      go_ret
      exact ⟨u32_ret (by rw [HU.out]), rfl⟩
theorem results_cell_lone {fn : Func} {p : Tmp} {ty : TypeId} (h : fn.results = #[.cell p ty]) (tmps : Array Value) (P : Program) (w : World) :
    (results fn tmps).run P w = ((asAddr (tmps.getD p undef)).run P w).andThen fun a w₁ => (loadVar ty a).run P w₁ := by
  simp only [results, h]
  simp [Sem.run_bind, Result.andThen]
theorem resultsFields {tmps : Array Value} {B : Nat} {W : World} {b0 b1 b2 b3 : Int} {b4 : Bool} {b5 : Int} {v : Value} (h : BoxAt W B b0 b1 b2 b3 b4 b5 v) (ht : tmps.getD 2 undef = .pointer (some ⟨B, 0, none⟩)) :
    (results Try.f59 tmps).run Try.prog W = .ok (.agg #[.int .i64 b0, .int .i64 b1, .int .i64 b2, .int .i64 b3, .bool b4, .int .i64 b5, v]) W := by
  rw [results_cell_lone (p := 2) (ty := 24) Try.results59, ht]
  have hl := run_loadVar_row (P := Try.prog) W B 24 24 _ (0, 0) _ h Try.underlying24 rfl (by kernel_rfl)
  simp only [asAddr, Sem.run_pure, Result.andThen, hl]
/-- What fields gives. -/
def GivesFields (w : World) (x : List Nat) (e : Ending) (w' : World) : Prop :=
  ∃ (b : Bat), b = fieldsC x 0 [] ∧ e = .returned (.agg #[.int .i64 b.base, .int .i64 b.prod, .int .i64 b.epoch, .int .i64 b.seq, .bool b.txn, .int .i64 b.marker, .slice none 0 0]) ∧ Below w.heap.size w w'
set_option maxRecDepth 100000 in
set_option maxHeartbeats 2000000 in
theorem fields_any (w : World) (ad : Option Addr) (len cap : Nat) (x : List Nat) (h : Byt w ad len cap x) (h20 : 20 ≤ len) (hL : len ≤ 140737488355328) :
    Calls Try.prog 59 #[.slice ad len cap] w (GivesFields w x) := by
  have hxl := h.length
  obtain ⟨bx, ox, rfl, hcell⟩ := h.get (by omega)
  have g0 := getD_all h.all 0
  have hc0 := hcell 0 (by omega)
  rw [Nat.add_zero] at hc0
  have hbx : bx < w.heap.size := World.block_lt_of_cell? _ _ hc0
  have HF : Hid (∀ p e s t m, p = (backB (x.drop 1)).1 → e = i16D (unbe ((x.drop 9).take 2)) → s = (backB (x.drop 11)).1 → t = decide (x.getD 0 0 % 2 = 1) → m = ((x.getD 0 0 / 2 : Nat) : Int) → ∀ w', Below w.heap.size w w' →
      GivesFields w x (.returned (.agg #[.int .i64 0, .int .i64 p, .int .i64 e, .int .i64 s, .bool t, .int .i64 m, .slice none 0 0])) w') := by
    rintro p e s t m rfl rfl rfl rfl rfl w' hb
    exact ⟨_, rfl, rfl, hb⟩
  obtain ⟨x0, hx0⟩ : ∃ x0, x0 = x.getD 0 0 := ⟨_, rfl⟩
  obtain ⟨ew, hew⟩ : ∃ x0, x0 = unbe ((x.drop 9).take 2) := ⟨_, rfl⟩
  obtain ⟨o1, k1, hs1, hB1⟩ := from_lit h 1 1 rfl (by omega)
  obtain ⟨o9, k9, hs9, hB9⟩ := part_lit h 9 2 9 11 rfl (by omega) (by omega)
  obtain ⟨o11, k11, hs11, hB11⟩ := from_lit h 11 11 rfl (by omega)
  obtain ⟨p, hp⟩ : ∃ p, p = (backB (x.drop 1)).1 := ⟨_, rfl⟩
  obtain ⟨s, hs⟩ : ∃ p, p = (backB (x.drop 11)).1 := ⟨_, rfl⟩
  obtain ⟨po, hpo⟩ : ∃ p, p = (backB (x.drop 1)).2 := ⟨_, rfl⟩
  obtain ⟨so, hso⟩ : ∃ p, p = (backB (x.drop 11)).2 := ⟨_, rfl⟩
  have hew6 : ew < 65536 := by
    have h1 := unbe_lt hB9.all
    rw [hB9.length] at h1
    rw [hew]
    exact h1
  have CB1 : Hid (∀ W, Below w.heap.size w W → Calls Try.prog 60 #[.slice (some ⟨bx, o1, none⟩) (len - 1) k1] W fun e w' => e = .returned (.tuple #[.int .i64 p, .bool po]) ∧ W = w') := by
    intro W hW
    have := back_any W _ _ _ _ (hB1.keep hW (Nat.le_refl _)) (by omega)
    unfold GivesBack at this
    rw [← hp, ← hpo] at this
    exact this
  have CB11 : Hid (∀ W, Below w.heap.size w W → Calls Try.prog 60 #[.slice (some ⟨bx, o11, none⟩) (len - 11) k11] W fun e w' => e = .returned (.tuple #[.int .i64 s, .bool so]) ∧ W = w') := by
    intro W hW
    have := back_any W _ _ _ _ (hB11.keep hW (Nat.le_refl _)) (by omega)
    unfold GivesBack at this
    rw [← hs, ← hso] at this
    exact this
  have CJ : Hid (∀ W, Below w.heap.size w W → Calls Try.prog 39 #[.slice (some ⟨bx, o9, none⟩) 2 k9] W fun e w' => e = .returned (.int .u32 (ew : Int)) ∧ W = w') := by
    intro W hW
    have := join_any W _ _ _ _ (hB9.keep hW (Nat.le_refl _)) (by omega) (by omega)
    rw [← hew] at this
    exact this
  rw [← hx0, ← hp, ← hs, ← hew] at HF
  rw [← hx0] at hc0 g0
  have hlow : bits .and .u8 (x0 : Int) 1 = ((x0 % 2 : Nat) : Int) := u8_low x0 g0
  obtain ⟨tx, htx⟩ : ∃ tx, (bits .and .u8 (x0 : Int) 1 == 1) = tx := ⟨_, rfl⟩
  have htx2 : Hid (tx = decide (x0 % 2 = 1)) := by
    show tx = decide _
    rw [← htx, hlow]
    by_cases h1 : x0 % 2 = 1
    · rw [h1]; rfl
    · have : x0 % 2 = 0 := by omega
      rw [this]; rfl
  obtain ⟨m2, hm2'⟩ : ∃ m2, m2 = x0 / 2 := ⟨_, rfl⟩
  have hm2 : (x0 : Int) / 2 = (m2 : Int) := by omega
  rw [← hm2'] at HF
  have hi16 : IntKind.i16.wrap (ew : Int) = i16D ew := wrap_i16 ew hew6
  obtain ⟨ev, hev⟩ : ∃ ev, ev = i16D ew := ⟨_, rfl⟩
  have hevb : -32768 ≤ ev ∧ ev ≤ 32767 := by rw [hev]; unfold i16D; split <;> omega
  rw [← hev] at hi16 HF
  have HX := Lib.hid h
  clear h hxl hcell hx0 hB1 hB11 hB9 hp hs hpo hso hlow hm2' hew hev
  go_enter Try.func59, Try.ntmps59
  go_upto_region 1 with fail
  go_cut [3] from 4 (fun s3 wx => s3 = .pointer (some ⟨w.heap.size + 1, 0, none⟩) ∧ Hid (Two w 0 0 0 tx (m2 : Int) (.slice none 0 0) wx))
  case first =>
    go_region
    all_goals
      go_wp2
      go_meet
      case rel => exact ⟨by simp, two_new w tx (m2 : Int)⟩
  case rest =>
    obtain ⟨rfl, HT1⟩ := hcut
    clear hc0 htx
    have hk1 := HT1.out.bx.c1
    have hf1 := HT1.out.bx.free 1
    go_wp2_with fail
    refine (CB1.out _ HT1.out.bel).mono ?_
    rintro e w' ⟨rfl, rfl⟩
    go_upto_region 3 with fail
    obtain ⟨W2, hW2⟩ : ∃ W2, W2 = wc.setCell ⟨w.heap.size + 1, 1, none⟩ (.int .i64 p) := ⟨_, rfl⟩
    have HT2 : Hid (Two w p 0 0 tx (m2 : Int) (.slice none 0 0) W2) := by show Two _ _ _ _ _ _ _ _; rw [hW2]; exact HT1.out.s1 p
    rw [← hW2]
    clear hk1 hf1 hW2 hs1
    have hk2 := HT2.out.bx.c2
    have hf2 := HT2.out.bx.free 2
    go_wp2_with fail
    refine (CJ.out _ HT2.out.bel).mono ?_
    rintro e w' ⟨rfl, rfl⟩
    go_upto_region 4 with fail
    obtain ⟨W3, hW3⟩ : ∃ W3, W3 = W2.setCell ⟨w.heap.size + 1, 2, none⟩ (.int .i64 ev) := ⟨_, rfl⟩
    have HT3 : Hid (Two w p ev 0 tx (m2 : Int) (.slice none 0 0) W3) := by show Two _ _ _ _ _ _ _ _; rw [hW3]; exact HT2.out.s2 ev
    rw [← hW3]
    clear hk2 hf2 hW3 hs9
    have hk3 := HT3.out.bx.c3
    have hf3 := HT3.out.bx.free 3
    go_wp2_with fail
    refine (CB11.out _ HT3.out.bel).mono ?_
    rintro e w' ⟨rfl, rfl⟩
    go_upto_region 5 with fail
    obtain ⟨W4, hW4⟩ : ∃ W4, W4 = W3.setCell ⟨w.heap.size + 1, 3, none⟩ (.int .i64 s) := ⟨_, rfl⟩
    have HT4 : Hid (Two w p ev s tx (m2 : Int) (.slice none 0 0) W4) := by show Two _ _ _ _ _ _ _ _; rw [hW4]; exact HT3.out.s3 s
    rw [← hW4]
    clear hk3 hf3 hW4 hs11
    have p0 := HT4.out.bx.c0
    have p1 := HT4.out.bx.c1
    have p2 := HT4.out.bx.c2
    have p3 := HT4.out.bx.c3
    have p4 := HT4.out.bx.c4
    have p5 := HT4.out.bx.c5
    have p6 := HT4.out.bx.c6
    have r0 := HT4.out.rs.c0
    have q0 := HT4.out.rs.free 0
    have r1 := HT4.out.rs.c1
    have q1 := HT4.out.rs.free 1
    have r2 := HT4.out.rs.c2
    have q2 := HT4.out.rs.free 2
    have r3 := HT4.out.rs.c3
    have q3 := HT4.out.rs.free 3
    have r4 := HT4.out.rs.c4
    have q4 := HT4.out.rs.free 4
    have r5 := HT4.out.rs.c5
    have q5 := HT4.out.rs.free 5
    have r6 := HT4.out.rs.c6
    have q6 := HT4.out.rs.free 6
    go_wp2
    exact bodyPost_ret (resultsFields (((((((HT4.out.rs.s0 0).s1 p).s2 ev).s3 s).s4 tx).s5 (m2 : Int)).s6 (.slice none 0 0)) rfl) rfl (HF.out p ev s tx (m2 : Int) rfl rfl rfl htx2.out rfl _ (((((((HT4.out.bel.setCell (Nat.le_refl _) _).setCell (Nat.le_refl _) _).setCell (Nat.le_refl _) _).setCell (Nat.le_refl _) _).setCell (Nat.le_refl _) _).setCell (Nat.le_refl _) _).setCell (Nat.le_refl _) _))
end Go.Proofs.Ytlpmfhccfihnfaa
