/- The code's own batch, chapter 6: Bytes. -/
import Derived.Test.YtlpmfhccfihnfaaBatCode5
import Derived.Test.YtlpmfhccfihnfaaCrcSeal
namespace Go.Proofs.Ytlpmfhccfihnfaa
open Go.RowKit
open Go.SeqMath
open Go.BatMath hiding AllB getD_lt take_all
open Go.VarMath (longB length_longB textB beB length_beB)
open Go.CrcMath (sealB)
set_option linter.unusedVariables false

set_option maxRecDepth 100000 in
set_option maxHeartbeats 1000000 in
theorem batBytes_any (w : World) (b : Bat) (ad : Option Addr) (len cap : Nat) (hr : RecsAt w ad len cap b.recs) (ht : TextsOk b.recs) (hL : len ≤ 140737488355328) (hp : b.prod ≤ 9223372036854775807) :
    Calls Try.prog 18 #[.agg #[.int .i64 b.base, .int .i64 b.prod, .int .i64 b.epoch, .int .i64 b.seq, .bool b.txn, .int .i64 b.marker, .slice ad len cap]] w (GivesBytes w (rightE b) (bytesB b)) := by
  have CP : Hid (∀ W, Below w.heap.size w W → Calls Try.prog 26 #[.agg #[.int .i64 b.base, .int .i64 b.prod, .int .i64 b.epoch, .int .i64 b.seq, .bool b.txn, .int .i64 b.marker, .slice ad len cap]] W (Says (rightE b) W)) := fun W hW => batRight_any W b ad len cap (hr.keep hW) ht hL
  have CB : Hid (rightE b = 0 → ∀ W, Below w.heap.size w W → Calls Try.prog 35 #[.agg #[.int .i64 b.base, .int .i64 b.prod, .int .i64 b.epoch, .int .i64 b.seq, .bool b.txn, .int .i64 b.marker, .slice ad len cap]] W (GivesRow W (bodyB b))) :=
    fun h W hW => body_any W b ad len cap (hr.keep hW) (ok_of h) hp
  have HY : Hid (rightE b = 0 → bytesB b = longB b.base ++ (beB 4 ((bodyB b).length + 4) ++ sealB (bodyB b)) ∧ (bytesB b).length = (bodyB b).length + 16 ∧ (bodyB b).length ≤ 2388 ∧ AllB (bodyB b) ∧ 0 ≤ b.base ∧ b.base ≤ 1099511627776) := by
    intro h
    have ho := ok_of h
    have h1 := ok_len ho
    have h2 := bytes_len b
    have h3 := body_len b
    refine ⟨?_, by omega, by omega, body_all ho, ho.base0, ho.base1⟩
    rw [← CrcMath.length_sealB]
    rfl
  obtain ⟨ev, hev⟩ : ∃ ev, ev = rightE b := ⟨_, rfl⟩
  rw [← hev] at CP CB HY ⊢
  obtain ⟨L, hLL⟩ : ∃ L, L = bytesB b := ⟨_, rfl⟩
  rw [← hLL] at HY ⊢
  obtain ⟨D, hD⟩ : ∃ D, D = bodyB b := ⟨_, rfl⟩
  rw [← hD] at HY CB
  clear hev hr ht hp hLL hL hD
  obtain ⟨base, prod, epoch, seq, txn, marker, recs⟩ := b
  simp only at CP CB HY ⊢
  obtain ⟨W0, hW0⟩ : ∃ W0, W0 = (w.alloc (.cells #[.int .i64 base, .int .i64 prod, .int .i64 epoch, .int .i64 seq, .bool txn, .int .i64 marker, .slice ad len cap] 24)) := ⟨_, rfl⟩
  have HX := Lib.hid (show BoxAt W0 w.heap.size base prod epoch seq txn marker (.slice ad len cap) by rw [hW0]; exact boxAt_new w _ _ _ _ _ _ _)
  have HB := Lib.hid (show Below w.heap.size w W0 by rw [hW0]; exact (Below.refl _ _).alloc (Nat.le_refl _) _)
  have HW0 := Lib.hid hW0
  clear hW0
  go_enter Try.func18, Try.ntmps18
  go_wp2_with fail
  rw [← HW0.out]
  refine (CP.out W0 HB.out).mono ?_
  rintro e w1 ⟨rfl, hb⟩
  have HX1 := Lib.hid (HX.out.on hb)
  have HB1 := Lib.hid (HB.out.trans (hb.mono HB.out.size))
  have HBT := Lib.hid hb
  clear hb
  by_cases h0 : ev = 0
  · have h1 : (ev != 0) = false := by simpa using h0
    have H0 := Lib.hid h0
    obtain ⟨hy1, hy2, hy3, hy4, hy5, hy6⟩ := HY.out h0
    clear h0 HY
    obtain ⟨n, hn⟩ : ∃ n, n = D.length := ⟨_, rfl⟩
    rw [← hn] at hy1 hy2 hy3
    have HN := Lib.hid hn
    have HY1 := Lib.hid hy1
    have HY2 := Lib.hid hy2
    have HYA := Lib.hid hy4
    clear hn hy1 hy2 hy4
    have hc0 := HX1.out.c0
    have hc1 := HX1.out.c1
    have hc2 := HX1.out.c2
    have hc3 := HX1.out.c3
    have hc4 := HX1.out.c4
    have hc5 := HX1.out.c5
    have hc6 := HX1.out.c6
    go_wp2_with fail
    refine (CB.out H0.out w1 HB1.out).mono ?_
    rintro e w2 hg
    obtain ⟨g2, k2, rfl, ho2, hb2, hbb2⟩ := gives_on hg HB1.out HN.out.symm
    clear hg hc0 hc1 hc2 hc3 hc4 hc5 hc6
    have HROW2 := Lib.hid (owns_row ho2.out HYA.out)
    go_wp2_with fail
    refine (crcPut_any w2 _ n k2 D HROW2.out.1 (by omega)).mono ?_
    rintro e w3 ⟨g3, rfl, hg3, ho3, hb3⟩
    obtain ⟨m, hm⟩ : ∃ m, m = n + 4 := ⟨_, rfl⟩
    rw [← hm]
    have hHN := HN.out
    have hy3 := ho3.byt (CrcMath.sealB_all HYA.out) m (by rw [CrcMath.length_sealB, ← hHN]; omega)
    rw [CrcMath.length_sealB, ← hHN, ← hm] at hy3
    have HY3 := Lib.hid hy3
    have HB3 : Hid (Below w.heap.size w w3) := hb2.out.trans (hb3.mono hb2.out.size)
    have HX3 := Lib.hid (HX.out.on (HBT.out.trans ((hbb2.out.trans (hb3.mono hbb2.out.size)).mono HBT.out.size)))
    have hm4 : m ≤ 2392 := by omega
    have HM : Hid (n + 4 = m) := hm.symm
    clear hm hHN hy3 ho3 hb3 hg3 hb2 hbb2 ho2 HROW2
    have hc0 := HX3.out.c0
    go_wp2_with fail
    refine (long_any w3 none 0 0 [] base ⟨Byt.nil w3, fun _ => rfl⟩ (by omega) (by omega) (by omega)).mono ?_
    rintro e w4 hg
    obtain ⟨g4, k4, rfl, ho4, hb4, hbb4⟩ := gives_on hg (Below.refl _ _) (n := 8) (by simp [length_longB])
    clear hg hc0 hbb4
    have HY4 := Lib.hid (HY3.out.keep hb4.out (Nat.le_refl _))
    have hwr : IntKind.u32.wrap (m : Int) = (m : Int) := by simp [IntKind.wrap, IntKind.bits, IntKind.signed]; omega
    go_wp2_with fail
    refine (split4_any _ m (by omega)).mono ?_
    rintro e w5 hg
    obtain ⟨g5, k5, rfl, ho5, hb5, hbb5⟩ := gives_on hg (Below.refl _ _) (n := 4) (length_beB 4 m)
    clear hg hbb5 hwr
    have HO5 := Lib.hid (owns_keep ho4.out hb5.out (Nat.le_refl _))
    have HB5 : Hid (Below w3.heap.size w3 w5) := hb4.out.trans (hb5.out.mono hb4.out.size)
    have HROW5 := Lib.hid (owns_row ho5.out (VarMath.beB_all 4 m))
    have HY5 := Lib.hid (HY4.out.keep hb5.out (Nat.le_refl _))
    clear ho4 hb4 ho5 hb5
    go_wp2_with (at_builtin; refine append_row rfl (.tmp 18) (.tmp 22) rfl w3.heap.size 8 ([] ++ longB base) (beB 4 m) _ rfl HO5.out (some_ne _ _ _) HB5.out.size _ _ _ rfl HROW5.out (by omega) w3 HB5.out ?_)
    intro g6 k6 w6 ho6 hb6
    have HO6 := Lib.hid ho6
    have HB6 := Lib.hid hb6
    have HY6 := Lib.hid (HY3.out.keep hb6 (Nat.le_refl _))
    clear ho6 hb6
    go_wp2_with (at_builtin; refine append_row rfl (.tmp 24) (.tmp 25) rfl w3.heap.size 12 (longB base ++ beB 4 m) (sealB D) _ rfl HO6.out (some_ne _ _ _) HB6.out.size _ _ _ rfl ⟨HY6.out, fun h => by cases h⟩ (by omega) w3 HB6.out ?_)
    intro g7 k7 w7 ho7 hb7
    have HFIN : Hid (longB base ++ beB 4 m ++ sealB D = L) := by
      show _ = _
      rw [HY1.out, HM.out]
      simp
    have hlen : L.length = 12 + m := by rw [HY2.out]; have := HM.out; omega
    have hfe : w7.ownsRow w3.heap.size 5 1 (.slice (some ⟨g7, 0, none⟩) (12 + m) k7) (12 + m) (vals L) := by
      rw [← HFIN.out]
      exact ho7
    have HO7 := Lib.hid (owns_low hfe HB3.out.size)
    have HB7 := Lib.hid (HB3.out.trans (hb7.mono HB3.out.size))
    have HLEN := Lib.hid hlen
    clear hfe ho7 hb7 hlen
    go_wp2
    go_ret2
    have h7 := HO7.out
    rw [← HLEN.out] at h7 ⊢
    exact gives_bytes H0.out h7 HB7.out
  · have h1 : (ev != 0) = true := by simpa using h0
    have H0 := Lib.hid h0
    clear h0
    go_wp2
    go_ret2
    exact gives_none H0.out HB1.out
end Go.Proofs.Ytlpmfhccfihnfaa
