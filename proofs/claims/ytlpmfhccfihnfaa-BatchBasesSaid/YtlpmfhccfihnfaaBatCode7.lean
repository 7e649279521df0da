/- The code's own batch, chapter 6: Same. -/
import Derived.Test.YtlpmfhccfihnfaaBatSame
namespace Go.Proofs.Ytlpmfhccfihnfaa
open Go.RowKit
open Go.SeqMath
open Go.BatMath
set_option linter.unusedVariables false

set_option maxRecDepth 100000 in
set_option maxHeartbeats 2000000 in
theorem batSame_any (w : World) (x y : Bat) (ad1 ad2 : Option Addr) (n1 n2 c1 c2 : Nat) (h1 : RecsAt w ad1 n1 c1 x.recs) (h2 : RecsAt w ad2 n2 c2 y.recs) (hL : n1 ≤ 140737488355328) (r : Bool) (hr : r = true ↔ x = y) :
    Calls Try.prog 16 #[.agg #[.int .i64 x.base, .int .i64 x.prod, .int .i64 x.epoch, .int .i64 x.seq, .bool x.txn, .int .i64 x.marker, .slice ad1 n1 c1], .agg #[.int .i64 y.base, .int .i64 y.prod, .int .i64 y.epoch, .int .i64 y.seq, .bool y.txn, .int .i64 y.marker, .slice ad2 n2 c2]] w (SaysB r w) := by
  have HF : Hid (x ≠ y → false = r) := by
    intro h
    cases r
    · rfl
    · exact absurd (hr.1 rfl) h
  obtain ⟨a0, a1, a2, a3, a4, a5, l1⟩ := x
  obtain ⟨b0, b1, b2, b3, b4, b5, l2⟩ := y
  simp only at h1 h2 ⊢
  have q1 := h1.length
  have q2 := h2.length
  have H1 := Lib.hid h1
  have H2 := Lib.hid h2
  have HR := Lib.hid hr
  have Q1 := Lib.hid q1
  have Q2 := Lib.hid q2
  have HBB : ∀ {p q r s t u v p' q' r' s' t' u' v' : Value}, Hid (Below w.heap.size w ((w.alloc (.cells #[p, q, r, s, t, u, v] 24)).alloc (.cells #[p', q', r', s', t', u', v'] 24))) := ((Below.refl _ _).alloc (Nat.le_refl _) _).alloc (by simp) _
  clear h1 h2 hr q1 q2
  by_cases h0 : a0 = b0
  · subst h0
    by_cases h1 : a1 = b1
    · subst h1
      by_cases h2 : a2 = b2
      · subst h2
        by_cases h3 : a3 = b3
        · subst h3
          by_cases h4 : a4 = b4
          · subst h4
            by_cases h5 : a5 = b5
            · subst h5
              have hrr : Hid (r = true ↔ l1 = l2) := by
                show r = true ↔ l1 = l2
                rw [HR.out]
                exact ⟨fun h => by have := congrArg Bat.recs h; exact this, fun h => by rw [h]⟩
              by_cases hn : n1 = n2
              · subst hn
                obtain ⟨W0, hW0⟩ : ∃ W0, W0 = ((w.alloc (.cells #[.int .i64 a0, .int .i64 a1, .int .i64 a2, .int .i64 a3, .bool a4, .int .i64 a5, .slice ad1 n1 c1] 24)).alloc (.cells #[.int .i64 a0, .int .i64 a1, .int .i64 a2, .int .i64 a3, .bool a4, .int .i64 a5, .slice ad2 n1 c2] 24)) := ⟨_, rfl⟩
                have HB0 : Hid (Below w.heap.size w W0) := by show Below _ _ _; rw [hW0]; exact HBB.out
                have HX0 : Hid (BoxAt W0 (w.heap.size + 1) a0 a1 a2 a3 a4 a5 (.slice ad2 n1 c2)) := by
                  show BoxAt _ _ _ _ _ _ _ _ _
                  rw [hW0]
                  have := boxAt_new (w.alloc (.cells #[.int .i64 a0, .int .i64 a1, .int .i64 a2, .int .i64 a3, .bool a4, .int .i64 a5, .slice ad1 n1 c1] 24)) a0 a1 a2 a3 a4 a5 (.slice ad2 n1 c2)
                  simpa using this
                have HW0 := Lib.hid hW0
                clear hW0
                have K1 := Lib.hid (H1.out.keep HB0.out)
                have K2 := Lib.hid (H2.out.keep HB0.out)
                cases a4
                all_goals
                  go_enter Try.func16, Try.ntmps16
                  go_wp2_with fail
                  rw [← HW0.out]
                  go_loopw [57] (fun v57 wr => SameAt W0 l1 l2 v57 wr) (fun v57 _ => n1 - (intOf v57).toNat)
                  case atStart => exact ⟨0, Nat.zero_le _, rfl, rfl, Below.refl _ _⟩
                  case round =>
                    obtain ⟨j, hj, rfl, htk, hbel⟩ := hrel
                    have HBEL := Lib.hid hbel
                    have HTK := Lib.hid htk
                    rw [Q1.out] at hj
                    clear hbel htk
                    have HXR := Lib.hid (HX0.out.on HBEL.out)
                    by_cases hlt : j < n1
                    · obtain ⟨k1, o1, r1, rfl, hb1, hi1, hk1, hv1⟩ := K1.out.at HBEL.out j hlt
                      obtain ⟨k2, o2, r2, rfl, hb2, hi2, hk2, hv2⟩ := K2.out.at HBEL.out j hlt
                      have hc6 := HXR.out.c6
                      have hbl := HXR.out.lt
                      have hbs := HBEL.out.size
                      have hk2l : k2 < wr.heap.size := by omega
                      have HI1 := Lib.hid hi1
                      have HI2 := Lib.hid hi2
                      clear hi1 hi2
                      by_cases he : r1 = r2
                      · subst he
                        obtain ⟨ks1, vs1⟩ := r1
                        simp only at hk1 hv1 hk2 hv2
                        have HLE : Hid (j + 1 ≤ l1.length) := by show _ ≤ _; rw [Q1.out]; exact hlt
                        have HT2 := Lib.hid (take_same HTK.out HI1.out HI2.out)
                        go_wp2_with fail
                        go_quiet (fail)
                        go_wp2
                        go_roundw
                        case rel => exact ⟨j + 1, HLE.out, by go_num, HT2.out, bel_drewN (HBEL.out.alloc HBEL.out.size _) _⟩
                        case measure => simp [intOf]; omega
                      · have HE : Hid (r1 ≠ r2) := he
                        obtain ⟨ks1, vs1⟩ := r1
                        obtain ⟨ks2, vs2⟩ := r2
                        simp only at hk1 hv1 hk2 hv2
                        have hfin : Hid (false = r) := by
                          show false = r
                          cases r
                          · rfl
                          · have e := hrr.out.1 rfl
                            have a := HI1.out
                            rw [e, HI2.out] at a
                            exact absurd (Option.some.inj a).symm HE.out
                        by_cases hk : ks1 = ks2
                        · subst hk
                          have hv : vs1 ≠ vs2 := fun e => he (by rw [e])
                          have hvv := ba_ne hv
                          clear he hv
                          go_wp2_with fail
                          go_quiet (fail)
                          go_wp2
                          go_ret
                          exact saysB_mk hfin.out (HB0.out.trans ((bel_drewN (HBEL.out.alloc HBEL.out.size _) _).mono HB0.out.size))
                        · have hkk := ba_ne hk
                          clear he hk
                          go_wp2_with fail
                          go_quiet (fail)
                          go_wp2
                          go_ret
                          exact saysB_mk hfin.out (HB0.out.trans ((bel_drewN (HBEL.out.alloc HBEL.out.size _) _).mono HB0.out.size))
                    · obtain rfl : j = n1 := by omega
                      have hfin : Hid (true = r) := by
                        show true = r
                        have := HTK.out
                        rw [List.take_of_length_le (by rw [Q1.out]; exact Nat.le_refl _), List.take_of_length_le (by rw [Q2.out]; exact Nat.le_refl _)] at this
                        exact (hrr.out.2 this).symm
                      go_wp2
                      go_ret
                      exact saysB_mk hfin.out (HB0.out.trans (HBEL.out.mono HB0.out.size))
              · have hn1 : ((n1 : Int) != (n2 : Int)) = true := by simp; omega
                have hfin : Hid (false = r) := by
                  show false = r
                  cases r
                  · rfl
                  · have e := hrr.out.1 rfl
                    exact absurd (by rw [← Q1.out, ← Q2.out, e]) hn
                cases a4
                all_goals
                  go_enter Try.func16, Try.ntmps16
                  go_wp2
                  go_ret
                  exact saysB_mk hfin.out HBB.out
            · have e5 : (a5 != b5) = true := by simpa using h5
              have hfin : Hid (false = r) := HF.out (fun h => h5 (by have := congrArg Bat.marker h; exact this))
              clear h5
              cases a4
              all_goals
                go_enter Try.func16, Try.ntmps16
                go_wp2
                go_ret
                exact saysB_mk hfin.out HBB.out
          · have hfin : Hid (false = r) := HF.out (fun h => h4 (by have := congrArg Bat.txn h; exact this))
            cases a4
            · cases b4
              · exact absurd rfl h4
              · go_enter Try.func16, Try.ntmps16
                go_wp2
                go_ret
                exact saysB_mk hfin.out HBB.out
            · cases b4
              · go_enter Try.func16, Try.ntmps16
                go_wp2
                go_ret
                exact saysB_mk hfin.out HBB.out
              · exact absurd rfl h4
        · have e3 : (a3 != b3) = true := by simpa using h3
          have hfin : Hid (false = r) := HF.out (fun h => h3 (by have := congrArg Bat.seq h; exact this))
          clear h3
          go_enter Try.func16, Try.ntmps16
          go_wp2
          go_ret
          exact saysB_mk hfin.out HBB.out
      · have e2 : (a2 != b2) = true := by simpa using h2
        have hfin : Hid (false = r) := HF.out (fun h => h2 (by have := congrArg Bat.epoch h; exact this))
        clear h2
        go_enter Try.func16, Try.ntmps16
        go_wp2
        go_ret
        exact saysB_mk hfin.out HBB.out
    · have e1 : (a1 != b1) = true := by simpa using h1
      have hfin : Hid (false = r) := HF.out (fun h => h1 (by have := congrArg Bat.prod h; exact this))
      clear h1
      go_enter Try.func16, Try.ntmps16
      go_wp2
      go_ret
      exact saysB_mk hfin.out HBB.out
  · have e0 : (a0 != b0) = true := by simpa using h0
    have hfin : Hid (false = r) := HF.out (fun h => h0 (by have := congrArg Bat.base h; exact this))
    clear h0
    go_enter Try.func16, Try.ntmps16
    go_wp2
    go_ret
    exact saysB_mk hfin.out HBB.out
end Go.Proofs.Ytlpmfhccfihnfaa
