/- The document's own Recs, Same of chapter 6. -/
import Derived.Test.YtlpmfhccfihnfaaBatPlain2
import Derived.BigQuiet
namespace Go.Proofs.Ytlpmfhccfihnfaa
open Go.RowKit
open Go.SeqMath
open Go.BatMath
set_option linter.unusedVariables false

theorem bel_drewN {B : Nat} {a w : World} (h : Below B a w) (n : Nat) : Below B a (w.drewN n) := h.trans ⟨rfl, rfl, rfl, Nat.le_refl _, fun _ _ => rfl⟩
def SaysB (r : Bool) (w : World) (e : Ending) (w' : World) : Prop := e = .returned (.bool r) ∧ Below w.heap.size w w'
theorem saysB_mk {r s : Bool} {w w' : World} (h : s = r) (hb : Below w.heap.size w w') : SaysB r w (.returned (.bool s)) w' := ⟨by rw [h], hb⟩
/-- What stands before round j of the loop over two lists of records. -/
def SameAt (w : World) (l m : List Rc) (v : Value) (wr : World) : Prop := ∃ j : Nat, j ≤ l.length ∧ v = .int .i64 j ∧ l.take j = m.take j ∧ Below w.heap.size w wr
theorem ba_toList_inj {s t : ByteArray} (h : s.toList = t.toList) : s = t := by
  rw [ByteArray.toList_eq, ByteArray.toList_eq] at h
  cases s; cases t
  simp only at h
  rw [Array.toList_inj.1 h]
theorem ba_ne {s t : ByteArray} (h : s ≠ t) : (s.toList == t.toList) = false := by
  rw [beq_eq_false_iff_ne]
  exact fun e => h (ba_toList_inj e)
theorem ba_eq (s : ByteArray) : (s.toList == s.toList) = true := by simp
theorem RecsAt.at {w W : World} {ad : Option Addr} {len cap : Nat} {l : List Rc} (h : RecsAt w ad len cap l) (hb : Below w.heap.size w W) (j : Nat) (hj : j < len) :
    ∃ bk off r, ad = some ⟨bk, off, none⟩ ∧ bk < w.heap.size ∧ l[j]? = some r ∧ W.cell? ⟨bk, off + j * 2, none⟩ = some (.string r.key) ∧ W.cell? ⟨bk, off + j * 2 + 1, none⟩ = some (.string r.val) := by
  have hl := h.length
  have hjl : j < l.length := by omega
  rcases h.cells with h0 | ⟨bk, off, e, hlt, hc⟩
  · omega
  · have hi : l[j]? = some (l[j]'hjl) := List.getElem?_eq_getElem hjl
    obtain ⟨h1, h2⟩ := hc j _ hi
    exact ⟨bk, off, _, e, hlt, hi, (hb.cell (p := ⟨bk, _, none⟩) hlt).trans h1, (hb.cell (p := ⟨bk, _, none⟩) hlt).trans h2⟩
theorem take_same {l m : List Rc} {j : Nat} {r : Rc} (h : l.take j = m.take j) (hl : l[j]? = some r) (hm : m[j]? = some r) : l.take (j + 1) = m.take (j + 1) := by
  obtain ⟨h1, e1⟩ := List.getElem?_eq_some_iff.1 hl
  obtain ⟨h2, e2⟩ := List.getElem?_eq_some_iff.1 hm
  rw [List.take_succ_eq_append_getElem h1, List.take_succ_eq_append_getElem h2, h, e1, e2]
set_option maxRecDepth 100000 in
set_option maxHeartbeats 1000000 in
theorem refRecs_any (w : World) (a1 a2 : Option Addr) (n1 n2 c1 c2 : Nat) (l1 l2 : List Rc) (h1 : RecsAt w a1 n1 c1 l1) (h2 : RecsAt w a2 n2 c2 l2) (hL : n1 ≤ 140737488355328) (r : Bool) (hr : r = true ↔ l1 = l2) :
    Calls Try.prog 33 #[.slice a1 n1 c1, .slice a2 n2 c2] w (SaysB r w) := by
  have q1 := h1.length
  have q2 := h2.length
  have H1 := Lib.hid h1
  have H2 := Lib.hid h2
  have HR := Lib.hid hr
  have Q1 := Lib.hid q1
  have Q2 := Lib.hid q2
  clear h1 h2 hr q1 q2
  by_cases hn : n1 = n2
  · subst hn
    go_enter Try.func33, Try.ntmps33
    go_wp2_with fail
    go_loopw [13] (fun v13 wr => SameAt w l1 l2 v13 wr) (fun v13 _ => n1 - (intOf v13).toNat)
    case atStart => exact ⟨0, Nat.zero_le _, rfl, rfl, Below.refl _ _⟩
    case round =>
      obtain ⟨j, hj, rfl, htk, hbel⟩ := hrel
      have HBEL := Lib.hid hbel
      have HTK := Lib.hid htk
      rw [Q1.out] at hj
      clear hbel htk
      by_cases hlt : j < n1
      · obtain ⟨b1, o1, r1, rfl, hb1, hi1, hk1, hv1⟩ := H1.out.at HBEL.out j hlt
        obtain ⟨b2, o2, r2, rfl, hb2, hi2, hk2, hv2⟩ := H2.out.at HBEL.out j hlt
        have HI1 := Lib.hid hi1
        have HI2 := Lib.hid hi2
        clear hi1 hi2
        by_cases he : r1 = r2
        · subst he
          obtain ⟨k1, v1⟩ := r1
          simp only at hk1 hv1 hk2 hv2
          have HLE : Hid (j + 1 ≤ l1.length) := by show _ ≤ _; rw [Q1.out]; exact hlt
          have HT2 := Lib.hid (take_same HTK.out HI1.out HI2.out)
          go_wp2_with fail
          go_quiet (fail)
          go_wp2
          go_roundw
          case rel => exact ⟨j + 1, HLE.out, by go_num, HT2.out, bel_drewN HBEL.out _⟩
          case measure => simp [intOf]; omega
        · have HE : Hid (r1 ≠ r2) := he
          obtain ⟨k1, v1⟩ := r1
          obtain ⟨k2, v2⟩ := r2
          simp only at hk1 hv1 hk2 hv2
          have hfin : Hid (false = r) := by
            show false = r
            cases r
            · rfl
            · have e := HR.out.1 rfl
              have a := HI1.out
              rw [e, HI2.out] at a
              exact absurd (Option.some.inj a).symm HE.out
          by_cases hk : k1 = k2
          · subst hk
            have hv : v1 ≠ v2 := fun e => he (by rw [e])
            have hvv := ba_ne hv
            clear he hv
            go_wp2_with fail
            go_quiet (fail)
            go_wp2
            go_ret
            exact saysB_mk hfin.out (bel_drewN HBEL.out _)
          · have hkk := ba_ne hk
            clear he hk
            go_wp2_with fail
            go_quiet (fail)
            go_wp2
            go_ret
            exact saysB_mk hfin.out (bel_drewN HBEL.out _)
      · obtain rfl : j = n1 := by omega
        have hfin : Hid (true = r) := by
          show true = r
          have := HTK.out
          rw [List.take_of_length_le (by rw [Q1.out]; exact Nat.le_refl _), List.take_of_length_le (by rw [Q2.out]; exact Nat.le_refl _)] at this
          exact (HR.out.2 this).symm
        go_wp2
        go_ret
        exact saysB_mk hfin.out HBEL.out
  · have hn1 : ((n1 : Int) != (n2 : Int)) = true := by simp; omega
    have hfin : Hid (false = r) := by
      show false = r
      cases r
      · rfl
      · have e := HR.out.1 rfl
        exact absurd (by rw [← Q1.out, ← Q2.out, e]) hn
    go_enter Try.func33, Try.ntmps33
    go_wp2
    go_ret
    exact saysB_mk hfin.out (Below.refl _ _)
set_option maxRecDepth 100000 in
set_option maxHeartbeats 1000000 in
theorem refSame_any (w : World) (x y : Bat) (ad1 ad2 : Option Addr) (n1 n2 c1 c2 : Nat) (h1 : RecsAt w ad1 n1 c1 x.recs) (h2 : RecsAt w ad2 n2 c2 y.recs) (hL : n1 ≤ 140737488355328) (r : Bool) (hr : r = true ↔ x = y) :
    Calls Try.prog 17 #[.agg #[.int .i64 x.base, .int .i64 x.prod, .int .i64 x.epoch, .int .i64 x.seq, .bool x.txn, .int .i64 x.marker, .slice ad1 n1 c1], .agg #[.int .i64 y.base, .int .i64 y.prod, .int .i64 y.epoch, .int .i64 y.seq, .bool y.txn, .int .i64 y.marker, .slice ad2 n2 c2]] w (SaysB r w) := by
  have HF : Hid (x ≠ y → false = r) := by
    intro h
    cases r
    · rfl
    · exact absurd (hr.1 rfl) h
  obtain ⟨a0, a1, a2, a3, a4, a5, l1⟩ := x
  obtain ⟨b0, b1, b2, b3, b4, b5, l2⟩ := y
  simp only at h1 h2 ⊢
  have H1 := Lib.hid h1
  have H2 := Lib.hid h2
  have HR := Lib.hid hr
  have HBB : ∀ {p q r s t u v p' q' r' s' t' u' v' : Value}, Hid (Below w.heap.size w ((w.alloc (.cells #[p, q, r, s, t, u, v] 24)).alloc (.cells #[p', q', r', s', t', u', v'] 24))) := ((Below.refl _ _).alloc (Nat.le_refl _) _).alloc (by simp) _
  clear h1 h2 hr
  by_cases h0 : a0 = b0
  · subst h0
    by_cases h1 : a1 = b1
    · subst h1
      by_cases h2 : a2 = b2
      · subst h2
        by_cases h3 : a3 = b3
        · subst h3
          by_cases h4 : a4 = b4
          · subst h4
            by_cases h5 : a5 = b5
            · subst h5
              have hrr : Hid (r = true ↔ l1 = l2) := by
                show r = true ↔ l1 = l2
                rw [HR.out]
                exact ⟨fun h => by have := congrArg Bat.recs h; exact this, fun h => by rw [h]⟩
              cases a4
              all_goals
                go_enter Try.func17, Try.ntmps17
                go_wp2_with fail
                refine (refRecs_any _ _ _ _ _ _ _ l1 l2 (H1.out.keep (HBB.out)) (H2.out.keep (HBB.out)) hL r hrr.out).mono ?_
                rintro e w1 ⟨rfl, hb⟩
                have HB1 := Lib.hid (HBB.out.trans (hb.mono HBB.out.size))
                clear hb
                go_wp2
                go_ret
                exact saysB_mk rfl HB1.out
            · have e5 : (a5 == b5) = false := by simpa using h5
              have hfin : Hid (false = r) := HF.out (fun h => h5 (by have := congrArg Bat.marker h; exact this))
              clear h5
              cases a4
              all_goals
                go_enter Try.func17, Try.ntmps17
                go_wp2
                go_ret
                exact saysB_mk hfin.out HBB.out
          · have hfin : Hid (false = r) := HF.out (fun h => h4 (by have := congrArg Bat.txn h; exact this))
            cases a4
            · cases b4
              · exact absurd rfl h4
              · go_enter Try.func17, Try.ntmps17
                go_wp2
                go_ret
                exact saysB_mk hfin.out HBB.out
            · cases b4
              · go_enter Try.func17, Try.ntmps17
                go_wp2
                go_ret
                exact saysB_mk hfin.out HBB.out
              · exact absurd rfl h4
        · have e3 : (a3 == b3) = false := by simpa using h3
          have hfin : Hid (false = r) := HF.out (fun h => h3 (by have := congrArg Bat.seq h; exact this))
          clear h3
          go_enter Try.func17, Try.ntmps17
          go_wp2
          go_ret
          exact saysB_mk hfin.out HBB.out
      · have e2 : (a2 == b2) = false := by simpa using h2
        have hfin : Hid (false = r) := HF.out (fun h => h2 (by have := congrArg Bat.epoch h; exact this))
        clear h2
        go_enter Try.func17, Try.ntmps17
        go_wp2
        go_ret
        exact saysB_mk hfin.out HBB.out
    · have e1 : (a1 == b1) = false := by simpa using h1
      have hfin : Hid (false = r) := HF.out (fun h => h1 (by have := congrArg Bat.prod h; exact this))
      clear h1
      go_enter Try.func17, Try.ntmps17
      go_wp2
      go_ret
      exact saysB_mk hfin.out HBB.out
  · have e0 : (a0 == b0) = false := by simpa using h0
    have hfin : Hid (false = r) := HF.out (fun h => h0 (by have := congrArg Bat.base h; exact this))
    clear h0
    go_enter Try.func17, Try.ntmps17
    go_wp2
    go_ret
    exact saysB_mk hfin.out HBB.out
end Go.Proofs.Ytlpmfhccfihnfaa
