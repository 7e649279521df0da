/- The document's own 'plain' of chapter 6: data. -/
import Derived.Test.YtlpmfhccfihnfaaBatPlain
import Derived.Deep.Cut
import Derived.Deep.CutRange
namespace Go.Proofs.Ytlpmfhccfihnfaa
open Go.RowKit
open Go.SeqMath
open Go.BatMath
set_option linter.unusedVariables false

def TextsOk (l : List Rc) : Prop := ∀ r ∈ l, r.key.size ≤ 140737488355328 ∧ r.val.size ≤ 140737488355328
/-- What stands before round j of the loop over the records. -/
def PlainAt (w : World) (l : List Rc) (v : Value) (wr : World) : Prop := ∃ j : Nat, j ≤ l.length ∧ v = .int .i64 j ∧ (∀ i r, i < j → l[i]? = some r → ¬ longRec r) ∧ Below w.heap.size w wr
theorem plainAt_start (w W : World) (l : List Rc) (h : Below w.heap.size w W) : PlainAt w l (.int .i64 0) W := ⟨0, Nat.zero_le _, rfl, fun i r hi => by omega, h⟩
theorem not_long {l : List Rc} (h : ∀ i r, i < l.length → l[i]? = some r → ¬ longRec r) : ¬ ∃ r ∈ l, longRec r := by
  rintro ⟨r, hr, hl⟩
  obtain ⟨i, hi, rfl⟩ := List.getElem_of_mem hr
  exact h i _ hi (List.getElem?_eq_getElem hi) hl
theorem none_no {b : Bat} (h : noneB b = false) : b.prod ≠ -1 ∨ b.epoch ≠ -1 ∨ b.seq ≠ -1 ∨ b.txn = true := by
  by_cases h1 : b.prod = -1
  · by_cases h2 : b.epoch = -1
    · by_cases h3 : b.seq = -1
      · cases h4 : b.txn
        · simp [noneB, h1, h2, h3, h4] at h
        · exact .inr (.inr (.inr rfl))
      · exact .inr (.inr (.inl h3))
    · exact .inr (.inl h2)
  · exact .inl h1
set_option maxRecDepth 100000 in
set_option maxHeartbeats 2000000 in
theorem plain_data (w : World) (b : Bat) (ad : Option Addr) (cap : Nat) (hr : RecsAt w ad b.recs.length cap b.recs) (ht : TextsOk b.recs) (h0 : 0 ≤ b.base) (h1 : b.base ≤ 1099511627776) (hm : b.marker = 0) (hL : b.recs.length ≤ 140737488355328) :
    Calls Try.prog 48 #[.agg #[.int .i64 b.base, .int .i64 b.prod, .int .i64 b.epoch, .int .i64 b.seq, .bool b.txn, .int .i64 b.marker, .slice ad b.recs.length cap]] w (Says (rightE b) w) := by
  have hne : (b.recs ≠ []) = (0 < b.recs.length) := propext List.length_pos_iff.symm
  have e12 := e_data h0 h1 hm
  have e13 := e_long h0 h1 hm
  have e0 := e_fine h0 h1 hm
  rw [hne] at e12 e13 e0
  obtain ⟨ev, hev⟩ : ∃ ev, ev = rightE b := ⟨_, rfl⟩
  rw [← hev] at e12 e13 e0 ⊢
  have hh : (decide (0 ≤ b.prod) && (decide (0 ≤ b.epoch) && decide (b.epoch ≤ 32767))) = headB b := rfl
  have hnn : noneB b = true → b.prod = -1 ∧ b.epoch = -1 ∧ b.seq = -1 ∧ b.txn = false := none_of
  have hnf : noneB b = false → b.prod ≠ -1 ∨ b.epoch ≠ -1 ∨ b.seq ≠ -1 ∨ b.txn = true := none_no
  obtain ⟨hd, hdd⟩ : ∃ hd, hd = headB b := ⟨_, rfl⟩
  obtain ⟨nn, hnd⟩ : ∃ nn, nn = noneB b := ⟨_, rfl⟩
  rw [← hdd] at e12 e13 e0 hh
  rw [← hnd] at e12 e13 e0 hnn hnf
  clear hev hdd hnd hne
  obtain ⟨base, prod, epoch, seq, txn, marker, recs⟩ := b
  simp only at h0 h1 hm e12 e13 e0 hh hr ht hL hnn hnf ⊢
  obtain ⟨rt, hrt⟩ : ∃ rt, rightB seq = rt := ⟨_, rfl⟩
  rw [hrt] at e12 e13 e0
  obtain ⟨len, hlen⟩ : ∃ len, len = recs.length := ⟨_, rfl⟩
  rw [← hlen] at e12 e13 e0 hr hL ⊢
  have HH := Lib.hid hh
  have HRT := Lib.hid hrt
  have HN := Lib.hid hnn
  have HF := Lib.hid hnf
  have E12 := Lib.hid e12
  have E13 := Lib.hid e13
  have E0 := Lib.hid e0
  have HR := Lib.hid hr
  have HT := Lib.hid ht
  have HLEN := Lib.hid hlen
  clear hh hrt hnn hnf e12 e13 e0 hr ht hlen
  subst hm
  go_enter Try.func48, Try.ntmps48
  go_upto_region 7 with fail
  go_cut [3] from 6 (fun s3 wx => s3 = .bool nn ∧ Hid (BoxAt wx w.heap.size base prod epoch seq txn 0 (.slice ad len cap)) ∧ Hid (Below w.heap.size w wx))
  case first =>
    cases h1 : (prod == -1)
    · obtain rfl : nn = false := by
        cases nn
        · rfl
        · have := (HN.out rfl).1; subst this; cases h1
      go_wp2
      go_meet
      case rel => exact ⟨rfl, boxAt_new w _ _ _ _ _ _ _, (Below.refl _ _).alloc (Nat.le_refl _) _⟩
    · cases h2 : (epoch == -1)
      · obtain rfl : nn = false := by
          cases nn
          · rfl
          · have := (HN.out rfl).2.1; subst this; cases h2
        go_wp2
        go_meet
        case rel => exact ⟨rfl, boxAt_new w _ _ _ _ _ _ _, (Below.refl _ _).alloc (Nat.le_refl _) _⟩
      · cases h3 : (seq == -1)
        · obtain rfl : nn = false := by
            cases nn
            · rfl
            · have := (HN.out rfl).2.2.1; subst this; cases h3
          go_wp2
          go_meet
          case rel => exact ⟨rfl, boxAt_new w _ _ _ _ _ _ _, (Below.refl _ _).alloc (Nat.le_refl _) _⟩
        · cases txn
          · obtain rfl : nn = true := by
              cases nn
              · rcases HF.out rfl with h | h | h | h
                · exact absurd (by simpa using h1) h
                · exact absurd (by simpa using h2) h
                · exact absurd (by simpa using h3) h
                · cases h
              · rfl
            go_wp2
            go_meet
            case rel => exact ⟨rfl, boxAt_new w _ _ _ _ _ _ _, (Below.refl _ _).alloc (Nat.le_refl _) _⟩
          · obtain rfl : nn = false := by
              cases nn
              · rfl
              · have := (HN.out rfl).2.2.2; cases this
            go_wp2
            go_meet
            case rel => exact ⟨rfl, boxAt_new w _ _ _ _ _ _ _, (Below.refl _ _).alloc (Nat.le_refl _) _⟩
  case rest =>
    obtain ⟨rfl, HBX, HBW⟩ := hcut
    have hblt := HBX.out.lt
    have hc0 := HBX.out.c0
    have hc1 := HBX.out.c1
    have hc2 := HBX.out.c2
    have hc3 := HBX.out.c3
    have hc4 := HBX.out.c4
    have hc5 := HBX.out.c5
    have hc6 := HBX.out.c6
    go_upto_region 8 with fail
    go_cut [82] from 64 (fun s82 wx => s82 = .bool (!((nn || (hd && rt)) && decide (0 < len))) ∧ Hid (BoxAt wx w.heap.size base prod epoch seq txn 0 (.slice ad len cap)) ∧ Hid (Below w.heap.size w wx))
    case first =>
      cases nn
      · cases hd
        · go_wp2_with (go_at_call 68; refine (refHead_any _ _ _ _ _ _ _ _ _ _ false HH.out).mono ?_; rintro e w1 ⟨rfl, hb⟩; obtain ⟨hc, hf⟩ := bcell hb; have HB := Lib.hid hb; clear hb)
          go_meet
          case rel => exact ⟨by simp, HBX.out.on HB.out, HBW.out.trans (HB.out.mono HBW.out.size)⟩
        · cases rt
          · go_wp2_with (first | (go_at_call 68; refine (refHead_any _ _ _ _ _ _ _ _ _ _ true HH.out).mono ?_; rintro e w1 ⟨rfl, hb⟩; obtain ⟨hc, hf⟩ := bcell hb; have HB := Lib.hid hb; clear hb) | (go_at_call 69; refine (refSeq_any _ _ false HRT.out).mono ?_; rintro e w' ⟨rfl, rfl⟩))
            go_meet
            case rel => exact ⟨by simp, HBX.out.on HB.out, HBW.out.trans (HB.out.mono HBW.out.size)⟩
          · by_cases hl : 0 < len
            · have hz : ((len : Int) == 0) = false := by simp; omega
              have hz2 : decide (0 < len) = true := by simp [hl]
              have HZ2 := Lib.hid hz2
              clear hz2
              go_wp2_with (first | (go_at_call 68; refine (refHead_any _ _ _ _ _ _ _ _ _ _ true HH.out).mono ?_; rintro e w1 ⟨rfl, hb⟩; obtain ⟨hc, hf⟩ := bcell hb; have HB := Lib.hid hb; clear hb) | (go_at_call 69; refine (refSeq_any _ _ true HRT.out).mono ?_; rintro e w' ⟨rfl, rfl⟩))
              go_meet
              case rel => exact ⟨by rw [HZ2.out]; simp, HBX.out.on HB.out, HBW.out.trans (HB.out.mono HBW.out.size)⟩
            · obtain rfl : len = 0 := by omega
              clear hl
              go_wp2_with (first | (go_at_call 68; refine (refHead_any _ _ _ _ _ _ _ _ _ _ true HH.out).mono ?_; rintro e w1 ⟨rfl, hb⟩; obtain ⟨hc, hf⟩ := bcell hb; have HB := Lib.hid hb; clear hb) | (go_at_call 69; refine (refSeq_any _ _ true HRT.out).mono ?_; rintro e w' ⟨rfl, rfl⟩))
              go_meet
              case rel => exact ⟨by simp, HBX.out.on HB.out, HBW.out.trans (HB.out.mono HBW.out.size)⟩
      · by_cases hl : 0 < len
        · have hz : ((len : Int) == 0) = false := by simp; omega
          have hz2 : decide (0 < len) = true := by simp [hl]
          have HZ2 := Lib.hid hz2
          clear hz2
          go_wp2
          go_meet
          case rel => exact ⟨by rw [HZ2.out]; simp, HBX, HBW⟩
        · obtain rfl : len = 0 := by omega
          clear hl
          go_wp2
          go_meet
          case rel => exact ⟨by simp, HBX, HBW⟩
    case rest =>
      clear hc0 hc1 hc2 hc3 hc4 hc5 hc6
      obtain ⟨rfl, HBX2, HBW2⟩ := hcut
      obtain ⟨cnd, hcn⟩ : ∃ cnd, cnd = ((nn || (hd && rt)) && decide (0 < len)) := ⟨_, rfl⟩
      rw [← hcn]
      cases cnd
      · have HC := Lib.hid hcn.symm
        clear hcn
        go_wp2
        go_ret
        refine says_mk (E12.out ?_).symm HBW2.out
        rintro ⟨q1, q2⟩
        have hx := HC.out
        rcases q1 with q1 | ⟨q1, q3⟩
        · rw [q1] at hx; simp at hx; omega
        · rw [q1, q3] at hx; simp at hx; omega
      · have hcn2 : (nn = true ∨ hd = true ∧ rt = true) ∧ 0 < len := by simpa using hcn.symm
        have HC := Lib.hid hcn2
        have hlen := hcn2.2
        clear hcn hcn2
        have hc6 := HBX2.out.c6
        by_cases h16 : 16 < len
        · go_wp2
          go_ret
          exact says_mk (E13.out HC.out (.inl h16)).symm HBW2.out
        · have h16' : len ≤ 16 := by omega
          go_wp2_with fail
          go_loopw [90] (fun v90 wr => PlainAt w recs v90 wr) (fun v90 _ => len - (intOf v90).toNat)
          case atStart => exact plainAt_start w _ recs HBW2.out
          case round =>
            obtain ⟨j, hj, rfl, hno, hbel⟩ := hrel
            have HNO := Lib.hid hno
            have HBEL := Lib.hid hbel
            rw [← HLEN.out] at hj
            clear hno hbel
            by_cases hlt : j < len
            · obtain ⟨r, hrj⟩ : ∃ r, recs[j]? = some r := by
                have hjl : j < recs.length := by rw [← HLEN.out]; exact hlt
                exact ⟨_, List.getElem?_eq_getElem hjl⟩
              obtain ⟨bk, off, rfl, hbk, hcell⟩ : ∃ bk off, ad = some ⟨bk, off, none⟩ ∧ bk < w.heap.size ∧ ∀ i r, recs[i]? = some r → wr.cell? ⟨bk, off + i * 2, none⟩ = some (.string r.key) ∧ wr.cell? ⟨bk, off + i * 2 + 1, none⟩ = some (.string r.val) := by
                rcases HR.out.cells with h | ⟨bk, off, e, hlt, hc⟩
                · omega
                · exact ⟨bk, off, e, hlt, fun i r hi => ⟨(HBEL.out.cell (p := ⟨bk, _, none⟩) hlt).trans (hc i r hi).1, (HBEL.out.cell (p := ⟨bk, _, none⟩) hlt).trans (hc i r hi).2⟩⟩
              obtain ⟨hk, hv⟩ := hcell j r hrj
              obtain ⟨hs1, hs2⟩ := HT.out r (List.mem_of_getElem? hrj)
              obtain ⟨ks, vs⟩ := r
              simp only at hk hv hs1 hs2
              have HRJ := Lib.hid hrj
              have HMEM : Hid ((⟨ks, vs⟩ : Rc) ∈ recs) := List.mem_of_getElem? hrj
              clear hcell hrj
              by_cases hk64 : 64 < ks.size
              · go_wp2
                go_ret
                exact says_mk (E13.out HC.out (.inr ⟨⟨ks, vs⟩, HMEM.out, .inl hk64⟩)).symm (HBEL.out.alloc HBEL.out.size _)
              · have hk64' : ks.size ≤ 64 := by omega
                by_cases hv64 : 64 < vs.size
                · go_wp2
                  go_ret
                  exact says_mk (E13.out HC.out (.inr ⟨⟨ks, vs⟩, HMEM.out, .inr hv64⟩)).symm (HBEL.out.alloc HBEL.out.size _)
                · have hv64' : vs.size ≤ 64 := by omega
                  have HNO2 : Hid (∀ i r, i < j + 1 → recs[i]? = some r → ¬ longRec r) := by
                    intro i r hi hir
                    by_cases e : i = j
                    · subst e
                      rw [HRJ.out] at hir
                      cases hir
                      rintro (h | h)
                      · exact hk64 h
                      · exact hv64 h
                    · exact HNO.out i r (by omega) hir
                  have HLE : Hid (j + 1 ≤ recs.length) := by show _ ≤ _; rw [← HLEN.out]; exact hlt
                  go_wp2
                  go_roundw
                  case rel => (repeat apply Exists.intro); exact ⟨⟨j + 1, HLE.out, by go_num, HNO2.out, HBEL.out.alloc HBEL.out.size _⟩, rfl⟩
                  case measure => simp [intOf]; omega
            · obtain rfl : j = len := by omega
              go_wp2
              go_ret
              refine says_mk (E0.out HC.out ?_).symm HBEL.out
              rintro (h | h)
              · omega
              · exact not_long (by rw [← HLEN.out]; exact HNO.out) h
/-- Any batch whose texts are such. -/
theorem plain_any (w : World) (b : Bat) (ad : Option Addr) (cap : Nat) (hr : RecsAt w ad b.recs.length cap b.recs) (ht : TextsOk b.recs) (hL : b.recs.length ≤ 140737488355328) :
    Calls Try.prog 48 #[.agg #[.int .i64 b.base, .int .i64 b.prod, .int .i64 b.epoch, .int .i64 b.seq, .bool b.txn, .int .i64 b.marker, .slice ad b.recs.length cap]] w (Says (rightE b) w) := by
  by_cases h0 : b.base < 0
  · rw [e_low h0]
    go_enter Try.func48, Try.ntmps48
    go_wp2
    go_ret
    exact says_mk rfl ((Below.refl _ _).alloc (Nat.le_refl _) _)
  · have h0' : 0 ≤ b.base := by omega
    by_cases h1 : 1099511627776 < b.base
    · rw [e_high h1]
      go_enter Try.func48, Try.ntmps48
      go_wp2
      go_ret
      exact says_mk rfl ((Below.refl _ _).alloc (Nat.le_refl _) _)
    · by_cases hm : b.marker = 0
      · have e : (.int .i64 b.marker : Value) = .int .i64 b.marker := rfl
        exact plain_data w b ad cap hr ht h0' (by omega) hm hL
      · exact plain_mark w b ad cap hr h0' (by omega) hm
end Go.Proofs.Ytlpmfhccfihnfaa
