/- The code's own batch, chapter 6: rightData: which errors data have. -/
import Derived.Test.YtlpmfhccfihnfaaBatCode1
namespace Go.Proofs.Ytlpmfhccfihnfaa
open Go.RowKit
open Go.SeqMath
open Go.BatMath
set_option linter.unusedVariables false

noncomputable def rdE (b : Bat) : Int :=
  if (noneB b = true ∨ headB b = true ∧ rightB b.seq = true) ∧ b.recs ≠ [] then
    open Classical in if 16 < b.recs.length ∨ ∃ r ∈ b.recs, longRec r then 13 else 0
  else 12
theorem rd_none {b : Bat} (h : ¬ ((noneB b = true ∨ headB b = true ∧ rightB b.seq = true) ∧ b.recs ≠ [])) : rdE b = 12 := by unfold rdE; rw [if_neg h]
theorem rd_long {b : Bat} (h : (noneB b = true ∨ headB b = true ∧ rightB b.seq = true) ∧ b.recs ≠ []) (hl : 16 < b.recs.length ∨ ∃ r ∈ b.recs, longRec r) : rdE b = 13 := by unfold rdE; rw [if_pos h, if_pos hl]
theorem rd_fine {b : Bat} (h : (noneB b = true ∨ headB b = true ∧ rightB b.seq = true) ∧ b.recs ≠ []) (hl : ¬ (16 < b.recs.length ∨ ∃ r ∈ b.recs, longRec r)) : rdE b = 0 := by unfold rdE; rw [if_pos h, if_neg hl]
set_option maxRecDepth 100000 in
set_option maxHeartbeats 2000000 in
theorem rightData_any (w : World) (b : Bat) (ad : Option Addr) (len cap : Nat) (hr : RecsAt w ad len cap b.recs) (ht : TextsOk b.recs) (hL : len ≤ 140737488355328) :
    Calls Try.prog 46 #[.agg #[.int .i64 b.base, .int .i64 b.prod, .int .i64 b.epoch, .int .i64 b.seq, .bool b.txn, .int .i64 b.marker, .slice ad len cap]] w (Says (rdE b) w) := by
  have hne : (b.recs ≠ []) = (0 < b.recs.length) := propext List.length_pos_iff.symm
  have e12 := @rd_none b
  have e13 := @rd_long b
  have e0 := @rd_fine b
  rw [hne] at e12 e13 e0
  obtain ⟨ev, hev⟩ : ∃ ev, ev = rdE b := ⟨_, rfl⟩
  rw [← hev] at e12 e13 e0 ⊢
  have hh : (decide (0 ≤ b.prod) && (decide (0 ≤ b.epoch) && decide (b.epoch ≤ 32767))) = headB b := rfl
  have hnn : (decide (b.prod = -1) && (decide (b.epoch = -1) && (decide (b.seq = -1) && !b.txn))) = noneB b := rfl
  obtain ⟨hd, hdd⟩ : ∃ hd, hd = headB b := ⟨_, rfl⟩
  obtain ⟨nn, hnd⟩ : ∃ nn, nn = noneB b := ⟨_, rfl⟩
  rw [← hdd] at e12 e13 e0 hh
  rw [← hnd] at e12 e13 e0 hnn
  clear hev hdd hnd hne
  obtain ⟨base, prod, epoch, seq, txn, marker, recs⟩ := b
  simp only at e12 e13 e0 hh hr ht hnn ⊢
  obtain ⟨rt, hrt⟩ : ∃ rt, rightB seq = rt := ⟨_, rfl⟩
  rw [hrt] at e12 e13 e0
  have hlen := hr.length
  rw [hlen] at e12 e13 e0
  have HH := Lib.hid hh
  have HRT := Lib.hid hrt
  have HN := Lib.hid hnn
  have E12 := Lib.hid e12
  have E13 := Lib.hid e13
  have E0 := Lib.hid e0
  have HR := Lib.hid hr
  have HT := Lib.hid ht
  have HLEN := Lib.hid hlen
  clear hh hrt hnn e12 e13 e0 hr ht hlen
  go_enter Try.func46, Try.ntmps46
  go_upto_region 1 with fail
  go_cut [17] from 5 (fun s17 wx => s17 = .bool (!(nn || (hd && rt))) ∧ Hid (BoxAt wx w.heap.size base prod epoch seq txn marker (.slice ad len cap)) ∧ Hid (Below w.heap.size w wx))
  case first =>
    have HB0 : Hid (Below w.heap.size w (w.alloc (.cells #[.int .i64 base, .int .i64 prod, .int .i64 epoch, .int .i64 seq, .bool txn, .int .i64 marker, .slice ad len cap] 24))) := (Below.refl _ _).alloc (Nat.le_refl _) _
    have HX0 := Lib.hid (boxAt_new w base prod epoch seq txn marker (.slice ad len cap))
    cases nn
    · cases hd
      · go_wp2_with (first | (go_at_call 65; refine (batUnowned_any _ _ _ _ _ _ _ _ false HN.out).mono ?_; rintro e w1 ⟨rfl, hb⟩; have HB1 := Lib.hid (HB0.out.trans (hb.mono HB0.out.size)); have HX1 := Lib.hid (HX0.out.on hb); clear hb; have hc0 := HX1.out.c0; have hc1 := HX1.out.c1; have hc2 := HX1.out.c2; have hc3 := HX1.out.c3; have hc4 := HX1.out.c4; have hc5 := HX1.out.c5; have hc6 := HX1.out.c6) | (go_at_call 66; refine (batOwned_any _ _ _ _ _ _ _ _ false HH.out).mono ?_; rintro e w2 ⟨rfl, hb⟩; have HB2 := Lib.hid (HB1.out.trans (hb.mono HB1.out.size)); have HX2 := Lib.hid (HX1.out.on hb); clear hb))
        go_meet
        case rel => exact ⟨by simp, HX2, HB2⟩
      · cases rt
        all_goals
          go_wp2_with (first | (go_at_call 65; refine (batUnowned_any _ _ _ _ _ _ _ _ false HN.out).mono ?_; rintro e w1 ⟨rfl, hb⟩; have HB1 := Lib.hid (HB0.out.trans (hb.mono HB0.out.size)); have HX1 := Lib.hid (HX0.out.on hb); clear hb; have hc0 := HX1.out.c0; have hc1 := HX1.out.c1; have hc2 := HX1.out.c2; have hc3 := HX1.out.c3; have hc4 := HX1.out.c4; have hc5 := HX1.out.c5; have hc6 := HX1.out.c6) | (go_at_call 66; refine (batOwned_any _ _ _ _ _ _ _ _ true HH.out).mono ?_; rintro e w2 ⟨rfl, hb⟩; have HB2 := Lib.hid (HB1.out.trans (hb.mono HB1.out.size)); have HX2 := Lib.hid (HX1.out.on hb); clear hb hc0 hc1 hc2 hc3 hc4 hc5 hc6; have hc3 := HX2.out.c3) | (go_at_call 67; refine (seq_right _ _ _ HRT.out).mono ?_; rintro e w' ⟨rfl, rfl⟩))
          go_meet
          case rel => exact ⟨by simp, HX2, HB2⟩
    · go_wp2_with (first | (go_at_call 65; refine (batUnowned_any _ _ _ _ _ _ _ _ true HN.out).mono ?_; rintro e w1 ⟨rfl, hb⟩; have HB1 := Lib.hid (HB0.out.trans (hb.mono HB0.out.size)); have HX1 := Lib.hid (HX0.out.on hb); clear hb))
      go_meet
      case rel => exact ⟨by simp, HX1, HB1⟩
  case rest =>
    obtain ⟨rfl, HBX, HBW⟩ := hcut
    obtain ⟨cnd, hcn⟩ : ∃ cnd, cnd = (nn || (hd && rt)) := ⟨_, rfl⟩
    rw [← hcn]
    cases cnd
    · have HC := Lib.hid hcn.symm
      clear hcn
      go_wp2
      go_ret
      refine says_mk (E12.out ?_).symm HBW.out
      rintro ⟨q1, q2⟩
      have hx := HC.out
      rcases q1 with q1 | ⟨q1, q3⟩
      · rw [q1] at hx; simp at hx
      · rw [q1, q3] at hx; simp at hx
    · have hcn2 : nn = true ∨ hd = true ∧ rt = true := by simpa using hcn.symm
      have HC0 := Lib.hid hcn2
      clear hcn hcn2
      have hc6 := HBX.out.c6
      by_cases hlen : len = 0
      · subst hlen
        go_wp2
        go_ret
        exact says_mk (E12.out (by rintro ⟨_, h⟩; omega)).symm HBW.out
      have hl0 : ((len : Int) == 0) = false := by simp; omega
      have HC : Hid ((nn = true ∨ hd = true ∧ rt = true) ∧ 0 < len) := ⟨HC0.out, by omega⟩
      by_cases h16 : 16 < len
      · go_wp2
        go_ret
        exact says_mk (E13.out HC.out (.inl h16)).symm HBW.out
      · have h16' : len ≤ 16 := by omega
        go_wp2_with fail
        go_loopw [29] (fun v29 wr => PlainAt w recs v29 wr) (fun v29 _ => len - (intOf v29).toNat)
        case atStart => exact plainAt_start w _ recs HBW.out
        case round =>
          obtain ⟨j, hj, rfl, hno, hbel⟩ := hrel
          have HNO := Lib.hid hno
          have HBEL := Lib.hid hbel
          rw [HLEN.out] at hj
          clear hno hbel
          by_cases hlt : j < len
          · obtain ⟨r, hrj⟩ : ∃ r, recs[j]? = some r := by
              have hjl : j < recs.length := by rw [HLEN.out]; exact hlt
              exact ⟨_, List.getElem?_eq_getElem hjl⟩
            obtain ⟨bk, off, rfl, hbk, hcell⟩ : ∃ bk off, ad = some ⟨bk, off, none⟩ ∧ bk < w.heap.size ∧ ∀ i r, recs[i]? = some r → wr.cell? ⟨bk, off + i * 2, none⟩ = some (.string r.key) ∧ wr.cell? ⟨bk, off + i * 2 + 1, none⟩ = some (.string r.val) := by
              rcases HR.out.cells with h | ⟨bk, off, e, hlt, hc⟩
              · omega
              · exact ⟨bk, off, e, hlt, fun i r hi => ⟨(HBEL.out.cell (p := ⟨bk, _, none⟩) hlt).trans (hc i r hi).1, (HBEL.out.cell (p := ⟨bk, _, none⟩) hlt).trans (hc i r hi).2⟩⟩
            obtain ⟨hk, hv⟩ := hcell j r hrj
            obtain ⟨hs1, hs2⟩ := HT.out r (List.mem_of_getElem? hrj)
            obtain ⟨ks, vs⟩ := r
            simp only at hk hv hs1 hs2
            have HRJ := Lib.hid hrj
            have HMEM : Hid ((⟨ks, vs⟩ : Rc) ∈ recs) := List.mem_of_getElem? hrj
            clear hcell hrj
            by_cases hk64 : 64 < ks.size
            · go_wp2
              go_ret
              exact says_mk (E13.out HC.out (.inr ⟨⟨ks, vs⟩, HMEM.out, .inl hk64⟩)).symm (HBEL.out.alloc HBEL.out.size _)
            · have hk64' : ks.size ≤ 64 := by omega
              by_cases hv64 : 64 < vs.size
              · go_wp2
                go_ret
                exact says_mk (E13.out HC.out (.inr ⟨⟨ks, vs⟩, HMEM.out, .inr hv64⟩)).symm (HBEL.out.alloc HBEL.out.size _)
              · have hv64' : vs.size ≤ 64 := by omega
                have HNO2 : Hid (∀ i r, i < j + 1 → recs[i]? = some r → ¬ longRec r) := by
                  intro i r hi hir
                  by_cases e : i = j
                  · subst e
                    rw [HRJ.out] at hir
                    cases hir
                    rintro (h | h)
                    · exact hk64 h
                    · exact hv64 h
                  · exact HNO.out i r (by omega) hir
                have HLE : Hid (j + 1 ≤ recs.length) := by show _ ≤ _; rw [HLEN.out]; exact hlt
                go_wp2
                go_roundw
                case rel => (repeat apply Exists.intro); exact ⟨⟨j + 1, HLE.out, by go_num, HNO2.out, HBEL.out.alloc HBEL.out.size _⟩, rfl⟩
                case measure => simp [intOf]; omega
          · obtain rfl : j = len := by omega
            go_wp2
            go_ret
            refine says_mk (E0.out HC.out ?_).symm HBEL.out
            rintro (h | h)
            · omega
            · exact not_long (by rw [HLEN.out]; exact HNO.out) h
end Go.Proofs.Ytlpmfhccfihnfaa
