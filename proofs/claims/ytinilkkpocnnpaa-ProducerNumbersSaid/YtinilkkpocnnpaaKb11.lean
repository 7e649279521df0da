/- Chapter 10's own tables: Get, Check. -/
import Derived.Laws.ResultCell
import Derived.Test.YtinilkkpocnnpaaKb10
namespace Go.Proofs.Ytinilkkpocnnpaa
open Go.RowKit
open Go.SeqMath
open Go.ProdMath
open Go.BatMath hiding AllB getD_lt take_all
set_option linter.unusedVariables false

def GivesTGet (w : World) (p : Pd) (b : Bool) (e : Ending) (w' : World) : Prop :=
  ∃ ad n cap, e = .returned (.tuple #[.agg #[.int .i64 p.id, .int .i64 p.epoch, .slice ad n cap, .int .i64 p.opn], .bool b]) ∧ RowAt trK w' ad n cap p.last ∧ Below w.heap.size w w'
theorem resultsGet {tmps : Array Value} {B : Nat} {W : World} {b0 b1 b3 : Int} {v x : Value} (h : PBox W B b0 b1 v b3) (ht : tmps.getD 4 undef = .pointer (some ⟨B, 0, none⟩)) (hx : tmps.getD 5 undef = x) :
    (results Try.f60 tmps).run Try.prog W = .ok (.tuple #[.agg #[.int .i64 b0, .int .i64 b1, v, .int .i64 b3], x]) W := by
  rw [results_cell_tmp (p := 4) (u := 5) (ty := 40) Try.results60, ht]
  have hl := run_loadVar_row (P := Try.prog) W B 40 40 _ (0, 0) _ h Try.underlying40 rfl (by kernel_rfl)
  simp only [asAddr, Sem.run_pure, Result.andThen, hl, hx]
theorem gives_tget {w W : World} {p : Pd} {b : Bool} {b0 b1 b3 : Int} {ad : Option Addr} {n cap : Nat} {u0 u1 u2 u3 : Value} {l : List Tr} (hb : Below w.heap.size w W) (hp : p = ⟨b0, b1, l, b3⟩) (hr : RowAt trK w ad n cap l) :
    GivesTGet w p b (.returned (.tuple #[.agg #[.int .i64 b0, .int .i64 b1, .slice ad n cap, .int .i64 b3], .bool b])) ((((W.setCell ⟨w.heap.size, 0, none⟩ u0).setCell ⟨w.heap.size, 1, none⟩ u1).setCell ⟨w.heap.size, 2, none⟩ u2).setCell ⟨w.heap.size, 3, none⟩ u3) := by
  subst hp
  have hb2 : Below w.heap.size w ((((W.setCell ⟨w.heap.size, 0, none⟩ u0).setCell ⟨w.heap.size, 1, none⟩ u1).setCell ⟨w.heap.size, 2, none⟩ u2).setCell ⟨w.heap.size, 3, none⟩ u3) := (((hb.setCell (Nat.le_refl _) _).setCell (Nat.le_refl _) _).setCell (Nat.le_refl _) _).setCell (Nat.le_refl _) _
  exact ⟨ad, n, cap, rfl, hr.keep hb2, hb2⟩
theorem get_yes {l : List Pd} {id : Int} (h : hasD l id = true) : ∃ p, l[atD l id]? = some p ∧ getD l id = p := by
  have h2 := h
  unfold hasD at h2
  split at h2
  · rename_i p hp
    refine ⟨p, hp, ?_⟩
    unfold getD
    rw [if_pos h, hp]
  · cases h2
theorem get_no {l : List Pd} {id : Int} (h : hasD l id = false) : getD l id = Pd.zero := by unfold getD; rw [if_neg (by rw [h]; decide)]
set_option maxRecDepth 100000 in
set_option maxHeartbeats 4000000 in
theorem tabGet_any (w : World) (kt : Nat) (ad : Option Addr) (len cap : Nat) (ms : List PM) (h : TabAt w kt ad len cap ms) (hL : len ≤ 100000000000) (id : Int) :
    Calls Try.prog 60 #[.pointer (some ⟨kt, 0, none⟩), .int .i64 id] w (GivesTGet w (getD (pds ms) id) (hasD (pds ms) id)) := by
  obtain ⟨W0, hW0⟩ : ∃ W0, W0 = w.alloc (.cells #[.int .i64 0, .int .i64 0, .slice none 0 0, .int .i64 0] 40) := ⟨_, rfl⟩
  have HB0 : Hid (Below w.heap.size w W0) := by show Below _ _ _; rw [hW0]; exact (Below.refl _ _).alloc (Nat.le_refl _) _
  have HR0 : Hid (PBox W0 w.heap.size 0 0 (.slice none 0 0) 0) := by show PBox _ _ _ _ _ _; rw [hW0]; exact pbox_new w _ _ _ _
  have HT0 := Lib.hid (h.keep HB0.out)
  have H := Lib.hid h
  have HW0 := Lib.hid hW0
  clear h hW0
  obtain ⟨i, hi⟩ : ∃ i, atD (pds ms) id = i := ⟨_, rfl⟩
  obtain ⟨b, hb⟩ : ∃ b, hasD (pds ms) id = b := ⟨_, rfl⟩
  have CAT : Hid (Calls Try.prog 59 #[.pointer (some ⟨kt, 0, none⟩), .int .i64 id] W0 (GivesAt W0 i b)) := by
    have := tabAt_any W0 kt ad len cap ms HT0.out hL id
    rw [hi, hb] at this
    exact this
  rw [hb]
  have HGY : Hid (b = true → i < len ∧ ∃ m, ms[i]? = some m ∧ getD (pds ms) id = m.p) := by
    intro hb1
    rw [← hb] at hb1
    obtain ⟨p, hp, hg⟩ := get_yes hb1
    rw [hi] at hp
    unfold pds at hp
    rw [List.getElem?_map] at hp
    cases hm : ms[i]? with
    | none => rw [hm] at hp; cases hp
    | some m =>
      rw [hm] at hp
      cases hp
      refine ⟨?_, m, rfl, hg⟩
      have := (List.getElem?_eq_some_iff.1 hm).1
      have h2 := H.out.pds.row.length
      omega
  have HGN : Hid (b = false → getD (pds ms) id = Pd.zero) := fun hb1 => get_no (by rw [hb]; exact hb1)
  obtain ⟨p, hp⟩ : ∃ p, getD (pds ms) id = p := ⟨_, rfl⟩
  rw [hp] at HGY HGN
  rw [hp]
  clear hi hb hp
  go_enter Try.func60, Try.ntmps60
  go_wp2_with fail
  rw [← HW0.out]
  refine CAT.out.mono ?_
  rintro e w1 ⟨rfl, hb1⟩
  have HB1 := Lib.hid (HB0.out.trans (hb1.mono HB0.out.size))
  have HR1 := Lib.hid (HR0.out.on hb1)
  have HT1 := Lib.hid (HT0.out.keep hb1)
  clear hb1 HW0 CAT
  have rr0 := HR1.out.c0
  have f0 := HR1.out.free 0
  have rr1 := HR1.out.c1
  have f1 := HR1.out.free 1
  have rr2 := HR1.out.c2
  have f2 := HR1.out.free 2
  have rr3 := HR1.out.c3
  have f3 := HR1.out.free 3
  cases b
  · have HP := Lib.hid (HGN.out rfl)
    clear HGN HGY
    go_wp2
    exact bodyPost_ret (v := .tuple #[.agg #[.int .i64 0, .int .i64 0, .slice none 0 0, .int .i64 0], .bool false]) (resultsGet ((((HR1.out.s0 0).s1 0).s2 (.slice none 0 0)).s3 0) rfl rfl) rfl (gives_tget HB1.out HP.out (rowAt_nil w))
  · obtain ⟨hil, m, hm, hpm⟩ := HGY.out rfl
    have HP := Lib.hid hpm
    clear HGN HGY hpm
    have hij : (i : Int) < (len : Int) := by omega
    have hij2 : i < len := hil
    have t0 := HT1.out.box.c0
    obtain ⟨bk, off, m', rfl, _, hm', _, c0, c1, c2, c3⟩ := HT1.out.pds.get hil
    obtain rfl : m' = m := by rw [hm] at hm'; exact (Option.some.inj hm').symm
    have HLA := Lib.hid (H.out.pds.ins m' (List.mem_of_getElem? hm))
    clear hm hm'
    go_wp2
    exact bodyPost_ret (v := .tuple #[.agg #[.int .i64 m'.p.id, .int .i64 m'.p.epoch, .slice m'.ad m'.p.last.length m'.cap, .int .i64 m'.p.opn], .bool true]) (resultsGet ((((HR1.out.s0 m'.p.id).s1 m'.p.epoch).s2 (.slice m'.ad m'.p.last.length m'.cap)).s3 m'.p.opn) rfl rfl) rfl (gives_tget (l := m'.p.last) HB1.out HP.out HLA.out)
set_option maxRecDepth 100000 in
set_option maxHeartbeats 4000000 in
theorem tabCheck_any (w : World) (kt : Nat) (ad : Option Addr) (len cap : Nat) (ms : List PM) (h : TabAt w kt ad len cap ms) (hL : len ≤ 100000000000) (b : Bat) (rd : Option Addr) (rn rc : Nat) (hr : RecsAt w rd rn rc b.recs) (ht : TextsOk b.recs) (hrn : rn ≤ 140737488355328) (hwf : b.prod ≤ 9223372036854775807) (c : Int × Int) (hc : tcheckD (pds ms) b = c) (hfew : fewP (pds ms)) :
    Calls Try.prog 46 #[.pointer (some ⟨kt, 0, none⟩), .agg #[.int .i64 b.base, .int .i64 b.prod, .int .i64 b.epoch, .int .i64 b.seq, .bool b.txn, .int .i64 b.marker, .slice rd rn rc]] w (GivesPair w c) := by
  obtain ⟨b0, b1, b2, b3, b4, b5, recs⟩ := b
  simp only at hr ht hwf
  simp only
  obtain ⟨W0, hW0⟩ : ∃ W0, W0 = w.alloc (.cells #[.int .i64 b0, .int .i64 b1, .int .i64 b2, .int .i64 b3, .bool b4, .int .i64 b5, .slice rd rn rc] 33) := ⟨_, rfl⟩
  have HB0 : Hid (Below w.heap.size w W0) := by show Below _ _ _; rw [hW0]; exact (Below.refl _ _).alloc (Nat.le_refl _) _
  have HX0 : Hid (BoxAt W0 w.heap.size b0 b1 b2 b3 b4 b5 (.slice rd rn rc)) := by show BoxAt _ _ _ _ _ _ _ _ _; rw [hW0]; exact boxAt_new w _ _ _ _ _ _ _
  have HT0 := Lib.hid (h.keep HB0.out)
  have HRE0 := Lib.hid (hr.keep HB0.out)
  have hrl := hr.length
  have HC : Hid (tcheckD (pds ms) ⟨b0, b1, b2, b3, b4, b5, recs⟩ = c) := hc
  have HF := Lib.hid hfew
  have HTX := Lib.hid ht
  have HW0 := Lib.hid hW0
  clear h hr hc hfew hW0 ht
  obtain ⟨B, hB⟩ : ∃ B, B = w.heap.size := ⟨_, rfl⟩
  rw [← hB] at HX0
  obtain ⟨r, hre⟩ : ∃ r, rightE ⟨b0, b1, b2, b3, b4, b5, recs⟩ = r := ⟨_, rfl⟩
  have HRE := Lib.hid hre
  clear hre
  go_enter Try.func46, Try.ntmps46
  go_upto_region 1 with fail
  rw [← HW0.out, ← hB]
  clear hB HW0
  have p0 := HX0.out.c0
  have p1 := HX0.out.c1
  have p2 := HX0.out.c2
  have p3 := HX0.out.c3
  have p4 := HX0.out.c4
  have p5 := HX0.out.c5
  have p6 := HX0.out.c6
  go_wp2_with fail
  have CR := refRight_any W0 ⟨b0, b1, b2, b3, b4, b5, recs⟩ rd rn rc HRE0.out HTX.out hrn hwf
  rw [HRE.out] at CR
  refine CR.mono ?_
  clear CR
  rintro e w1 ⟨rfl, hb1⟩
  have HB1 := Lib.hid (HB0.out.trans (hb1.mono HB0.out.size))
  have HX1 := Lib.hid (HX0.out.on hb1)
  have HT1 := Lib.hid (HT0.out.keep hb1)
  clear hb1 p0 p1 p2 p3 p4 p5 p6
  by_cases hz : r = 0
  · have hd : (r == 0) = true := by rw [hz]; rfl
    have p1 := HX1.out.c1
    by_cases hn : b1 < 0
    · have hd2 : decide (b1 < 0) = true := decide_eq_true hn
      have HEND : Hid (c = (-1, 0)) := by
        show c = _
        rw [← HC.out]
        unfold tcheckD
        rw [HRE.out, if_neg (by simp [hz]), if_pos hn]
      clear HC hz hn
      go_wp2
      go_ret2
      exact gives_pair HEND.out HB1.out
    · have hd2 : decide (b1 < 0) = false := decide_eq_false hn
      have HCC : Hid (checkD (getD (pds ms) b1) (hasD (pds ms) b1) ⟨b0, b1, b2, b3, b4, b5, recs⟩ = c) := by
        show _ = _
        rw [← HC.out]
        unfold tcheckD
        rw [HRE.out, if_neg (by simp [hz]), if_neg hn]
      obtain ⟨p, hp⟩ : ∃ p, getD (pds ms) b1 = p := ⟨_, rfl⟩
      obtain ⟨kn, hkn⟩ : ∃ kn, hasD (pds ms) b1 = kn := ⟨_, rfl⟩
      have hp5 := get_few HF.out b1
      have CG : Hid (Calls Try.prog 60 #[.pointer (some ⟨kt, 0, none⟩), .int .i64 b1] w1 (GivesTGet w1 p kn)) := by
        have := tabGet_any w1 kt ad len cap ms HT1.out hL b1
        rw [hp, hkn] at this
        exact this
      rw [hp] at hp5 HCC
      rw [hkn] at HCC
      clear HC hz hn hp hkn
      go_wp2_with fail
      refine CG.out.mono ?_
      rintro e w2 ⟨ad2, n2, cap2, rfl, hrow, hb2⟩
      have hn2 := hrow.length
      have HRW := Lib.hid hrow
      have HB2 := Lib.hid (HB1.out.trans (hb2.mono HB1.out.size))
      have HX2 := Lib.hid (HX1.out.on hb2)
      clear hb2 hrow CG p1
      obtain ⟨pid, pep, pl, po⟩ := p
      simp only at hp5 hn2 HRW
      simp only
      go_upto_region 7 with fail
      obtain ⟨W3, hW3⟩ : ∃ W3, W3 = w2.alloc (.cells #[.int .i64 pid, .int .i64 pep, .slice ad2 n2 cap2, .int .i64 po] 40) := ⟨_, rfl⟩
      have hb3 : Below w2.heap.size w2 W3 := by rw [hW3]; exact (Below.refl _ _).alloc (Nat.le_refl _) _
      have HB3 := Lib.hid (HB2.out.trans (hb3.mono HB2.out.size))
      have HX3 := Lib.hid (HX2.out.on hb3)
      have HRW3 := Lib.hid (HRW.out.keep hb3)
      obtain ⟨Q, hQ⟩ : ∃ Q, Q = w2.heap.size := ⟨_, rfl⟩
      have HP3 : Hid (PBox W3 Q pid pep (.slice ad2 n2 cap2) po) := by show PBox _ _ _ _ _ _; rw [hW3, hQ]; exact pbox_new w2 _ _ _ _
      rw [← hW3, ← hQ]
      clear hW3 hb3 hQ
      have p0 := HX3.out.c0
      have p1 := HX3.out.c1
      have p2 := HX3.out.c2
      have p3 := HX3.out.c3
      have p4 := HX3.out.c4
      have p5 := HX3.out.c5
      have p6 := HX3.out.c6
      have q0 := HP3.out.c0
      have q1 := HP3.out.c1
      have q2 := HP3.out.c2
      have q3 := HP3.out.c3
      go_wp2_with fail
      refine (refCheck_any W3 pid pep po pl ad2 n2 cap2 HRW3.out (by omega) kn b0 b1 b2 b3 b4 b5 recs rd rn rc hrl hrn c HCC.out).mono ?_
      rintro e w4 ⟨rfl, hb4⟩
      have HB4 := Lib.hid (HB3.out.trans (hb4.mono HB3.out.size))
      go_wp2
      go_ret2
      exact gives_pair rfl HB4.out
  · have hd : (r == 0) = false := beq_false_of_ne hz
    have HEND : Hid (c = (-1, r)) := by
      show c = _
      rw [← HC.out]
      unfold tcheckD
      rw [HRE.out, if_pos hz]
    clear HC
    go_wp2
    go_ret2
    exact gives_pair HEND.out HB1.out
end Go.Proofs.Ytinilkkpocnnpaa
