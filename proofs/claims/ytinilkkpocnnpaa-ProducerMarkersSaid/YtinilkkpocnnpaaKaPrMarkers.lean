/- Chapter 10's law: a transaction is opened by its first batch, goes on with the others, and is closed by a marker. -/
import Derived.Test.YtinilkkpocnnpaaKaPrEpochs
namespace Go.Proofs.Ytinilkkpocnnpaa
open Go.RowKit
open Go.SeqMath
open Go.ProdMath
open Go.BatMath hiding AllB getD_lt take_all
set_option linter.unusedVariables false

/-- A producer in a block of the law's own. -/
structure PS (w W : World) (B : Nat) (p : Pd) (ad : Option Addr) (n cap : Nat) : Prop where
  box : PBox W B p.id p.epoch (.slice ad n cap) p.opn
  row : RowAt trK W ad n cap p.last
  ne : ∀ a, ad = some a → a.block ≠ B
  bel : Below w.heap.size w W
  lo : w.heap.size ≤ B
theorem PS.on {w W W' : World} {B : Nat} {p : Pd} {ad : Option Addr} {n cap : Nat} (h : PS w W B p ad n cap) (hb : Below W.heap.size W W') : PS w W' B p ad n cap :=
  ⟨h.box.on hb, h.row.keep hb, h.ne, h.bel.trans (hb.mono h.bel.size), h.lo⟩
theorem PS.off {w W : World} {B : Nat} {p : Pd} {ad : Option Addr} {n cap k : Nat} (h : PS w W B p ad n cap) (hk : k ≠ B) (hw : w.heap.size ≤ k) (hr : ∀ a, ad = some a → a.block ≠ k) (j : Nat) (u : Value) : PS w (W.setCell ⟨k, j, none⟩ u) B p ad n cap :=
  ⟨h.box.off hk _, h.row.off hr _ _, h.ne, h.bel.setCell hw _, h.lo⟩
theorem PS.put {w W W' : World} {B : Nat} {p q : Pd} {ad ad' : Option Addr} {n cap n' cap' : Nat} (h : PS w W B p ad n cap) (hb : Below W.heap.size W W') (hr : RowAt trK W' ad' n' cap' q.last) (hn : ∀ a, ad' = some a → W.heap.size ≤ a.block ∧ a.block < W'.heap.size) :
    PS w ((((W'.setCell ⟨B, 0, none⟩ (.int .i64 q.id)).setCell ⟨B, 1, none⟩ (.int .i64 q.epoch)).setCell ⟨B, 2, none⟩ (.slice ad' n' cap')).setCell ⟨B, 3, none⟩ (.int .i64 q.opn)) B q ad' n' cap' := by
  have hlt := h.box.lt
  have hne : ∀ a, ad' = some a → a.block ≠ B := fun a ha => by have := (hn a ha).1; omega
  exact ⟨((((h.box.on hb).s0 q.id).s1 q.epoch).s2 (.slice ad' n' cap')).s3 q.opn, (((hr.off hne _ _).off hne _ _).off hne _ _).off hne _ _, hne, ((((h.bel.trans (hb.mono h.bel.size)).setCell h.lo _).setCell h.lo _).setCell h.lo _).setCell h.lo _, h.lo⟩
def pmD (f : Int) (i : Nat) : Pd := if i = 0 then Pd.zero else ⟨2, 1, lateD f 10 (List.replicate i 1), 10⟩
theorem ones_ok (i : Nat) : CsOk (List.replicate i 1) := fun c hc => by rw [List.eq_of_mem_replicate hc]; omega
theorem ones_sum (i : Nat) : (List.replicate i 1).sum = i := by simp
theorem late_ok (f : Int) (b : Nat) (cs : List Nat) : (b + (cs.take (cs.length - 5)).sum) + (cs.drop (cs.length - 5)).sum = b + cs.sum := by rw [Nat.add_assoc, take_drop_sum]
theorem pm_yes (f : Int) {i : Nat} (h : 0 < i) : pmD f i = ⟨2, 1, lateD f 10 (List.replicate i 1), 10⟩ := by unfold pmD; rw [if_neg (by omega)]
theorem pm_check (f : Int) (i : Nat) (hi : i ≤ 100) (base : Int) : checkD (pmD f i) (decide (0 < i)) ⟨base, 2, 1, (f + ((10 + i : Nat) : Int)) % 2147483648, true, 0, [Rc.nil]⟩ = (-1, 0) := by
  by_cases h : 0 < i
  · rw [pm_yes f h, decide_eq_true h]
    have h1 := late_ok f 10 (List.replicate i 1)
    rw [ones_sum] at h1
    exact check_next 2 1 10 f _ _ true base [Rc.nil] (csOk_drop (ones_ok i) _) (by omega) ⟨by simp, by simp⟩ (10 + i) (by omega) (fun _ => rfl)
  · rw [decide_eq_false h]; simp [checkD]
theorem pm_apply (f : Int) (i : Nat) (hi : i ≤ 100) : applyD (pmD f i) (decide (0 < i)) ⟨((10 + i : Nat) : Int), 2, 1, (f + ((10 + i : Nat) : Int)) % 2147483648, true, 0, [Rc.nil]⟩ = pmD f (i + 1) := by
  have hl : lastI ((f + ((10 + i : Nat) : Int)) % 2147483648) 1 = (trD f (10 + i) 1).l := last_tr f (10 + i) 1 (by omega) (by omega)
  have ht : (⟨(f + ((10 + i : Nat) : Int)) % 2147483648, (trD f (10 + i) 1).l, ((10 + i : Nat) : Int)⟩ : Tr) = trD f (10 + i) 1 := rfl
  have hs := late_snoc f 10 (List.replicate i 1) 1
  rw [ones_sum, show List.replicate i 1 ++ [1] = List.replicate (i + 1) 1 from List.replicate_succ'.symm] at hs
  rw [pm_yes f (Nat.succ_pos i)]
  by_cases h : 0 < i
  · rw [pm_yes f h, decide_eq_true h]
    unfold applyD oldLast oldOpen
    simp only [List.length_singleton, Int.natCast_one, ne_eq, not_true_eq_false, if_false, hl, ht, and_self, if_true]
    rw [hs]
    simp
  · have h0 : i = 0 := by omega
    subst h0
    rw [decide_eq_false h]
    unfold applyD oldLast oldOpen
    simp only [List.length_singleton, Int.natCast_one, ne_eq, not_true_eq_false, if_false, hl, ht, Bool.false_eq_true, false_and]
    rw [show newLast [] (trD f (10 + 0) 1) = newLast (lateD f 10 (List.replicate 0 1)) (trD f (10 + 0) 1) from rfl, hs]
    simp
theorem pm_open (f : Int) (i : Nat) (hi : i ≤ 100) (h : 0 < i) (base : Int) : checkD (pmD f i) true ⟨base, 2, 1, (f + ((10 + i : Nat) : Int)) % 2147483648, false, 0, [Rc.nil]⟩ = (-1, 16) := by
  rw [pm_yes f h]
  have h1 := late_ok f 10 (List.replicate i 1)
  rw [ones_sum] at h1
  exact check_open 2 1 10 f _ _ base [Rc.nil] (csOk_drop (ones_ok i) _) (by omega) (10 + i) (by omega) (by omega)
theorem pm_mark (f : Int) {i : Nat} (h : 0 < i) (m : Int) (hm : m ≠ 0) : checkD (pmD f i) true ⟨40, 2, 1, -1, true, m, []⟩ = (-1, 0) := by
  rw [pm_yes f h]
  simp [checkD, hm]
theorem pm_close (f : Int) {i : Nat} (h : 0 < i) (m : Int) (hm : m ≠ 0) : applyD (pmD f i) true ⟨40, 2, 1, -1, true, m, []⟩ = ⟨2, 1, (pmD f i).last, -1⟩ := by
  rw [pm_yes f h]
  simp [applyD, hm, oldLast]
theorem pm_none (l : List Tr) (m : Int) (hm : m ≠ 0) : checkD ⟨2, 1, l, -1⟩ true ⟨40, 2, 1, -1, true, m, []⟩ = (-1, 16) := by simp [checkD, hm]
theorem late_len (f : Int) (b : Nat) (cs : List Nat) : (lateD f b cs).length = cs.length - (cs.length - 5) := by
  unfold lateD
  rw [trs_len, List.length_drop]
theorem pm_len (f : Int) {i : Nat} (h : 0 < i) : 0 < (pmD f i).last.length ∧ (pmD f i).last.length ≤ 5 := by
  rw [pm_yes f h]
  show 0 < (lateD f 10 (List.replicate i 1)).length ∧ (lateD f 10 (List.replicate i 1)).length ≤ 5
  rw [late_len, List.length_replicate]
  omega
theorem pm_few (f : Int) (i : Nat) : (pmD f i).last.length ≤ 5 := by
  by_cases h : 0 < i
  · exact (pm_len f h).2
  · have h0 : i = 0 := by omega
    subst h0
    show ([] : List Tr).length ≤ 5
    simp
theorem pm_opn (f : Int) {i : Nat} (h : 0 < i) : (pmD f i).opn = 10 := by rw [pm_yes f h]
set_option maxRecDepth 100000 in
set_option maxHeartbeats 8000000 in
theorem prMarkers_any (w : World) (x0 x1 x2 : Int) (h1 : -9223372036854775808 ≤ x1 ∧ x1 ≤ 9223372036854775807) (h2 : -9223372036854775808 ≤ x2 ∧ x2 ≤ 9223372036854775807) :
    Calls Try.prog 5 #[.int .i64 x0, .int .i64 x1, .int .i64 x2] w (GivesBool w true) := by
  obtain ⟨s, hs⟩ : ∃ s, bits .and .i64 x0 2147483647 = s := ⟨_, rfl⟩
  obtain ⟨f, hf⟩ : ∃ f : Int, f = s - 10 := ⟨_, rfl⟩
  have HS : Hid (s = (f + 10) % 2147483648) := by show _ = _; rw [mask31] at hs; omega
  have HH1 := Lib.hid h1
  have HH2 := Lib.hid h2
  clear hf h1 h2
  obtain ⟨W0, hW0, hb0, hp0, _⟩ := pd_new w 0 0 (.slice none 0 0) 0
  obtain ⟨B, hB⟩ : ∃ B, B = w.heap.size := ⟨_, rfl⟩
  have HLO : Hid (w.heap.size ≤ B) := by show _ ≤ _; omega
  have HP0 : Hid (PS w W0 B (pmD f 0) none 0 0) := ⟨by rw [hB]; exact hp0, rowAt_nil _, (fun a ha => by cases ha), hb0, HLO.out⟩
  have HW0 := Lib.hid hW0
  have HB := Lib.hid hB
  clear hW0 hb0 hp0 hB
  go_enter Try.func5, Try.ntmps5
  go_upto_region 3 with fail
  rw [← HW0.out, ← HB.out]
  clear HW0 HB hs
  rw [HS.out]
  have HT : Hid (∀ i : Nat, bits .and .i64 ((f + ((10 + i : Nat) : Int)) % 2147483648 + 1) 2147483647 = (f + ((10 + (i + 1) : Nat) : Int)) % 2147483648) := by
    intro i
    rw [mask31]
    omega
  clear HS
  go_wp2
  go_loopw [8, 9, 10] (fun v8 v9 v10 wr => ∃ (i : Nat) (ad : Option Addr) (n cap : Nat), v10 = .int .i64 (i : Int) ∧ i ≤ 7 ∧ v8 = .bool (decide (0 < i)) ∧ v9 = .int .i64 ((f + ((10 + i : Nat) : Int)) % 2147483648) ∧ PS w wr B (pmD f i) ad n cap) (fun _ _ v10 _ => 7 - (intOf v10).toNat)
  case atStart => exact ⟨0, none, 0, 0, rfl, by omega, rfl, rfl, HP0.out⟩
  case round =>
    obtain ⟨i, ad, n, cap, rfl, hi, rfl, rfl, hps⟩ := hrel
    have HPS := Lib.hid hps
    clear hps HP0
    obtain ⟨wo, hwo⟩ : ∃ wo : World, wo = wr := ⟨_, rfl⟩
    subst hwo
    obtain ⟨s, hs⟩ : ∃ s, s = (f + ((10 + i : Nat) : Int)) % 2147483648 := ⟨_, rfl⟩
    obtain ⟨s', hs'⟩ : ∃ s', s' = (f + ((10 + (i + 1) : Nat) : Int)) % 2147483648 := ⟨_, rfl⟩
    have hs0 : 0 ≤ s := by omega
    have hs1 : s ≤ 2147483647 := by omega
    have hmask : bits .and .i64 (s + 1) 2147483647 = s' := by rw [hs, hs']; exact HT.out i
    obtain ⟨kn, hkn⟩ : ∃ kn, kn = decide (0 < i) := ⟨_, rfl⟩
    obtain ⟨P, hP⟩ : ∃ P, P = pmD f i := ⟨_, rfl⟩
    have HSS := Lib.hid hs
    have HSS' := Lib.hid hs'
    have HKN := Lib.hid hkn
    have HPP := Lib.hid hP
    rw [← hs, ← hkn]
    rw [← hP] at HPS
    clear hs hs' hkn hP
    go_wp2_with fail
    refine (within_any x1 6 wo HH1.out (by decide)).mono ?_
    rintro e wz ⟨k, rfl, hk, rfl⟩
    by_cases hik : i ≤ k
    · have hd : decide ((i : Int) ≤ (k : Int)) = true := decide_eq_true (by omega)
      have hdn : decide (i ≤ k) = true := decide_eq_true hik
      have hi6 : i ≤ 6 := by omega
      clear hk
      go_upto_region 7 with fail
      obtain ⟨WR, hWR, hbr, hrr, szr⟩ := one_rec wo
      obtain ⟨G, hG⟩ : ∃ G, G = wo.heap.size := ⟨_, rfl⟩
      obtain ⟨BX, hBX⟩ : ∃ B, B = wo.heap.size + 1 := ⟨_, rfl⟩
      obtain ⟨WX, hWX, hbx, hx, _⟩ := box_new WR (10 + (i : Int)) 2 1 s true 0 (.slice (some ⟨G, 0, none⟩) 1 1)
      have hlt := HPS.out.box.lt
      have HXB : Hid (BX ≠ B) := by show _ ≠ _; omega
      have HXL : Hid (w.heap.size ≤ BX) := by show _ ≤ _; have := HPS.out.lo; omega
      rw [szr, ← hBX] at hx
      replace HPS := Lib.hid ((HPS.out.on hbr).on hbx)
      have HX := Lib.hid hx
      have HWR := Lib.hid hWR
      have HWX := Lib.hid hWX
      have HG := Lib.hid hG
      have HBX := Lib.hid hBX
      clear hWR hbr hrr szr hG hBX hWX hbx hx hlt
      rw [← HBX.out, ← HG.out, ← HWR.out, ← HWX.out]
      clear HBX HG HWR HWX
      have q0 := HPS.out.box.c0
      have q1 := HPS.out.box.c1
      have q2 := HPS.out.box.c2
      have q3 := HPS.out.box.c3
      have p0 := HX.out.c0
      have p1 := HX.out.c1
      have p2 := HX.out.c2
      have p3 := HX.out.c3
      have p4 := HX.out.c4
      have p5 := HX.out.c5
      have p6 := HX.out.c6
      have E1 : Hid (checkD ⟨P.id, P.epoch, P.last, P.opn⟩ kn ⟨10 + (i : Int), 2, 1, s, true, 0, [Rc.nil]⟩ = (-1, 0)) := by
        show checkD P kn _ = _
        rw [HPP.out, HKN.out, HSS.out]
        exact pm_check f i (by omega) _
      obtain ⟨Q, hQ⟩ : ∃ Q, Q = pmD f (i + 1) := ⟨_, rfl⟩
      have E2 : Hid (applyD ⟨P.id, P.epoch, P.last, P.opn⟩ kn ⟨10 + (i : Int), 2, 1, s, true, 0, [Rc.nil]⟩ = Q) := by
        show applyD P kn _ = _
        rw [HPP.out, HKN.out, HSS.out, hQ]
        exact pm_apply f i (by omega)
      have hpl : n ≤ 5 := by have h3 := HPS.out.row.length; rw [HPP.out] at h3; have := pm_few f i; omega
      have HQ10 : Hid (Q.opn = 10) := by show _ = _; rw [hQ]; exact pm_opn f (Nat.succ_pos i)
      have HQ := Lib.hid hQ
      clear hQ
      go_wp2_with fail
      refine (prCheck_any WX P.id P.epoch P.opn P.last ad n cap HPS.out.row (by omega) kn (10 + (i : Int)) 2 1 s true 0 [Rc.nil] (some ⟨G, 0, none⟩) 1 1 rfl (by omega) (-1, 0) E1.out).mono ?_
      rintro e w3 ⟨rfl, hb3⟩
      replace HPS := Lib.hid (HPS.out.on hb3)
      replace HX := Lib.hid (HX.out.on hb3)
      clear hb3 E1 q0 q1 q2 q3 p0 p1 p2 p3 p4 p5 p6
      have q0 := HPS.out.box.c0
      have q1 := HPS.out.box.c1
      have q2 := HPS.out.box.c2
      have q3 := HPS.out.box.c3
      have p0 := HX.out.c0
      have p1 := HX.out.c1
      have p2 := HX.out.c2
      have p3 := HX.out.c3
      have p4 := HX.out.c4
      have p5 := HX.out.c5
      have p6 := HX.out.c6
      go_wp2_with fail
      refine (prApply_any w3 P.id P.epoch P.opn P.last ad n cap HPS.out.row (by omega) kn (10 + (i : Int)) 2 1 s true 0 [Rc.nil] (some ⟨G, 0, none⟩) 1 1 rfl (by omega) Q E2.out).mono ?_
      rintro e w4 ⟨ad4, n4, cap4, rfl, hrow, hnew, hb4⟩
      have f0 := (HPS.out.box.on hb4).free 0
      have f1 := (HPS.out.box.on hb4).free 1
      have f2 := (HPS.out.box.on hb4).free 2
      have f3 := (HPS.out.box.on hb4).free 3
      have r0 := (HPS.out.box.on hb4).c0
      have r1 := (HPS.out.box.on hb4).c1
      have r2 := (HPS.out.box.on hb4).c2
      have r3 := (HPS.out.box.on hb4).c3
      have hxlt := HX.out.lt
      have HNX : Hid (∀ a, ad4 = some a → a.block ≠ BX) := fun a ha => by have := (hnew a ha).1; omega
      replace HPS := Lib.hid (HPS.out.put hb4 hrow hnew)
      replace HX := Lib.hid (HX.out.on hb4)
      clear hrow hnew hb4 hxlt E2 q0 q1 q2 q3 p0 p1 p2 p3 p4 p5 p6
      go_upto_region 11 with fail
      obtain ⟨W5, hW5⟩ : ∃ W, W = ((((w4.setCell ⟨B, 0, none⟩ (.int .i64 Q.id)).setCell ⟨B, 1, none⟩ (.int .i64 Q.epoch)).setCell ⟨B, 2, none⟩ (.slice ad4 n4 cap4)).setCell ⟨B, 3, none⟩ (.int .i64 Q.opn)) := ⟨_, rfl⟩
      rw [← hW5] at HPS
      replace HX : Hid (BoxAt W5 BX (10 + (i : Int)) 2 1 s true 0 (.slice (some ⟨G, 0, none⟩) 1 1)) := by
        show BoxAt _ _ _ _ _ _ _ _ _
        rw [hW5]
        exact (((HX.out.off (Ne.symm HXB.out) _).off (Ne.symm HXB.out) _).off (Ne.symm HXB.out) _).off (Ne.symm HXB.out) _
      rw [← hW5]
      clear hW5 f0 f1 f2 f3 r0 r1 r2 r3
      have q3 := HPS.out.box.c3
      rw [HQ10.out] at q3
      have x3 := HX.out.c3
      have x4 := HX.out.c4
      have g3 := HX.out.free 3
      have g4 := HX.out.free 4
      go_upto_region 15 with fail
      obtain ⟨W6, hW6⟩ : ∃ W, W = ((W5.setCell ⟨BX, 4, none⟩ (.bool false)).setCell ⟨BX, 3, none⟩ (.int .i64 s')) := ⟨_, rfl⟩
      replace HPS : Hid (PS w W6 B Q ad4 n4 cap4) := by show PS _ _ _ _ _ _ _; rw [hW6]; exact (HPS.out.off HXB.out HXL.out HNX.out _ _).off HXB.out HXL.out HNX.out _ _
      replace HX : Hid (BoxAt W6 BX (10 + (i : Int)) 2 1 s' false 0 (.slice (some ⟨G, 0, none⟩) 1 1)) := by show BoxAt _ _ _ _ _ _ _ _ _; rw [hW6]; exact (HX.out.s4 false).s3 s'
      rw [← hW6]
      clear hW6 q3 x3 x4 g3 g4
      have q0 := HPS.out.box.c0
      have q1 := HPS.out.box.c1
      have q2 := HPS.out.box.c2
      have q3 := HPS.out.box.c3
      have p0 := HX.out.c0
      have p1 := HX.out.c1
      have p2 := HX.out.c2
      have p3 := HX.out.c3
      have p4 := HX.out.c4
      have p5 := HX.out.c5
      have p6 := HX.out.c6
      have E3 : Hid (checkD ⟨Q.id, Q.epoch, Q.last, Q.opn⟩ true ⟨10 + (i : Int), 2, 1, s', false, 0, [Rc.nil]⟩ = (-1, 16)) := by
        show checkD Q true _ = _
        rw [HQ.out, HSS'.out]
        exact pm_open f (i + 1) (by omega) (Nat.succ_pos i) _
      have hql : n4 ≤ 5 := by have h3 := HPS.out.row.length; rw [HQ.out] at h3; have := pm_few f (i + 1); omega
      clear HQ10
      go_wp2_with fail
      refine (prCheck_any W6 Q.id Q.epoch Q.opn Q.last ad4 n4 cap4 HPS.out.row (by omega) true (10 + (i : Int)) 2 1 s' false 0 [Rc.nil] (some ⟨G, 0, none⟩) 1 1 rfl (by omega) (-1, 16) E3.out).mono ?_
      rintro e w7 ⟨rfl, hb7⟩
      replace HPS := Lib.hid (HPS.out.on hb7)
      clear hb7 E3 HX q0 q1 q2 q3 p0 p1 p2 p3 p4 p5 p6 hmask hs0 hs1
      go_wp2
      go_roundw
      case rel => exact ⟨i + 1, ad4, n4, cap4, by go_num, by omega, by simp, by rw [HSS'.out], by rw [← HQ.out]; exact HPS.out⟩
      case measure => simp [intOf]; omega
    · have hd : decide ((i : Int) ≤ (k : Int)) = false := decide_eq_false (by omega)
      have hdn : decide (i ≤ k) = false := decide_eq_false hik
      have hip : 0 < i := by omega
      have HIP := Lib.hid hip
      clear hik hk hmask hs0 hs1 hip
      go_wp2_with fail
      refine (within_any x2 1 wo HH2.out (by decide)).mono ?_
      rintro e wz ⟨k2, rfl, hk2, rfl⟩
      obtain ⟨mk, hmk⟩ : ∃ mk : Int, mk = 1 + (k2 : Int) := ⟨_, rfl⟩
      have HMK : Hid (mk ≠ 0) := by show _ ≠ _; omega
      go_upto_region 19 with fail
      rw [← hmk]
      clear hmk hk2
      obtain ⟨WX, hWX, hbx, hx, _⟩ := box_new wo 40 2 1 (-1) true mk (.slice none 0 0)
      obtain ⟨BX, hBX⟩ : ∃ B, B = wo.heap.size := ⟨_, rfl⟩
      have hlt := HPS.out.box.lt
      have HXB : Hid (BX ≠ B) := by show _ ≠ _; omega
      rw [← hBX] at hx
      replace HPS := Lib.hid (HPS.out.on hbx)
      have HX := Lib.hid hx
      rw [← hBX, ← hWX]
      clear hWX hBX hbx hx hlt
      have q0 := HPS.out.box.c0
      have q1 := HPS.out.box.c1
      have q2 := HPS.out.box.c2
      have q3 := HPS.out.box.c3
      have p0 := HX.out.c0
      have p1 := HX.out.c1
      have p2 := HX.out.c2
      have p3 := HX.out.c3
      have p4 := HX.out.c4
      have p5 := HX.out.c5
      have p6 := HX.out.c6
      have E1 : Hid (checkD ⟨P.id, P.epoch, P.last, P.opn⟩ true ⟨40, 2, 1, -1, true, mk, []⟩ = (-1, 0)) := by
        show checkD P true _ = _
        rw [HPP.out]
        exact pm_mark f HIP.out mk HMK.out
      have E2 : Hid (applyD ⟨P.id, P.epoch, P.last, P.opn⟩ true ⟨40, 2, 1, -1, true, mk, []⟩ = ⟨2, 1, P.last, -1⟩) := by
        show applyD P true _ = _
        rw [HPP.out]
        exact pm_close f HIP.out mk HMK.out
      have E3 : Hid (checkD ⟨2, 1, P.last, -1⟩ true ⟨40, 2, 1, -1, true, mk, []⟩ = (-1, 16)) := pm_none _ mk HMK.out
      have hpl : n ≤ 5 ∧ 0 < n := by have h3 := HPS.out.row.length; rw [HPP.out] at h3; have := pm_len f HIP.out; omega
      obtain ⟨hpl, hn0⟩ := hpl
      go_wp2_with fail
      refine (prCheck_any WX P.id P.epoch P.opn P.last ad n cap HPS.out.row (by omega) true 40 2 1 (-1) true mk [] none 0 0 rfl (by omega) (-1, 0) E1.out).mono ?_
      rintro e w3 ⟨rfl, hb3⟩
      replace HPS := Lib.hid (HPS.out.on hb3)
      replace HX := Lib.hid (HX.out.on hb3)
      clear hb3 E1 q0 q1 q2 q3 p0 p1 p2 p3 p4 p5 p6
      have q0 := HPS.out.box.c0
      have q1 := HPS.out.box.c1
      have q2 := HPS.out.box.c2
      have q3 := HPS.out.box.c3
      have p0 := HX.out.c0
      have p1 := HX.out.c1
      have p2 := HX.out.c2
      have p3 := HX.out.c3
      have p4 := HX.out.c4
      have p5 := HX.out.c5
      have p6 := HX.out.c6
      go_wp2_with fail
      refine (prApply_any w3 P.id P.epoch P.opn P.last ad n cap HPS.out.row (by omega) true 40 2 1 (-1) true mk [] none 0 0 rfl (by omega) ⟨2, 1, P.last, -1⟩ E2.out).mono ?_
      rintro e w4 ⟨ad4, n4, cap4, rfl, hrow, hnew, hb4⟩
      have hnn : n4 = n := by have h3 := hrow.length; have h4 := HPS.out.row.length; dsimp at h3; omega
      subst hnn
      have f0 := (HPS.out.box.on hb4).free 0
      have f1 := (HPS.out.box.on hb4).free 1
      have f2 := (HPS.out.box.on hb4).free 2
      have f3 := (HPS.out.box.on hb4).free 3
      have r0 := (HPS.out.box.on hb4).c0
      have r1 := (HPS.out.box.on hb4).c1
      have r2 := (HPS.out.box.on hb4).c2
      have r3 := (HPS.out.box.on hb4).c3
      replace HPS := Lib.hid (HPS.out.put hb4 hrow hnew)
      replace HX := Lib.hid (HX.out.on hb4)
      clear hrow hnew hb4 E2 q0 q1 q2 q3 p0 p1 p2 p3 p4 p5 p6
      go_upto_region 21 with fail
      obtain ⟨W5, hW5⟩ : ∃ W, W = ((((w4.setCell ⟨B, 0, none⟩ (.int .i64 2)).setCell ⟨B, 1, none⟩ (.int .i64 1)).setCell ⟨B, 2, none⟩ (.slice ad4 n4 cap4)).setCell ⟨B, 3, none⟩ (.int .i64 (-1))) := ⟨_, rfl⟩
      replace HPS : Hid (PS w W5 B ⟨2, 1, P.last, -1⟩ ad4 n4 cap4) := by show PS _ _ _ _ _ _ _; rw [hW5]; exact HPS.out
      replace HX : Hid (BoxAt W5 BX 40 2 1 (-1) true mk (.slice none 0 0)) := by
        show BoxAt _ _ _ _ _ _ _ _ _
        rw [hW5]
        exact (((HX.out.off (Ne.symm HXB.out) _).off (Ne.symm HXB.out) _).off (Ne.symm HXB.out) _).off (Ne.symm HXB.out) _
      rw [← hW5]
      clear hW5 f0 f1 f2 f3 r0 r1 r2 r3
      have q0 := HPS.out.box.c0
      have q1 := HPS.out.box.c1
      have q2 := HPS.out.box.c2
      have q3 := HPS.out.box.c3
      have p0 := HX.out.c0
      have p1 := HX.out.c1
      have p2 := HX.out.c2
      have p3 := HX.out.c3
      have p4 := HX.out.c4
      have p5 := HX.out.c5
      have p6 := HX.out.c6
      go_wp2_with fail
      refine (prCheck_any W5 2 1 (-1) P.last ad4 n4 cap4 HPS.out.row (by omega) true 40 2 1 (-1) true mk [] none 0 0 rfl (by omega) (-1, 16) E3.out).mono ?_
      rintro e w7 ⟨rfl, hb7⟩
      replace HPS := Lib.hid (HPS.out.on hb7)
      clear hb7 E3 HX q0 q1 q2 q3 p0 p1 p2 p3 p4 p5 p6
      have q0 := HPS.out.box.c0
      have q1 := HPS.out.box.c1
      have q2 := HPS.out.box.c2
      have q3 := HPS.out.box.c3
      have hn1 : decide ((0 : Int) < (n4 : Int)) = true := decide_eq_true (by omega)
      have hn2 : decide (0 < n4) = true := decide_eq_true hn0
      go_wp2_with fail
      refine (known10_any w7).mono ?_
      rintro e w8 ⟨rfl, hb8⟩
      have HBE := Lib.hid (HPS.out.on hb8).bel
      clear hb8
      go_wp2
      go_ret
      exact gives_bool rfl HBE.out
end Go.Proofs.Ytinilkkpocnnpaa
