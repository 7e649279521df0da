/- Chapter 7's files as the code has them: Deeds, Stop, Len, Sync, Truncate, Remove. -/
import Derived.Test.YtjocfkkcnkpjdaaDoorCfMem
import Derived.Deep.CutRange
namespace Go.Proofs.YtjocfkkcnkpjdaaDoor
open Go.RowKit
open Go.RuneMath
open Go.FsMath
set_option linter.unusedVariables false

theorem mapT : Tryd.prog.underlying 56 = some (.map 9 60) := Tryd.underlying56
theorem zeroC (w : World) : (zeroValue 60).run Tryd.prog w = .ok (.pointer none) w := by kernel_rfl
section
variable {w : World} {kf km : Nat} {left done : Int} {ms : List CM}
theorem CfOk.look0 (h : CfOk w kf km left done ms) {n : ByteArray} (hn : n.size ≤ 1073741824) (hb : hasF (cls ms) n = false) : (Instr.lookup 56 (.map (some km)) (.string n) false).run Tryd.prog w = .ok (.pointer none) w :=
  map_none mapT Tryd.underlying9 h.map n (by unfold maxLen; omega) (fun p hp e => by
    obtain ⟨m, hm, rfl⟩ := List.mem_map.1 hp
    exact h.miss hb m hm e) (zeroC w)
theorem CfOk.look1 (h : CfOk w kf km left done ms) {m : CM} (hm : m ∈ ms) : (Instr.lookup 56 (.map (some km)) (.string m.f.name) false).run Tryd.prog w = .ok (.pointer (some ⟨m.k, 0, none⟩)) w :=
  map_some mapT Tryd.underlying9 h.map m.f.name (by have := (h.right m hm).2; unfold maxLen; omega) m.k (List.mem_map.2 ⟨m, hm, rfl⟩)
theorem may_no {l : List Fl} (hq : mayF ⟨l, left, done⟩ = false) : deedF ⟨l, left, done⟩ = ⟨l, left, done⟩ := by
  unfold mayF at hq
  unfold deedF
  rw [if_pos (by simpa using hq)]
theorem deed_list (l : List Fl) : (deedF ⟨l, left, done⟩).l = l := by
  unfold deedF
  split <;> rfl
end
/-- The numbers of a file system that is not too old. -/
structure FsNum (left done : Int) : Prop where
  d0 : 0 ≤ done
  d1 : done ≤ 4611686018427387904
  l0 : -1 ≤ left
  l1 : left ≤ 9223372036854775807
theorem cDeeds_any (w : World) (kf km : Nat) (left done : Int) (h : CBox w kf km left done) : Calls Tryd.prog 20 #[.pointer (some ⟨kf, 0, none⟩)] w fun e w' => e = .returned (.int .i64 done) ∧ w = w' := by
  have t1 := h.c1
  clear h
  go_enter Tryd.func20, Tryd.ntmps20
  go_wp2
  go_ret
  exact ⟨rfl, rfl⟩
theorem cStop_any (w : World) (kf km : Nat) (left done : Int) (ms : List CM) (h : CfOk w kf km left done ms) (k : Int) : Calls Tryd.prog 18 #[.pointer (some ⟨kf, 0, none⟩), .int .i64 k] w fun e w' => e = .returned (.tuple #[]) ∧ CfOk w' kf km k done ms ∧ w.grownBy w' (some kf) := by
  have H := Lib.hid h
  have t2 := h.box.c2
  have f2 := h.box.free 2
  clear h
  go_enter Tryd.func18, Tryd.ntmps18
  go_wp2
  go_end0
  exact ⟨rfl, H.out.turned (grow_set (grow_refl w _) 2 _) (H.out.box.s2 k), grow_set (grow_refl w _) 2 _⟩
/-- How many bytes a file has. -/
def lenF (l : List Fl) (n : ByteArray) : Nat := match l[atF l n]? with | some f => if f.name = n then f.b.length else 0 | none => 0
theorem len_none {l : List Fl} {n : ByteArray} (h : hasF l n = false) : lenF l n = 0 := by
  unfold lenF
  unfold hasF at h
  split
  · rename_i f hf
    rw [hf] at h
    simp only at h
    rw [if_neg fun e => by rw [eqS_iff.2 e] at h; cases h]
  · rfl
theorem len_some {w : World} {kf km : Nat} {left done : Int} {ms : List CM} (h : CfOk w kf km left done ms) {m : CM} (hm : m ∈ ms) : lenF (cls ms) m.f.name = m.f.b.length := by
  unfold lenF
  rw [cls_at (h.at hm).1]
  exact if_pos rfl
set_option maxRecDepth 100000 in
theorem cLen_any (w : World) (kf km : Nat) (left done : Int) (ms : List CM) (h : CfOk w kf km left done ms) (n : ByteArray) (hn : n.size ≤ 1073741824) : Calls Tryd.prog 23 #[.pointer (some ⟨kf, 0, none⟩), .string n] w fun e w' => e = .returned (.int .i64 (lenF (cls ms) n : Int)) ∧ w = w' := by
  have H := Lib.hid h
  have t0 := h.box.c0
  cases hb : hasF (cls ms) n
  · have hlk := h.look0 hn hb
    have HL := Lib.hid (len_none hb)
    clear h hb
    go_enter Tryd.func23, Tryd.ntmps23
    go_wp2
    go_ret
    exact ⟨by rw [HL.out]; rfl, rfl⟩
  · obtain ⟨m, hm, rfl, _⟩ := h.hit hb
    have hlk := h.look1 hm
    have HL := Lib.hid (len_some h hm)
    have c0 := (h.ct m hm).c0
    unfold CM.v at c0
    clear h hb hm
    go_enter Tryd.func23, Tryd.ntmps23
    go_wp2
    go_ret
    exact ⟨by rw [HL.out]; rfl, rfl⟩
theorem foot_set {kf km : Nat} {ms : List CM} {i : Nat} {m m' : CM} (hm : ms[i]? = some m) (hk : m'.k = m.k) (hv : m'.v.ownBlock = m.v.ownBlock) {j : Nat} (hj : Foot kf km (ms.set i m') j) : Foot kf km ms j := by
  rcases hj with h | h | ⟨x, hx, h⟩
  · exact .inl h
  · exact .inr (.inl h)
  · rcases List.mem_or_eq_of_mem_set hx with h1 | h1
    · exact .inr (.inr ⟨x, h1, h⟩)
    · subst h1
      rw [hk, hv] at h
      exact .inr (.inr ⟨m, List.mem_of_getElem? hm, h⟩)
/-- A slice that is cut is its block's still. -/
theorem own_cut {w : World} {base : Nat} {ad : Option Addr} {len cap : Nat} {l : List Nat} (h : OwnRow byteK w base (.slice ad len cap) l) (hl : l.length = len) (k : Nat) (hk : k ≤ len) : OwnRow byteK w base (.slice ad k cap) (l.take k) := by
  rw [own_bytes] at h ⊢
  have hlk : (l.take k).length = k := by rw [List.length_take]; omega
  refine ⟨by rw [length_vals, hlk, Nat.mul_one], ?_⟩
  rcases h.2 with ⟨h0, h1⟩ | ⟨g, c, cur, h1, h2, h3, h4, h5, h6, h7⟩
  · cases h0
    have : k = 0 := by omega
    subst this
    exact .inl ⟨rfl, by rw [hlk]⟩
  · cases h1
    refine .inr ⟨g, cap, cur, by rw [hlk], h2, h3, by omega, h5, h6, ?_⟩
    rw [Nat.mul_one] at h7
    rw [hlk, Nat.mul_one]
    have e : cur.toList.take k = (cur.toList.take l.length).take k := by rw [List.take_take, Nat.min_eq_left (by omega)]
    rw [e, h7]
    unfold vals
    rw [List.map_take]
set_option maxRecDepth 100000 in
set_option maxHeartbeats 4000000 in
theorem cSync_any (w : World) (kf km : Nat) (left done : Int) (ms : List CM) (h : CfOk w kf km left done ms) (hN : FsNum left done) (n : ByteArray) (hn : n.size ≤ 1073741824) (r : Int × Fs) (hr : syncF ⟨cls ms, left, done⟩ n = r) :
    Calls Tryd.prog 15 #[.pointer (some ⟨kf, 0, none⟩), .string n] w (GivesCf w kf km ms r) := by
  have H := Lib.hid h
  have t0 := h.box.c0
  cases hb : hasF (cls ms) n
  · have hlk := h.look0 hn hb
    have HE : Hid (r = (22, ⟨cls ms, left, done⟩)) := by
      show r = _
      rw [← hr]
      unfold syncF
      rw [if_pos hb]
    clear h hb hr
    go_enter Tryd.func15, Tryd.ntmps15
    go_wp2
    go_ret
    exact gives_cf HE.out H.out rfl (Kept.refl _ _) foot_refl
  · obtain ⟨m, hm, rfl, hat⟩ := h.hit hb
    have hlk := h.look1 hm
    have c0 := (h.ct m hm).c0
    unfold CM.v at c0
    have HA := Lib.hid hat
    have HMM := Lib.hid hm
    have HR : Hid (r = if mayF ⟨cls ms, left, done⟩ = false then (0, ⟨cls ms, left, done⟩) else (0, ⟨(cls ms).set (atF (cls ms) m.f.name) { m.f with lasts := m.f.b.length }, (deedF ⟨cls ms, left, done⟩).left, (deedF ⟨cls ms, left, done⟩).done⟩)) := by
      show r = _
      rw [← hr]
      unfold syncF
      rw [if_neg (by rw [hb]; decide)]
      unfold turnF
      rw [cls_at hat]
    clear h hb hr hat hm c0
    go_enter Tryd.func15, Tryd.ntmps15
    go_wp2_with fail
    refine (cdeed_any w kf km left done H.out.box hN.d0 hN.d1 hN.l0 hN.l1 (cls ms)).mono ?_
    rintro e w2 ⟨rfl, HBX2, HG2⟩
    have H2 := Lib.hid (H.out.turned HG2.out HBX2.out)
    have HK2 : Hid (Kept w w2 (Foot kf km ms)) := Kept.of_grown HG2.out (.inl (.inl rfl))
    obtain ⟨d, hdd⟩ : ∃ d, deedF ⟨cls ms, left, done⟩ = d := ⟨_, rfl⟩
    obtain ⟨q, hq⟩ : ∃ q, mayF ⟨cls ms, left, done⟩ = q := ⟨_, rfl⟩
    have hqd : q = false → d = ⟨cls ms, left, done⟩ := fun h => by rw [← hdd]; exact may_no (by rw [hq, h])
    have HRR := HR.out
    rw [hdd, hq] at HRR
    have HR2 := Lib.hid HRR
    have HQD := Lib.hid hqd
    rw [hdd] at H2
    rw [hq]
    clear HRR HR hqd hdd hq HBX2 HG2
    cases q
    · have HE : Hid (r = (0, ⟨cls ms, left, done⟩)) := by show r = _; rw [HR2.out, if_pos rfl]
      have hd := HQD.out rfl
      have H3 : Hid (CfOk w2 kf km left done ms) := by have := H2.out; rw [hd] at this; exact this
      clear HR2 HQD hd H2
      go_wp2
      go_ret
      exact gives_cf HE.out H3.out rfl HK2.out foot_refl
    · have HE := HR2.out
      rw [if_neg (by decide)] at HE
      have HE2 := Lib.hid HE
      have hct := H2.out.ct m HMM.out
      have c0 := hct.c0
      have c1 := hct.c1
      have f1 := hct.free 1
      unfold CM.v at c0
      clear HE HR2 HQD hct
      go_wp2
      go_ret
      refine gives_cf HE2.out (H2.out.filed HA.out (m' := ⟨{ m.f with lasts := m.f.b.length }, m.k, m.ad, m.cap⟩) rfl rfl ((H2.out.ct m HMM.out).s1 _) ⟨(H2.out.row m HMM.out).1.same fun q hq => ?_, (H2.out.row m HMM.out).2.1, Nat.le_refl _⟩ (fun j hj hj1 _ => (grow_one w2 m.k 1 _).block j hj fun e => hj1 (by cases e; rfl)) (fun q hq => .inl hq)) (cls_set _ _ _) (HK2.out.trans (Kept.of_grown (grow_one w2 m.k 1 _) (.inl (.inr (.inr ⟨m, HMM.out, .inl rfl⟩)))) foot_refl) ?_
      · exact (grow_one w2 m.k 1 _).block q ((H2.out.row m HMM.out).1.lt q hq).2 fun e => H2.out.row_ct HMM.out HMM.out (by rw [← Option.some.inj e]; exact hq)
      · exact fun i hi => .inl (foot_set (m' := ⟨{ m.f with lasts := m.f.b.length }, m.k, m.ad, m.cap⟩) HA.out rfl rfl hi)
set_option maxRecDepth 100000 in
set_option maxHeartbeats 4000000 in
theorem cTruncate_any (w : World) (kf km : Nat) (left done : Int) (ms : List CM) (h : CfOk w kf km left done ms) (hN : FsNum left done) (n : ByteArray) (hn : n.size ≤ 1073741824) (k : Int) (r : Int × Fs) (hr : truncF ⟨cls ms, left, done⟩ n k = r) :
    Calls Tryd.prog 24 #[.pointer (some ⟨kf, 0, none⟩), .string n, .int .i64 k] w (GivesCf w kf km ms r) := by
  have H := Lib.hid h
  have t0 := h.box.c0
  cases hb : hasF (cls ms) n
  · have hlk := h.look0 hn hb
    have HE : Hid (r = (22, ⟨cls ms, left, done⟩)) := by
      show r = _
      rw [← hr]
      unfold truncF
      unfold hasF at hb
      simp only
      split
      · rename_i f hf
        rw [hf] at hb
        simp only at hb
        rw [if_pos fun e => by rw [eqS_iff.2 e] at hb; cases hb]
      · rfl
    clear h hb hr
    go_enter Tryd.func24, Tryd.ntmps24
    go_wp2
    go_ret
    exact gives_cf HE.out H.out rfl (Kept.refl _ _) foot_refl
  · obtain ⟨m, hm, rfl, hat⟩ := h.hit hb
    have hlk := h.look1 hm
    have c0 := (h.ct m hm).c0
    unfold CM.v at c0
    have HA := Lib.hid hat
    have HMM := Lib.hid hm
    have HR0 : r = if k < 0 ∨ (m.f.b.length : Int) < k then (1, ⟨cls ms, left, done⟩) else if mayF ⟨cls ms, left, done⟩ = false then (0, ⟨cls ms, left, done⟩) else (0, ⟨(cls ms).set (atF (cls ms) m.f.name) { m.f with b := m.f.b.take k.toNat, lasts := k.toNat }, (deedF ⟨cls ms, left, done⟩).left, (deedF ⟨cls ms, left, done⟩).done⟩) := by
      rw [← hr]
      unfold truncF
      rw [cls_at hat]
      simp only
      rw [if_neg (fun e => e rfl)]
    have HRW := Lib.hid (h.row m hm)
    clear h hb hr hat hm
    by_cases hbad : k < 0 ∨ (m.f.b.length : Int) < k
    · rw [if_pos hbad] at HR0
      have HE := Lib.hid HR0
      clear HR0
      by_cases hk0 : k < 0
      · have hd : decide (k < 0) = true := decide_eq_true hk0
        go_enter Tryd.func24, Tryd.ntmps24
        go_wp2
        go_ret
        exact gives_cf HE.out H.out rfl (Kept.refl _ _) foot_refl
      · have hd : decide (k < 0) = false := decide_eq_false hk0
        have hd2 : decide ((m.f.b.length : Int) < k) = true := decide_eq_true (by omega)
        go_enter Tryd.func24, Tryd.ntmps24
        go_wp2
        go_ret
        exact gives_cf HE.out H.out rfl (Kept.refl _ _) foot_refl
    · rw [if_neg hbad] at HR0
      have HR := Lib.hid HR0
      clear HR0
      have hd : decide (k < 0) = false := decide_eq_false (by omega)
      have hd2 : decide ((m.f.b.length : Int) < k) = false := decide_eq_false (by omega)
      obtain ⟨t, rfl⟩ : ∃ t : Nat, k = (t : Int) := ⟨k.toNat, by omega⟩
      have htl : t ≤ m.f.b.length := by omega
      rw [show ((t : Int)).toNat = t from rfl] at HR
      clear hbad
      go_enter Tryd.func24, Tryd.ntmps24
      go_wp2_with fail
      refine (cdeed_any w kf km left done H.out.box hN.d0 hN.d1 hN.l0 hN.l1 (cls ms)).mono ?_
      rintro e w2 ⟨rfl, HBX2, HG2⟩
      have H2 := Lib.hid (H.out.turned HG2.out HBX2.out)
      have HK2 : Hid (Kept w w2 (Foot kf km ms)) := Kept.of_grown HG2.out (.inl (.inl rfl))
      obtain ⟨d, hdd⟩ : ∃ d, deedF ⟨cls ms, left, done⟩ = d := ⟨_, rfl⟩
      obtain ⟨q, hq⟩ : ∃ q, mayF ⟨cls ms, left, done⟩ = q := ⟨_, rfl⟩
      have hqd : q = false → d = ⟨cls ms, left, done⟩ := fun h => by rw [← hdd]; exact may_no (by rw [hq, h])
      have HRR := HR.out
      rw [hdd, hq] at HRR
      have HR2 := Lib.hid HRR
      have HQD := Lib.hid hqd
      rw [hdd] at H2
      rw [hq]
      clear HRR HR hqd hdd hq HBX2 HG2
      cases q
      · have HE : Hid (r = (0, ⟨cls ms, left, done⟩)) := by show r = _; rw [HR2.out, if_pos rfl]
        have hd := HQD.out rfl
        have H3 : Hid (CfOk w2 kf km left done ms) := by have := H2.out; rw [hd] at this; exact this
        clear HR2 HQD hd H2
        go_wp2
        go_ret
        exact gives_cf HE.out H3.out rfl HK2.out foot_refl
      · have HE := HR2.out
        rw [if_neg (by decide)] at HE
        have HE2 := Lib.hid HE
        have hct := H2.out.ct m HMM.out
        have c0 := hct.c0
        have c1 := hct.c1
        have f0 := hct.free 0
        have f1 := hct.free 1
        unfold CM.v at c0
        obtain ⟨ad, cap, hcv, hcr, _⟩ := OwnRow.row byteK_ok (H2.out.row m HMM.out).1 rfl
        unfold CM.v at hcv
        simp only [Value.slice.injEq] at hcv
        have hfits := hcr.fits
        rw [← hcv.2.2] at hfits
        have hup : ∀ W, (Instr.slice 23 (.slice m.ad m.f.b.length m.cap) none (some (.int .i64 (t : Int))) none).run Tryd.prog W = .ok (.slice m.ad t m.cap) W := row_upto byteK_ok m.ad m.f.b.length m.cap t (by omega)
        clear HE HR2 HQD hct hcv hcr hfits
        go_wp2
        go_ret
        have hg2 : w2.grownBy ((w2.setCell ⟨m.k, 0, none⟩ (.slice m.ad t m.cap)).setCell ⟨m.k, 1, none⟩ (.int .i64 (t : Int))) (some m.k) := grow_set (grow_set (grow_refl w2 _) 0 _) 1 _
        have hb2 : CtBox ((w2.setCell ⟨m.k, 0, none⟩ (.slice m.ad t m.cap)).setCell ⟨m.k, 1, none⟩ (.int .i64 (t : Int))) m.k (.slice m.ad t m.cap) (t : Int) := ((H2.out.ct m HMM.out).s0 _).s1 _
        have hlt : (m.f.b.take t).length = t := by rw [List.length_take]; omega
        refine gives_cf HE2.out (H2.out.filed HA.out (m' := ⟨{ m.f with b := m.f.b.take t, lasts := t }, m.k, m.ad, m.cap⟩) rfl rfl (by unfold CM.v; simp only [hlt]; exact hb2) ⟨?_, fun x hx => (H2.out.row m HMM.out).2.1 x (List.mem_of_mem_take hx), by rw [hlt]; exact Nat.le_refl _⟩ (fun j hj hj1 _ => hg2.block j hj fun e => hj1 (by cases e; rfl)) (fun q hq => .inl (by cases hmad : m.ad with | none => simp only [CM.v, hmad, Value.ownBlock] at hq; cases hq | some a => simp only [CM.v, hmad, Value.ownBlock] at hq ⊢; exact hq))) (cls_set _ _ _) (HK2.out.trans (Kept.of_grown hg2 (.inl (.inr (.inr ⟨m, HMM.out, .inl rfl⟩)))) foot_refl) ?_
        · unfold CM.v
          simp only [hlt]
          refine (own_cut (show OwnRow byteK w2 0 (.slice m.ad m.f.b.length m.cap) m.f.b from (H2.out.row m HMM.out).1) rfl t htl).same fun q hq => ?_
          have hq2 : m.v.ownBlock = some q := by cases hmad : m.ad with | none => simp only [hmad, Value.ownBlock] at hq; cases hq | some a => simp only [CM.v, hmad, Value.ownBlock] at hq ⊢; exact hq
          exact hg2.block q ((H2.out.row m HMM.out).1.lt q hq2).2 fun e => H2.out.row_ct HMM.out HMM.out (by rw [← Option.some.inj e]; exact hq2)
        · exact fun i hi => .inl (foot_set (m' := ⟨{ m.f with b := m.f.b.take t, lasts := t }, m.k, m.ad, m.cap⟩) HA.out rfl (by unfold CM.v; cases m.ad <;> rfl) hi)
end Go.Proofs.YtjocfkkcnkpjdaaDoor
