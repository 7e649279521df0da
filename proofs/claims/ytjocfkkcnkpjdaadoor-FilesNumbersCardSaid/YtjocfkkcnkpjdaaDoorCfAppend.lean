/- Chapter 7's files as the code has them: Append. -/
import Derived.Test.YtjocfkkcnkpjdaaDoorCfPut
import Derived.Test.YtjocfkkcnkpjdaaDoorNameRight
namespace Go.Proofs.YtjocfkkcnkpjdaaDoor
open Go.RowKit
open Go.RuneMath
open Go.FsMath
set_option linter.unusedVariables false

theorem Kept.row0 {α : Type} {K : Kind α} {w w1 : World} {F : Nat → Prop} {ad : Option Addr} {len cap : Nat} {l : List α} (hk : Kept w w1 F) (hr : RowAt K w ad len cap l) (ha : ∀ a, ad = some a → 0 < len → ¬ F a.block) : RowAt K w1 ad len cap l := by
  rcases Nat.eq_zero_or_pos len with h0 | h0
  · exact ⟨hr.length, hr.fits, hr.room, .inl h0⟩
  · exact hk.row hr fun a e => ha a e h0

theorem map_len {w : World} {km : Nat} {ps : List (ByteArray × Nat)} (h : MapOf w km ps) (ty : TypeId) : (Builtin.len_ #[56] ty #[.map (some km)]).run Tryd.prog w = .ok (.int .i64 (ps.length : Int)) w := by
  obtain ⟨es, clock, hb, he⟩ := h.size
  rw [← he]
  simp [Builtin.len_, run_underlying mapT, MapKept.run_getObj_map hb, Result.andThen, goInt]
theorem cls_ins (ms : List CM) (i : Nat) (x : CM) : cls (ms.take i ++ x :: ms.drop i) = (cls ms).take i ++ x.f :: (cls ms).drop i := by
  unfold cls
  simp [List.map_take, List.map_drop]
theorem insM_at (ms : List CM) (i : Nat) (hi : i ≤ ms.length) (x : CM) : (ms.take i ++ x :: ms.drop i)[i]? = some x := by
  have : (ms.take i).length = i := by rw [List.length_take]; omega
  rw [List.getElem?_append_right (by omega), this, Nat.sub_self]
  rfl
theorem insM_mem {ms : List CM} {i : Nat} {x y : CM} (h : y ∈ ms.take i ++ x :: ms.drop i) : y = x ∨ y ∈ ms := by
  rcases List.mem_append.1 h with h1 | h1
  · exact .inr (List.mem_of_mem_take h1)
  · rcases List.mem_cons.1 h1 with h2 | h2
    · exact .inl h2
    · exact .inr (List.mem_of_mem_drop h2)
theorem insM_perm (ms : List CM) (i : Nat) (x : CM) : (ms.take i ++ x :: ms.drop i).Perm (x :: ms) := by
  have := List.perm_middle (l₁ := ms.take i) (l₂ := ms.drop i) (a := x)
  rw [List.take_append_drop] at this
  exact this
theorem pk_names {ms : List CM} {n : ByteArray} (h : ∀ m ∈ ms, m.f.name ≠ n) : (ms.map pk).filter (fun p => decide (p.1 ≠ n)) = ms.map pk := filter_names fun p hp e => by
  obtain ⟨m, hm, rfl⟩ := List.mem_map.1 hp
  exact h m hm e
theorem foot_ins {w : World} {kf km : Nat} {ms : List CM} {i j : Nat} {x : CM} (hx : w.heap.size ≤ x.k) (hv : x.v.ownBlock = none) (h : Foot kf km (ms.take i ++ x :: ms.drop i) j) : Foot kf km ms j ∨ w.heap.size ≤ j := by
  rcases h with h | h | ⟨m, hm, h⟩
  · exact .inl (.inl h)
  · exact .inl (.inr (.inl h))
  · rcases insM_mem hm with h1 | h1
    · subst h1
      rcases h with h | h
      · exact .inr (by rw [h]; exact hx)
      · rw [hv] at h; cases h
    · exact .inl (.inr (.inr ⟨m, h1, h⟩))
theorem foot_filed {w : World} {kf km : Nat} {ms : List CM} {i : Nat} {m m' : CM} (hm : ms[i]? = some m) (hk : m'.k = m.k) (ho : ∀ q, m'.v.ownBlock = some q → m.v.ownBlock = some q ∨ w.heap.size ≤ q) {j : Nat} (hj : Foot kf km (ms.set i m') j) : Foot kf km ms j ∨ w.heap.size ≤ j := by
  rcases hj with h | h | ⟨x, hx, h⟩
  · exact .inl (.inl h)
  · exact .inl (.inr (.inl h))
  · rcases List.mem_or_eq_of_mem_set hx with h1 | h1
    · exact .inl (.inr (.inr ⟨x, h1, h⟩))
    · subst h1
      rcases h with h | h
      · rw [hk] at h
        exact .inl (.inr (.inr ⟨m, List.mem_of_getElem? hm, .inl h⟩))
      · rcases ho j h with h2 | h2
        · exact .inl (.inr (.inr ⟨m, List.mem_of_getElem? hm, .inr h2⟩))
        · exact .inr h2
/-- The bytes of one file have grown. -/
theorem CfOk.grew {wa w' : World} {kf km : Nat} {left done : Int} {ms : List CM} (h : CfOk wa kf km left done ms) {i : Nat} {m : CM} (hm : ms[i]? = some m) {bs : List Nat} (hall : AllB bs) {ad1 : Option Addr} {n1 cap1 : Nat} (hn : (m.f.b ++ bs).length = n1)
    (hap : Appended byteK wa 0 m.v (m.f.b ++ bs) (.slice ad1 n1 cap1) w') : CfOk (w'.setCell ⟨m.k, 0, none⟩ (.slice ad1 n1 cap1)) kf km left done (ms.set i ⟨{ m.f with b := m.f.b ++ bs }, m.k, ad1, cap1⟩) ∧ Kept wa (w'.setCell ⟨m.k, 0, none⟩ (.slice ad1 n1 cap1)) (Foot kf km ms) := by
  have hmm := List.mem_of_getElem? hm
  obtain ⟨h1, h2, h3, h4⟩ := hap
  subst hn
  have hk := (h.ct m hmm).lt
  have hne : m.v.ownBlock ≠ some m.k := h.row_ct hmm hmm
  have hct : CtBox w' m.k m.v (m.f.lasts : Int) := (h.ct m hmm).same (h2.block m.k hk fun e => hne e.symm)
  refine ⟨h.filed hm (m' := ⟨{ m.f with b := m.f.b ++ bs }, m.k, ad1, cap1⟩) rfl rfl (hct.s0 _) ⟨?_, ?_, ?_⟩ (fun j hj hj1 hj2 => ?_) h4, ?_⟩
  · refine OwnRow.same h1 fun q hq => ?_
    refine (grow_one w' m.k 0 _).block q (h1.lt q hq).2 fun e => ?_
    have e2 := Option.some.inj e
    rcases h4 q hq with h5 | h5
    · exact hne (by rw [← e2]; exact h5)
    · omega
  · exact fun x hx => (List.mem_append.1 hx).elim ((h.row m hmm).2.1 x) (hall x)
  · show m.f.lasts ≤ (m.f.b ++ bs).length
    rw [List.length_append]
    have := (h.row m hmm).2.2
    omega
  · exact ((grow_one w' m.k 0 _).block j (Nat.lt_of_lt_of_le hj h2.size) fun e => hj1 (Option.some.inj e)).trans (h2.block j hj fun e => hj2 e.symm)
  · refine (Kept.of_own h2 fun k hk => .inl (.inr (.inr ⟨m, hmm, .inr hk⟩))).trans (Kept.of_grown (grow_one w' m.k 0 _) (.inl (.inr (.inr ⟨m, hmm, .inl rfl⟩)))) fun j hj => .inl hj
set_option maxRecDepth 100000 in
set_option maxHeartbeats 8000000 in
theorem cAppend_any (w : World) (kf km : Nat) (left done : Int) (ms : List CM) (h : CfOk w kf km left done ms) (hN : FsNum left done) (hL : ms.length ≤ 10000) (n : ByteArray) (hn : n.size ≤ 1073741824)
    (bad : Option Addr) (blen bcap : Nat) (bs : List Nat) (hbr : RowAt byteK w bad blen bcap bs) (hall : AllB bs) (hbk : ∀ a, bad = some a → 0 < blen → ¬ Foot kf km ms a.block) (hbl : ∀ m ∈ ms, m.f.name = n → m.f.b.length + blen ≤ 140737488355328) (hb0 : blen ≤ 140737488355328) (r : Int × Fs) (hr : appendF ⟨cls ms, left, done⟩ n bs = r) :
    Calls Tryd.prog 11 #[.pointer (some ⟨kf, 0, none⟩), .string n, .slice bad blen bcap] w (GivesCf w kf km ms r) := by
  have H := Lib.hid h
  have HBV := Lib.hid hbr
  obtain ⟨len, hlen⟩ : ∃ n, ms.length = n := ⟨_, rfl⟩
  have hcl : (cls ms).length = len := by unfold cls; rw [List.length_map]; exact hlen
  obtain ⟨i, hi⟩ : ∃ i, atF (cls ms) n = i := ⟨_, rfl⟩
  obtain ⟨b, hb⟩ : ∃ b, hasF (cls ms) n = b := ⟨_, rfl⟩
  obtain ⟨q0, hq0⟩ : ∃ b, rightB n.data.toList = b := ⟨_, rfl⟩
  have hile : i ≤ len := by have := atF_le (cls ms) n; omega
  have HR : Hid (r = if q0 = false then (1, ⟨cls ms, left, done⟩) else if b = false ∧ 64 ≤ len then (17, ⟨cls ms, left, done⟩) else if mayF ⟨cls ms, left, done⟩ = false then (0, ⟨cls ms, left, done⟩)
    else (0, ⟨turnF (insF (cls ms) n) i (fun f => { f with b := f.b ++ bs }), (deedF ⟨cls ms, left, done⟩).left, (deedF ⟨cls ms, left, done⟩).done⟩)) := by
    show r = _
    rw [← hr]
    unfold appendF
    simp only
    rw [hi, hb, hq0, hcl]
  have HI := Lib.hid hi
  have HH := Lib.hid hb
  have HQ0 := Lib.hid hq0
  have HBL := Lib.hid hbl
  have HLEN := Lib.hid hlen
  rw [hlen] at hL
  clear h hr hi hb hq0 hbr hbl hlen hcl
  go_enter Tryd.func11, Tryd.ntmps11
  go_wp2_with fail
  refine (right_any w n).mono ?_
  rintro e w0 ⟨rfl, hb0⟩
  rw [HQ0.out]
  have H0 := Lib.hid (H.out.on hb0)
  have HB0 := Lib.hid hb0
  have HV0 := Lib.hid (HBV.out.keep hb0)
  clear hb0 H HBV
  cases q0
  · have HE : Hid (r = (1, ⟨cls ms, left, done⟩)) := by show r = _; rw [HR.out, if_pos rfl]
    clear HR HQ0
    go_wp2
    go_ret
    exact gives_cf HE.out H0.out rfl (Kept.of_below HB0.out) foot_refl
  have HRN := HR.out
  rw [if_neg (by decide)] at HRN
  have HR1 := Lib.hid HRN
  have t0 := H0.out.box.c0
  clear HR HRN
  cases b
  · have hlk := H0.out.look0 hn HH.out
    have hln := map_len H0.out.map
    rw [List.length_map, HLEN.out] at hln
    by_cases h64 : 64 ≤ len
    · have hdl : decide (64 ≤ (len : Int)) = true := decide_eq_true (by omega)
      have HE : Hid (r = (17, ⟨cls ms, left, done⟩)) := by show r = _; rw [HR1.out, if_pos ⟨rfl, h64⟩]
      clear HR1
      go_wp2
      go_ret
      exact gives_cf HE.out H0.out rfl (Kept.of_below HB0.out) foot_refl
    have hdl : decide (64 ≤ (len : Int)) = false := decide_eq_false (by omega)
    have HRN := HR1.out
    rw [if_neg fun h => h64 h.2] at HRN
    have HR := Lib.hid HRN
    clear HR1 HRN h64
    go_wp2_with fail
    refine (cdeed_any w0 kf km left done H0.out.box hN.d0 hN.d1 hN.l0 hN.l1 (cls ms)).mono ?_
    rintro e w2 ⟨rfl, HBX2, HG2⟩
    have H2 := Lib.hid (H0.out.turned HG2.out HBX2.out)
    have HKW : Hid (Kept w w2 (Foot kf km ms)) := (Kept.of_below (F := Foot kf km ms) HB0.out).trans (Kept.of_grown HG2.out (.inl (.inl rfl))) foot_refl
    have HV2 : Hid (RowAt byteK w2 bad blen bcap bs) := Kept.row0 (F := Foot kf km ms) (Kept.of_grown HG2.out (.inl (.inl rfl))) HV0.out hbk
    obtain ⟨d, hdd⟩ : ∃ d, deedF ⟨cls ms, left, done⟩ = d := ⟨_, rfl⟩
    obtain ⟨q, hq⟩ : ∃ q, mayF ⟨cls ms, left, done⟩ = q := ⟨_, rfl⟩
    have hqd : q = false → d = ⟨cls ms, left, done⟩ := fun h => by rw [← hdd]; exact may_no (by rw [hq, h])
    have HRR := HR.out
    rw [hdd, hq] at HRR
    have HR2 := Lib.hid HRR
    have HQD := Lib.hid hqd
    rw [hdd] at H2
    rw [hq]
    clear HRR HR hqd hdd hq HBX2 HG2
    cases q
    · have HE : Hid (r = (0, ⟨cls ms, left, done⟩)) := by show r = _; rw [HR2.out, if_pos rfl]
      have hd := HQD.out rfl
      have H3 : Hid (CfOk w2 kf km left done ms) := by have := H2.out; rw [hd] at this; exact this
      clear HR2 HQD hd H2
      go_wp2
      go_ret
      exact gives_cf HE.out H3.out rfl HKW.out foot_refl
    · skip
      have KX : Hid (∀ W, W = w2.alloc (.cells #[.slice none 0 0, .int .i64 0] 62) → CfOk W kf km d.left d.done ms ∧ CtBox W w2.heap.size (.slice none 0 0) 0 ∧ Below w2.heap.size w2 W) := by
        rintro W rfl
        exact ⟨H2.out.on ((Below.refl _ w2).alloc (Nat.le_refl _) _), heap_alloc_new w2 _, (Below.refl _ w2).alloc (Nat.le_refl _) _⟩
      clear t0 hlk hln hdl
      go_wp2_with fail
      obtain ⟨w4, hw4⟩ : ∃ W, W = w2.alloc (.cells #[.slice none 0 0, .int .i64 0] 62) := ⟨_, rfl⟩
      obtain ⟨kx, hkx⟩ : ∃ k, k = w2.heap.size := ⟨_, rfl⟩
      obtain ⟨H4, hct4, hbe4⟩ := KX.out w4 hw4
      rw [← hw4, ← hkx]
      rw [← hkx] at hct4
      have HK4 : Hid (kx = w2.heap.size) := hkx
      have H4 := Lib.hid H4
      have HCT4 := Lib.hid hct4
      have HBE4 := Lib.hid hbe4
      clear hw4 hkx hct4 hbe4 KX
      refine (put_any w4 kf km d.left d.done (ms.map pk) H4.out.box H4.out.map (by rw [List.length_map, HLEN.out]; omega) n hn kx).mono ?_
      rintro e w5 ⟨rfl, hm5, hg5⟩
      obtain ⟨m, hmx⟩ : ∃ m : CM, m = ⟨⟨n, [], 0⟩, kx, none, 0⟩ := ⟨_, rfl⟩
      obtain ⟨msa, hmsa⟩ : ∃ l, l = ms.take i ++ m :: ms.drop i := ⟨_, rfl⟩
      have hmiss := H4.out.miss HH.out
      have hkx4 : w.heap.size ≤ kx := by have := HK4.out; have := HKW.out.size; omega
      have hkxn : ∀ m' ∈ ms, m'.k ≠ kx := fun m' hm' e => by have := (H2.out.ct m' hm').lt; have := HK4.out; omega
      have HA0 : CfOk w5 kf km d.left d.done msa := by
        subst hmsa
        refine H4.out.mapped hg5 (hm5.perm ?_) ?_ (fun y hy => ?_) fun y hy z hz hne => ?_
        · rw [pk_names hmiss]
          refine List.Perm.trans ?_ ((insM_perm ms i m).map pk).symm
          rw [hmx]
          exact List.Perm.refl _
        · rw [cls_ins, ← HI.out]
          have e : n = m.f.name := by rw [hmx]
          rw [e]
          refine ins_sorted H4.out.sorted (fun f hf => ?_) ?_ (by rw [← e]; exact HH.out)
          · obtain ⟨x, hx, rfl⟩ := List.mem_map.1 hf
            exact (H4.out.right x hx).1
          · rw [← e]
            exact HQ0.out
        · rcases insM_mem hy with h1 | h1
          · subst h1
            rw [hmx]
            exact ⟨⟨HQ0.out, hn⟩, HCT4.out, ownRow_nil _ _ _, (fun x hx => by cases hx), Nat.le_refl _⟩
          · exact H4.out.all h1
        · rcases insM_mem hy with h1 | h1
          · rcases insM_mem hz with h2 | h2
            · rw [h1, h2] at hne; exact absurd rfl hne
            · subst h1
              rw [hmx]
              exact ⟨fun e => hkxn z h2 e.symm, fun q hq => by cases hq⟩
          · rcases insM_mem hz with h2 | h2
            · subst h2
              rw [hmx]
              exact ⟨fun e => hkxn y h1 e, fun q hq e => by cases e⟩
            · exact H4.out.apart y h1 z h2 hne
      have HA := Lib.hid HA0
      have HM : Hid (msa[i]? = some m) := by show _ = _; rw [hmsa]; exact insM_at ms i (by rw [HLEN.out]; omega) m
      have HE : Hid (r = (0, ⟨(cls msa).set i { m.f with b := m.f.b ++ bs }, d.left, d.done⟩)) := by
        show r = _
        rw [HR2.out, if_neg (by decide)]
        have e : insF (cls ms) n = cls msa := by
          unfold insF
          rw [HH.out, if_neg (by decide), HI.out, hmsa, cls_ins, hmx]
        rw [e]
        unfold turnF
        rw [cls_at HM.out]
      have hkm4 : w.heap.size ≤ km ∨ Foot kf km ms km := .inr (.inr (.inl rfl))
      have HKA : Hid (Kept w w5 (Foot kf km ms)) := (HKW.out.trans (Kept.of_below (F := Foot kf km ms) HBE4.out) foot_refl).trans (Kept.of_grown hg5 (.inl (.inr (.inl rfl)))) foot_refl
      have HNA : Hid (∀ j, Foot kf km msa j → Foot kf km ms j ∨ w.heap.size ≤ j) := by
        show ∀ j, _
        rw [hmsa]
        exact fun j hj => foot_ins (by rw [hmx]; exact hkx4) (by rw [hmx]; rfl) hj
      have HBA : Hid (RowAt byteK w5 bad blen bcap bs) := Kept.row0 (F := Foot kf km ms) ((Kept.of_below (F := Foot kf km ms) HBE4.out).trans (Kept.of_grown hg5 (.inl (.inr (.inl rfl)))) foot_refl) HV2.out hbk
      have hk : m.k = kx := by rw [hmx]
      have hbl1 : m.f.b.length + blen ≤ 140737488355328 := by rw [hmx]; show ([] : List Nat).length + blen ≤ _; rw [List.length_nil]; omega
      rw [← hk]
      clear hmx hmsa hmiss hkx4 hkxn HA0 hkm4 hm5 hg5 hk HR2 HQD
      obtain ⟨wa, hwa⟩ : ∃ x : World, x = w5 := ⟨_, rfl⟩
      subst hwa
      have hmm := List.mem_of_getElem? HM.out
      have HROW := Lib.hid (HA.out.row m hmm).1
      have hct := HA.out.ct m hmm
      have c0 := hct.c0
      unfold CM.v at c0
      have HCT := Lib.hid hct
      have HNE := Lib.hid (HA.out.row_ct hmm hmm)
      have HLB : Hid (bs.length = blen) := HBA.out.length
      clear hmm hct
      go_wp2_with (at_builtin; refine list_bytes (by rfl) (.tmp 42) (.tmp 43) rfl 0 m.f.b bs _ rfl HROW.out (Nat.zero_le _) bad blen bcap rfl HBA.out hbl1 ?_)
      rintro v' w7 hap
      have hlt : (m.f.b ++ bs).length = m.f.b.length + blen := by rw [List.length_append, HLB.out]
      obtain ⟨ad1, cap1, rfl, _, _⟩ := OwnRow.row byteK_ok hap.1 hlt
      have hct7 : CtBox w7 m.k m.v (m.f.lasts : Int) := HCT.out.same (hap.2.1.block m.k HCT.out.lt fun e => HNE.out e.symm)
      have HZ := Lib.hid (HA.out.grew HM.out hall hlt hap)
      have HAP := Lib.hid hap
      have HLT := Lib.hid hlt
      have c7 := hct7.c0
      have f7 := hct7.free 0
      clear hap hlt hct7 c0
      go_wp2
      go_ret
      refine gives_cf HE.out HZ.out.1 (cls_set _ _ _) (HKA.out.trans HZ.out.2 fun j hj => HNA.out j hj) fun j hj => ?_
      have hsz := HKA.out.size
      rcases foot_filed (m' := ⟨{ m.f with b := m.f.b ++ bs }, m.k, ad1, cap1⟩) HM.out rfl (fun q hq => HAP.out.2.2.2 q (by rw [← hq]; cases ad1 <;> rfl)) hj with h5 | h5
      · exact HNA.out j h5
      · exact .inr (by omega)
  · obtain ⟨m, hm, rfl, hat⟩ := H0.out.hit HH.out
    have hlk := H0.out.look1 hm
    have HRN := HR1.out
    rw [if_neg fun h => by cases h.1] at HRN
    have HR := Lib.hid HRN
    have HM0 := Lib.hid hat
    have hbl1 := HBL.out m hm rfl
    rw [HI.out] at HM0
    clear HR1 HRN hm hat
    go_wp2_with fail
    refine (cdeed_any w0 kf km left done H0.out.box hN.d0 hN.d1 hN.l0 hN.l1 (cls ms)).mono ?_
    rintro e w2 ⟨rfl, HBX2, HG2⟩
    have H2 := Lib.hid (H0.out.turned HG2.out HBX2.out)
    have HKW : Hid (Kept w w2 (Foot kf km ms)) := (Kept.of_below (F := Foot kf km ms) HB0.out).trans (Kept.of_grown HG2.out (.inl (.inl rfl))) foot_refl
    have HV2 : Hid (RowAt byteK w2 bad blen bcap bs) := Kept.row0 (F := Foot kf km ms) (Kept.of_grown HG2.out (.inl (.inl rfl))) HV0.out hbk
    obtain ⟨d, hdd⟩ : ∃ d, deedF ⟨cls ms, left, done⟩ = d := ⟨_, rfl⟩
    obtain ⟨q, hq⟩ : ∃ q, mayF ⟨cls ms, left, done⟩ = q := ⟨_, rfl⟩
    have hqd : q = false → d = ⟨cls ms, left, done⟩ := fun h => by rw [← hdd]; exact may_no (by rw [hq, h])
    have HRR := HR.out
    rw [hdd, hq] at HRR
    have HR2 := Lib.hid HRR
    have HQD := Lib.hid hqd
    rw [hdd] at H2
    rw [hq]
    clear HRR HR hqd hdd hq HBX2 HG2
    cases q
    · have HE : Hid (r = (0, ⟨cls ms, left, done⟩)) := by show r = _; rw [HR2.out, if_pos rfl]
      have hd := HQD.out rfl
      have H3 : Hid (CfOk w2 kf km left done ms) := by have := H2.out; rw [hd] at this; exact this
      clear HR2 HQD hd H2
      go_wp2
      go_ret
      exact gives_cf HE.out H3.out rfl HKW.out foot_refl
    · skip
      obtain ⟨msa, hmsa⟩ : ∃ x, x = ms := ⟨_, rfl⟩
      subst hmsa
      obtain ⟨wa, hwa⟩ : ∃ x : World, x = w2 := ⟨_, rfl⟩
      subst hwa
      have HA := H2
      have HM := HM0
      have HKA := HKW
      have HNA : Hid (∀ j, Foot kf km msa j → Foot kf km msa j ∨ w.heap.size ≤ j) := fun j hj => .inl hj
      have HBA := HV2
      have HE : Hid (r = (0, ⟨(cls msa).set i { m.f with b := m.f.b ++ bs }, d.left, d.done⟩)) := by
        show r = _
        rw [HR2.out, if_neg (by decide)]
        unfold insF
        rw [HH.out, if_pos rfl]
        unfold turnF
        rw [cls_at HM.out]
      clear HR2 HQD
      have hmm := List.mem_of_getElem? HM.out
      have HROW := Lib.hid (HA.out.row m hmm).1
      have hct := HA.out.ct m hmm
      have c0 := hct.c0
      unfold CM.v at c0
      have HCT := Lib.hid hct
      have HNE := Lib.hid (HA.out.row_ct hmm hmm)
      have HLB : Hid (bs.length = blen) := HBA.out.length
      clear hmm hct
      go_wp2_with (at_builtin; refine list_bytes (by rfl) (.tmp 42) (.tmp 43) rfl 0 m.f.b bs _ rfl HROW.out (Nat.zero_le _) bad blen bcap rfl HBA.out hbl1 ?_)
      rintro v' w7 hap
      have hlt : (m.f.b ++ bs).length = m.f.b.length + blen := by rw [List.length_append, HLB.out]
      obtain ⟨ad1, cap1, rfl, _, _⟩ := OwnRow.row byteK_ok hap.1 hlt
      have hct7 : CtBox w7 m.k m.v (m.f.lasts : Int) := HCT.out.same (hap.2.1.block m.k HCT.out.lt fun e => HNE.out e.symm)
      have HZ := Lib.hid (HA.out.grew HM.out hall hlt hap)
      have HAP := Lib.hid hap
      have HLT := Lib.hid hlt
      have c7 := hct7.c0
      have f7 := hct7.free 0
      clear hap hlt hct7 c0
      go_wp2
      go_ret
      refine gives_cf HE.out HZ.out.1 (cls_set _ _ _) (HKA.out.trans HZ.out.2 fun j hj => HNA.out j hj) fun j hj => ?_
      have hsz := HKA.out.size
      rcases foot_filed (m' := ⟨{ m.f with b := m.f.b ++ bs }, m.k, ad1, cap1⟩) HM.out rfl (fun q hq => HAP.out.2.2.2 q (by rw [← hq]; cases ad1 <;> rfl)) hj with h5 | h5
      · exact HNA.out j h5
      · exact .inr (by omega)
end Go.Proofs.YtjocfkkcnkpjdaaDoor
