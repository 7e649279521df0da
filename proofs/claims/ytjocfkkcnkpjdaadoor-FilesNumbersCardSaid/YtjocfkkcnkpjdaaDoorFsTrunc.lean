/- Chapter 7's own files: Truncate. -/
import Derived.Test.YtjocfkkcnkpjdaaDoorFsSync
namespace Go.Proofs.YtjocfkkcnkpjdaaDoor
open Go.RowKit
open Go.RuneMath
open Go.FsMath
set_option linter.unusedVariables false

theorem FsOk.cells {w : World} {kf g len cap i : Nat} {left done : Int} {ms : List FM} {m : FM} (h : FsOk w kf (.slice (some ⟨g, 0, none⟩) len cap) left done ms) (hm : ms[i]? = some m) : ms.length = len ∧ kf < g ∧ g < w.heap.size ∧
    w.cell? ⟨g, i * 3, none⟩ = some (.string m.f.name) ∧ w.cell? ⟨g, i * 3 + 1, none⟩ = some (.slice m.ad m.f.b.length m.cap) ∧ w.cell? ⟨g, i * 3 + 2, none⟩ = some (.int .i64 (m.f.lasts : Int)) ∧ (∀ j, w.frozen? ⟨g, j, none⟩ = false) := by
  obtain ⟨g', len', cap', m', e, hlen, hm', h1, h2, _, h3⟩ := fs_open h (List.getElem?_eq_some_iff.1 hm).1
  cases e
  rw [hm] at hm'
  cases hm'
  exact ⟨hlen, h1, h2, h3⟩
theorem trunc_none {ms : List FM} {n : ByteArray} {left done k : Int} (h : hasF (fls ms) n = false) : truncF ⟨fls ms, left, done⟩ n k = (22, ⟨fls ms, left, done⟩) := by
  unfold truncF
  unfold hasF at h
  simp only
  split
  · rename_i f hf
    rw [hf] at h
    simp only at h
    rw [if_pos]
    intro e
    rw [eqS_iff.2 e] at h
    cases h
  · rfl
theorem trunc_some {ms : List FM} {n : ByteArray} {left done k : Int} (h : hasF (fls ms) n = true) {m : FM} (hm : ms[atF (fls ms) n]? = some m) : truncF ⟨fls ms, left, done⟩ n k =
    if k < 0 ∨ (m.f.b.length : Int) < k then (1, ⟨fls ms, left, done⟩) else if mayF ⟨fls ms, left, done⟩ = false then (0, ⟨fls ms, left, done⟩)
    else (0, ⟨(fls ms).set (atF (fls ms) n) { m.f with b := m.f.b.take k.toNat, lasts := k.toNat }, (deedF ⟨fls ms, left, done⟩).left, (deedF ⟨fls ms, left, done⟩).done⟩) := by
  obtain ⟨m', hm', he⟩ := has_len h
  rw [hm] at hm'
  cases hm'
  unfold truncF
  rw [fls_at hm]
  simp only
  rw [if_neg (fun hne => hne he)]
def Smalls (ms : List FM) : Prop := ∀ m ∈ ms, m.f.b.length ≤ 1000000000
set_option maxRecDepth 100000 in
set_option maxHeartbeats 4000000 in
theorem fsTrunc_any (w : World) (kf : Nat) (v : Value) (left done : Int) (ms : List FM) (h : FsOk w kf v left done ms) (hL : ms.length ≤ 1000000) (hN : NamesOk ms) (hB : Smalls ms) (hd0 : 0 ≤ done) (hd1 : done ≤ 4611686018427387904) (hl0 : -1 ≤ left) (hl1 : left ≤ 9223372036854775807) (n : ByteArray) (hn : n.size ≤ 1073741824) (k : Int) (r : Int × Fs) (hr : truncF ⟨fls ms, left, done⟩ n k = r) :
    Calls Tryd.prog 26 #[.pointer (some ⟨kf, 0, none⟩), .string n, .int .i64 k] w (GivesFs w kf v ms r) := by
  have H := Lib.hid h
  obtain ⟨i, hi⟩ : ∃ i, atF (fls ms) n = i := ⟨_, rfl⟩
  obtain ⟨b, hb⟩ : ∃ b, hasF (fls ms) n = b := ⟨_, rfl⟩
  have CA := Lib.hid (at_ok w kf v left done ms h hL hN n hn)
  rw [hi, hb] at CA
  have HR0 : Hid (b = false → r = (22, ⟨fls ms, left, done⟩)) := by
    intro h0
    rw [← hr]
    exact trunc_none (by rw [hb]; exact h0)
  have HR1 : Hid (b = true → ∀ m, ms[i]? = some m → r = if k < 0 ∨ (m.f.b.length : Int) < k then (1, ⟨fls ms, left, done⟩) else if mayF ⟨fls ms, left, done⟩ = false then (0, ⟨fls ms, left, done⟩)
    else (0, ⟨(fls ms).set i { m.f with b := m.f.b.take k.toNat, lasts := k.toNat }, (deedF ⟨fls ms, left, done⟩).left, (deedF ⟨fls ms, left, done⟩).done⟩)) := by
    intro h0 m hm
    rw [← hr, ← hi]
    exact trunc_some (by rw [hb]; exact h0) (by rw [hi]; exact hm)
  have HLT : Hid (b = true → i < ms.length) := by
    intro hb1
    rw [← hb] at hb1
    obtain ⟨m, hm, _⟩ := has_len hb1
    rw [hi] at hm
    exact (List.getElem?_eq_some_iff.1 hm).1
  have HBB := Lib.hid hB
  clear h hN hr hi hb hB
  go_enter Tryd.func26, Tryd.ntmps26
  go_wp2_with fail
  refine CA.out.mono ?_
  rintro e w1 ⟨rfl, hb1⟩
  have H1 := Lib.hid (H.out.keep hb1)
  have HB1 := Lib.hid hb1
  clear hb1 CA H
  cases b
  · have HE := Lib.hid (HR0.out rfl)
    clear HR0 HR1 HLT
    go_wp2
    go_ret
    exact gives_fs HE.out H1.out rfl (kept_grown (grow_below (grow_refl w _) HB1.out)) (newOr_refl _ _) (lists_refl _ _)
  · have hil := HLT.out rfl
    obtain ⟨g, len, cap, m, rfl, hlen, hm, hkg, hgw, hil3, c0, c1, c2, hfz⟩ := fs_open H1.out hil
    have hil4 : i < len := by omega
    have hwi : (i : Int) < (len : Int) := by omega
    have HM := Lib.hid hm
    have hbl := HBB.out m (List.mem_of_getElem? hm)
    have HR := Lib.hid (HR1.out rfl m hm)
    have t0 := H1.out.box.c0
    clear HR0 HR1 HLT c0 c2 hfz hm
    by_cases hk0 : k < 0
    · have hd : decide (k < 0) = true := decide_eq_true hk0
      have HE : Hid (r = (1, ⟨fls ms, left, done⟩)) := by show r = _; rw [HR.out, if_pos (.inl hk0)]
      clear HR
      go_wp2
      go_ret
      exact gives_fs HE.out H1.out rfl (kept_grown (grow_below (grow_refl w _) HB1.out)) (newOr_refl _ _) (lists_refl _ _)
    · have hd : decide (k < 0) = false := decide_eq_false hk0
      by_cases hk1 : (m.f.b.length : Int) < k
      · have hd1 : decide ((m.f.b.length : Int) < k) = true := decide_eq_true hk1
        have HE : Hid (r = (1, ⟨fls ms, left, done⟩)) := by show r = _; rw [HR.out, if_pos (.inr hk1)]
        clear HR
        go_wp2
        go_ret
        exact gives_fs HE.out H1.out rfl (kept_grown (grow_below (grow_refl w _) HB1.out)) (newOr_refl _ _) (lists_refl _ _)
      · have hd2 : decide ((m.f.b.length : Int) < k) = false := decide_eq_false hk1
        obtain ⟨kn, rfl⟩ : ∃ kn : Nat, k = (kn : Int) := ⟨k.toNat, by omega⟩
        have hkn : kn ≤ m.f.b.length := by omega
        have HRN := HR.out
        rw [if_neg (by omega), Int.toNat_natCast] at HRN
        have HR3 := Lib.hid HRN
        clear HRN HR
        go_wp2_with fail
        refine (deed_any w1 kf _ left done H1.out.box hd0 hd1 hl0 hl1 (fls ms)).mono ?_
        rintro e w2 ⟨rfl, HBX2, HG2⟩
        have H2 := Lib.hid (H1.out.turned HG2.out HBX2.out)
        have HGW := Lib.hid (grow_trans (grow_below (grow_refl w (some kf)) HB1.out) HG2.out)
        obtain ⟨d, hdd⟩ : ∃ d, deedF ⟨fls ms, left, done⟩ = d := ⟨_, rfl⟩
        obtain ⟨q, hq⟩ : ∃ q, mayF ⟨fls ms, left, done⟩ = q := ⟨_, rfl⟩
        have hqd : q = false → d = ⟨fls ms, left, done⟩ := fun h => by
          rw [← hdd]
          rw [h] at hq
          unfold mayF at hq
          unfold deedF
          rw [if_pos (by simpa using hq)]
        have HRR := HR3.out
        rw [hdd, hq] at HRR
        have HR2 := Lib.hid HRR
        have HQD := Lib.hid hqd
        rw [hdd] at H2
        rw [hq]
        clear HRR HR3 hqd hdd hq HBX2 HG2 H1 t0 c1
        cases q
        · have HE : Hid (r = (0, ⟨fls ms, left, done⟩)) := by show r = _; rw [HR2.out, if_pos rfl]
          have hd := HQD.out rfl
          have H3 : Hid (FsOk w2 kf (.slice (some ⟨g, 0, none⟩) len cap) left done ms) := by have := H2.out; rw [hd] at this; exact this
          clear HR2 HQD hd H2
          go_wp2
          go_ret
          exact gives_fs HE.out H3.out rfl (kept_grown HGW.out) (newOr_refl _ _) (lists_refl _ _)
        · have HE : Hid (r = (0, ⟨(fls ms).set i { m.f with b := m.f.b.take kn, lasts := kn }, d.left, d.done⟩)) := by
            show r = _
            rw [HR2.out, if_neg (by decide)]
          have KS : Hid (∀ W, Below w2.heap.size w2 W → (fun (W : World) => W.cell? ⟨kf, 0, none⟩ = some (.slice (some ⟨g, 0, none⟩) len cap) ∧ W.cell? ⟨g, i * 3 + 1, none⟩ = some (.slice m.ad m.f.b.length m.cap)) W) := fun W hW => ⟨((H2.out.keep hW).box).c0, ((H2.out.keep hW).cells HM.out).2.2.2.2.1⟩
          have hdrw : Below w2.heap.size w2 w2.drew := (Below.refl _ w2).drew
          have hgw2 := (H2.out.cells HM.out).2.2.1
          have HBR := Lib.hid (H2.out.ins m (List.mem_of_getElem? HM.out))
          have HUR := Lib.hid (HBR.out.1.take kn hkn)
          have hcap := HBR.out.1.fits
          have hup : ∀ W, (Instr.slice 23 (.slice m.ad m.f.b.length m.cap) none (some (.int .i64 (kn : Int))) none).run Tryd.prog W = .ok (.slice m.ad kn m.cap) W := row_upto byteK_ok m.ad m.f.b.length m.cap kn (by omega)
          clear HR2 HQD hgw
          go_upto_region 0 with fail
          refine wp_region_noPanic ?_
          refine wp_region_z [19] (fun (W : World) => W.cell? ⟨kf, 0, none⟩ = some (.slice (some ⟨g, 0, none⟩) len cap) ∧ W.cell? ⟨g, i * 3 + 1, none⟩ = some (.slice m.ad m.f.b.length m.cap)) (by kernel_rfl) ?_
          have hHeld : (fun (W : World) => W.cell? ⟨kf, 0, none⟩ = some (.slice (some ⟨g, 0, none⟩) len cap) ∧ W.cell? ⟨g, i * 3 + 1, none⟩ = some (.slice m.ad m.f.b.length m.cap)) _ := KS.out _ hdrw
          obtain ⟨u0, hu0⟩ : ∃ u, u = w2.drew := ⟨_, rfl⟩
          rw [← hu0] at hHeld hdrw
          rw [← hu0]
          clear hu0
          have HB0 := Lib.hid hdrw
          clear hdrw
          refine wpAnyZ_take (i := 0) (oi := ⟨_, _, _, _, _, _⟩) (v := ?_) rfl (by kernel_rfl) (by kernel_rfl) (by kernel_rfl) (by kernel_rfl) (by kernel_rfl) (fun _ _ _ h => h) (Or.inl ⟨by rfl, ?_⟩) (by assumption) ?_
          rotate_left
          · intro W hSw
            (try dsimp only at hSw)
            go_simp
            (try with_reducible rfl)
          (try simp only [Act.put, List.setIfInBounds_toArray, List.set_cons_zero, List.set_cons_succ])
          refine wpAnyZ_take (i := 1) (oi := ⟨_, _, _, _, _, _⟩) (v := ?_) rfl (by kernel_rfl) (by kernel_rfl) (by kernel_rfl) (by kernel_rfl) (by kernel_rfl) (fun _ _ _ h => h) (Or.inl ⟨by rfl, ?_⟩) (by assumption) ?_
          rotate_left
          · intro W hSw
            (try dsimp only at hSw)
            go_simp
            (try with_reducible rfl)
          (try simp only [Act.put, List.setIfInBounds_toArray, List.set_cons_zero, List.set_cons_succ])
          refine wpAnyZ_take (i := 2) (oi := ⟨_, _, _, _, _, _⟩) (v := ?_) rfl (by kernel_rfl) (by kernel_rfl) (by kernel_rfl) (by kernel_rfl) (by kernel_rfl) (fun _ _ _ h => h) (Or.inl ⟨by rfl, ?_⟩) (by assumption) ?_
          rotate_left
          · intro W hSw
            (try dsimp only at hSw)
            go_simp
            (try with_reducible rfl)
          (try simp only [Act.put, List.setIfInBounds_toArray, List.set_cons_zero, List.set_cons_succ])
          refine wpAnyZ_take (i := 3) (oi := ⟨_, _, _, _, _, _⟩) (v := ?_) rfl (by kernel_rfl) (by kernel_rfl) (by kernel_rfl) (by kernel_rfl) (by kernel_rfl) (fun _ _ _ h => h) (Or.inl ⟨by rfl, ?_⟩) (by assumption) ?_
          rotate_left
          · intro W hSw
            (try dsimp only at hSw)
            go_simp
            (try with_reducible rfl)
          (try simp only [Act.put, List.setIfInBounds_toArray, List.set_cons_zero, List.set_cons_succ])
          refine wpAnyZ_take (i := 4) (oi := ⟨_, _, _, _, _, _⟩) (v := ?_) rfl (by kernel_rfl) (by kernel_rfl) (by kernel_rfl) (by kernel_rfl) (by kernel_rfl) (fun _ _ _ h => h) (Or.inl ⟨by rfl, ?_⟩) (by assumption) ?_
          rotate_left
          · intro W hSw
            (try dsimp only at hSw)
            go_simp
            (try with_reducible rfl)
          (try simp only [Act.put, List.setIfInBounds_toArray, List.set_cons_zero, List.set_cons_succ])
          refine wpAnyZ_take (i := 6) (oi := ⟨_, _, _, _, _, _⟩) (v := ?_) rfl (by kernel_rfl) (by kernel_rfl) (by kernel_rfl) (by kernel_rfl) (by kernel_rfl) (fun _ _ _ h => h) (Or.inl ⟨by rfl, ?_⟩) (by assumption) ?_
          rotate_left
          · intro W hSw
            (try dsimp only at hSw)
            go_simp
            (try with_reducible rfl)
          (try simp only [Act.put, List.setIfInBounds_toArray, List.set_cons_zero, List.set_cons_succ])
          refine wpAnyZ_take (i := 7) (oi := ⟨_, _, _, _, _, _⟩) (v := ?_) rfl (by kernel_rfl) (by kernel_rfl) (by kernel_rfl) (by kernel_rfl) (by kernel_rfl) (fun _ _ _ h => h) (Or.inl ⟨by rfl, ?_⟩) (by assumption) ?_
          rotate_left
          · intro W hSw
            (try dsimp only at hSw)
            go_simp
            (try with_reducible rfl)
          (try simp only [Act.put, List.setIfInBounds_toArray, List.set_cons_zero, List.set_cons_succ])
          refine wpAnyZ_take (i := 8) (oi := ⟨_, _, _, _, _, _⟩) (v := ?_) rfl (by kernel_rfl) (by kernel_rfl) (by kernel_rfl) (by kernel_rfl) (by kernel_rfl) (fun _ _ _ h => h) (Or.inl ⟨by rfl, ?_⟩) (by assumption) ?_
          rotate_left
          · intro W hSw
            (try dsimp only at hSw)
            go_simp
            (try with_reducible rfl)
          (try simp only [Act.put, List.setIfInBounds_toArray, List.set_cons_zero, List.set_cons_succ])
          refine wpAnyZ_take (i := 9) (oi := ⟨_, _, _, _, _, _⟩) (v := ?_) rfl (by kernel_rfl) (by kernel_rfl) (by kernel_rfl) (by kernel_rfl) (by kernel_rfl) (fun _ _ _ h => h) (Or.inl ⟨by rfl, ?_⟩) (by assumption) ?_
          rotate_left
          · intro W hSw
            (try dsimp only at hSw)
            go_simp
            (try with_reducible rfl)
          (try simp only [Act.put, List.setIfInBounds_toArray, List.set_cons_zero, List.set_cons_succ])
          refine wpAnyZ_take (i := 10) (oi := ⟨_, _, _, _, _, _⟩) (v := ?_) rfl (by kernel_rfl) (by kernel_rfl) (by kernel_rfl) (by kernel_rfl) (by kernel_rfl) (fun _ _ _ h => h) (Or.inl ⟨by rfl, ?_⟩) (by assumption) ?_
          rotate_left
          · intro W hSw
            (try dsimp only at hSw)
            go_simp
            (try with_reducible rfl)
          (try simp only [Act.put, List.setIfInBounds_toArray, List.set_cons_zero, List.set_cons_succ])
          refine wpAnyZ_take (i := 11) (oi := ⟨_, _, _, _, _, _⟩) (v := ?_) rfl (by kernel_rfl) (by kernel_rfl) (by kernel_rfl) (by kernel_rfl) (by kernel_rfl) (fun _ _ _ h => h) (Or.inl ⟨by rfl, ?_⟩) (by assumption) ?_
          rotate_left
          · intro W hSw
            (try dsimp only at hSw)
            go_simp
            (try with_reducible rfl)
          (try simp only [Act.put, List.setIfInBounds_toArray, List.set_cons_zero, List.set_cons_succ])
          refine wpAnyZ_take (i := 12) (oi := ⟨_, _, _, _, _, _⟩) (v := ?_) rfl (by kernel_rfl) (by kernel_rfl) (by kernel_rfl) (by kernel_rfl) (by kernel_rfl) (fun _ _ _ h => h) (Or.inl ⟨by rfl, ?_⟩) (by assumption) ?_
          rotate_left
          · intro W hSw
            (try dsimp only at hSw)
            go_simp
            (try with_reducible rfl)
          (try simp only [Act.put, List.setIfInBounds_toArray, List.set_cons_zero, List.set_cons_succ])
          refine wpAnyZ_take (i := 13) (oi := ⟨_, _, _, _, _, _⟩) (v := ?_) rfl (by kernel_rfl) (by kernel_rfl) (by kernel_rfl) (by kernel_rfl) (by kernel_rfl) (fun _ _ _ h => h) (Or.inl ⟨by rfl, ?_⟩) (by assumption) ?_
          rotate_left
          · intro W hSw
            (try dsimp only at hSw)
            go_simp
            (try with_reducible rfl)
          (try simp only [Act.put, List.setIfInBounds_toArray, List.set_cons_zero, List.set_cons_succ])
          refine wpAnyZ_take (i := 14) (oi := ⟨_, _, _, _, _, _⟩) (v := ?_) rfl (by kernel_rfl) (by kernel_rfl) (by kernel_rfl) (by kernel_rfl) (by kernel_rfl) (fun _ _ _ h => h) (Or.inl ⟨by rfl, ?_⟩) (by assumption) ?_
          rotate_left
          · intro W hSw
            (try dsimp only at hSw)
            go_simp
            (try with_reducible rfl)
          (try simp only [Act.put, List.setIfInBounds_toArray, List.set_cons_zero, List.set_cons_succ])
          refine wpAnyZ_take (i := 15) (oi := ⟨_, _, _, _, _, _⟩) (v := ?_) rfl (by kernel_rfl) (by kernel_rfl) (by kernel_rfl) (by kernel_rfl) (by kernel_rfl) (fun _ _ _ h => h) (Or.inl ⟨by rfl, ?_⟩) (by assumption) ?_
          rotate_left
          · intro W hSw
            (try dsimp only at hSw)
            go_simp
            (try with_reducible rfl)
          (try simp only [Act.put, List.setIfInBounds_toArray, List.set_cons_zero, List.set_cons_succ])
          refine wpAnyZ_ready (rs := [5]) (by kernel_rfl) (by simp) ?_
          refine AllReadyZ.cons (o := ⟨_, _, _, _, _, _⟩) rfl (fun C hC => ?_) AllReadyZ.nil
          go_simp
          obtain ⟨u1, hu1⟩ : ∃ u, u = u0.alloc (.cells #[] 5) := ⟨_, rfl⟩
          have hbb : Below u0.heap.size u0 u1 := by rw [hu1]; exact (Below.refl _ _).alloc (Nat.le_refl _) _
          have HB1' := Lib.hid (HB0.out.trans (hbb.mono HB0.out.size))
          obtain ⟨g1, hg1⟩ : ∃ G, G = u0.heap.size := ⟨_, rfl⟩
          have HO1 : Hid (OwnRow byteK u1 w2.heap.size (.slice (some ⟨g1, 0, none⟩) 0 0) []) := by show OwnRow _ _ _ _ _; rw [hu1, hg1]; exact ownRow_lit byteK_ok u0 _ [] HB0.out.size (by simp) _ rfl 0 rfl
          rw [← hu1, ← hg1]
          clear hu1 hg1 hbb
          have hHeld : (fun (W : World) => W.cell? ⟨kf, 0, none⟩ = some (.slice (some ⟨g, 0, none⟩) len cap) ∧ W.cell? ⟨g, i * 3 + 1, none⟩ = some (.slice m.ad m.f.b.length m.cap)) u1 := KS.out _ HB1'.out
          refine hC.out _ _ (fun _ => hHeld) (fun _ => ?_)
          clear hC C
          (try simp only [Act.put, List.setIfInBounds_toArray, List.set_cons_zero, List.set_cons_succ])
          refine wpAnyZ_ready (rs := [16]) (by kernel_rfl) (by simp) ?_
          refine AllReadyZ.cons (o := ⟨_, _, _, _, _, _⟩) rfl (fun C hC => ?_) AllReadyZ.nil
          refine held_row (by rfl) byteK_ok (.tmp 39) (.tmp 49) rfl w2.heap.size [] (m.f.b.take kn) _ rfl HO1.out HB1'.out.size m.ad kn m.cap rfl (HUR.out.keep HB1'.out) (by rw [List.length_nil]; omega) ?_
          rintro v2 u2 hap
          have hlt : (m.f.b.take kn).length = kn := by rw [List.length_take]; omega
          obtain ⟨ad1, cap1, hv2, hr1, hat1⟩ := OwnRow.row2 byteK_ok hap.1 hlt
          subst hv2
          have HB2 : Hid (Below w2.heap.size w2 u2) := HB1'.out.grown hap.2.1 HB1'.out.size fun q hq => (HO1.out.lt q hq).1
          have HRW : Hid (RowAt byteK u2 ad1 kn cap1 (m.f.b.take kn)) := hr1
          have HAD : Hid (∀ a, ad1 = some a → w2.heap.size ≤ a.block ∧ a.block < u2.heap.size) := hat1
          clear hap hr1 hat1
          have hHeld : (fun (W : World) => W.cell? ⟨kf, 0, none⟩ = some (.slice (some ⟨g, 0, none⟩) len cap) ∧ W.cell? ⟨g, i * 3 + 1, none⟩ = some (.slice m.ad m.f.b.length m.cap)) u2 := KS.out _ HB2.out
          refine hC.out _ _ (fun _ => hHeld) (fun _ => ?_)
          clear hC C
          (try simp only [Act.put, List.setIfInBounds_toArray, List.set_cons_zero, List.set_cons_succ])
          refine wpAnyZ_take (i := 17) (oi := ⟨_, _, _, _, _, _⟩) (v := ?_) rfl (by kernel_rfl) (by kernel_rfl) (by kernel_rfl) (by kernel_rfl) (by kernel_rfl) (fun _ _ _ h => h) (Or.inl ⟨by rfl, ?_⟩) (by assumption) ?_
          rotate_left
          · intro W hSw
            (try dsimp only at hSw)
            go_simp
            (try with_reducible rfl)
          (try simp only [Act.put, List.setIfInBounds_toArray, List.set_cons_zero, List.set_cons_succ])
          refine wpAnyZ_take (i := 18) (oi := ⟨_, _, _, _, _, _⟩) (v := ?_) rfl (by kernel_rfl) (by kernel_rfl) (by kernel_rfl) (by kernel_rfl) (by kernel_rfl) (fun _ _ _ h => h) (Or.inl ⟨by rfl, ?_⟩) (by assumption) ?_
          rotate_left
          · intro W hSw
            (try dsimp only at hSw)
            go_simp
            (try with_reducible rfl)
          (try simp only [Act.put, List.setIfInBounds_toArray, List.set_cons_zero, List.set_cons_succ])
          have t0 := ((H2.out.keep HB2.out).cells HM.out).2.2.2.2.1
          have t1 := ((H2.out.keep HB2.out).cells HM.out).2.2.2.2.2.2 (i * 3 + 1)
          refine wpAnyZ_ready (rs := [19]) (by kernel_rfl) (by simp) ?_
          refine AllReadyZ.cons (o := ⟨_, _, _, _, _, _⟩) rfl (fun C hC => ?_) AllReadyZ.nil
          go_simp
          refine hC.out _ _ (zfree_no (by kernel_rfl)) (fun _ => ?_)
          clear hC C
          (try simp only [Act.put, List.setIfInBounds_toArray, List.set_cons_zero, List.set_cons_succ])
          refine wpAnyZ_done (by kernel_rfl) ?_ _
          refine NoPanic.normal ?_
          obtain ⟨wz, hwz⟩ : ∃ wz, wz = u2.setCell ⟨g, i * 3 + 1, none⟩ (.slice ad1 kn cap1) := ⟨_, rfl⟩
          have H3 := H2.out.keep HB2.out
          have HOZ : Hid (FsOk wz kf (.slice (some ⟨g, 0, none⟩) len cap) d.left d.done (ms.set i ⟨{ m.f with b := m.f.b.take kn }, ad1, cap1⟩)) := by
            show FsOk _ _ _ _ _ _
            rw [hwz]
            exact H3.stored HM.out 1 _ (by omega) (by simp [flK, hlt]) (by rw [hlt]; exact HRW.out) (take_all HBR.out.2 kn) fun a ha => ⟨by have := (HAD.out a ha).1; have := H2.out.box.lt; omega, (HAD.out a ha).2, fun e => by have := (HAD.out a ha).1; omega⟩
          have HKZ : Hid (KeptFs w2 wz kf (.slice (some ⟨g, 0, none⟩) len cap)) := by
            show KeptFs _ _ _ _
            rw [hwz]
            exact (kept_grown (grow_below (grow_refl w2 _) HB2.out)).trans (newOr_refl _ _) (kept_store u2 kf g len cap _ _)
          try rw [← hwz]
          clear hwz t0 t1 hHeld H3 hup

          obtain ⟨w4, hw4⟩ : ∃ w4, w4 = wz.setCell ⟨g, i * 3 + 2, none⟩ (.int .i64 (kn : Int)) := ⟨_, rfl⟩
          have HC := HOZ.out.cells (m := ⟨{ m.f with b := m.f.b.take kn }, ad1, cap1⟩) (i := i) (List.getElem?_set_self (by omega))
          have s0 := HOZ.out.box.c0
          have s1 := HC.2.2.2.2.2.1
          have s2 := HC.2.2.2.2.2.2 (i * 3 + 2)
          have HO4 : Hid (FsOk w4 kf (.slice (some ⟨g, 0, none⟩) len cap) d.left d.done (ms.set i ⟨{ m.f with b := m.f.b.take kn, lasts := kn }, ad1, cap1⟩)) := by
            show FsOk _ _ _ _ _ _
            rw [hw4]
            have h5 := HOZ.out.stored (m := ⟨{ m.f with b := m.f.b.take kn }, ad1, cap1⟩) (m' := ⟨{ m.f with b := m.f.b.take kn, lasts := kn }, ad1, cap1⟩) (i := i) (List.getElem?_set_self (by omega)) 2 (.int .i64 (kn : Int)) (by omega) rfl
              (HOZ.out.ins _ (List.mem_of_getElem? (i := i) (List.getElem?_set_self (by omega)))).1 (HOZ.out.ins _ (List.mem_of_getElem? (i := i) (List.getElem?_set_self (by omega)))).2 fun a ha => by
                have h6 := HOZ.out.apart _ (List.mem_of_getElem? (i := i) (List.getElem?_set_self (a := (⟨{ m.f with b := m.f.b.take kn }, ad1, cap1⟩ : FM)) (by omega))) a ha
                exact ⟨h6.1, h6.2.1, fun e => h6.2.2 (by rw [e]; rfl)⟩
            rwa [List.set_set] at h5
          have HK4 : Hid (KeptFs w2 w4 kf (.slice (some ⟨g, 0, none⟩) len cap)) := by
            show KeptFs _ _ _ _
            rw [hw4]
            exact HKZ.out.trans (newOr_refl _ _) (kept_store wz kf g len cap _ _)
          clear HC
          go_wp2
          (try rw [← hw4])
          clear hw4
          go_wp2
          go_ret
          exact gives_fs HE.out HO4.out (fls_set _ _ _) ((kept_grown HGW.out).trans (newOr_refl _ _) HK4.out) (newOr_refl _ _) (lists_set HM.out fun a ha => .inr (Nat.le_trans HGW.out.size (HAD.out a ha).1))
end Go.Proofs.YtjocfkkcnkpjdaaDoor
