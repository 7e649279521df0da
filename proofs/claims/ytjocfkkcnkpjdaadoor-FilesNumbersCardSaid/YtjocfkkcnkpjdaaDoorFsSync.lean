/- Chapter 7's own files: Sync. -/
import Derived.Test.YtjocfkkcnkpjdaaDoorFsAct
namespace Go.Proofs.YtjocfkkcnkpjdaaDoor
open Go.RowKit
open Go.RuneMath
open Go.FsMath
set_option linter.unusedVariables false

/-- One cell of one file is written: the file stands otherwise, the others as they stood. -/
theorem FsOk.stored {w : World} {kf g n cap i : Nat} {left done : Int} {ms : List FM} {m m' : FM} (h : FsOk w kf (.slice (some ⟨g, 0, none⟩) n cap) left done ms) (hm : ms[i]? = some m) (j : Nat) (u : Value) (hj : j < 3) (he : flK.enc m' = (flK.enc m).set j u)
    (hr : RowAt byteK w m'.ad m'.f.b.length m'.cap m'.f.b) (hb : AllB m'.f.b) (ha : ∀ a, m'.ad = some a → kf < a.block ∧ a.block < w.heap.size ∧ a.block ≠ g) : FsOk (w.setCell ⟨g, i * 3 + j, none⟩ u) kf (.slice (some ⟨g, 0, none⟩) n cap) left done (ms.set i m') := by
  have hown := h.row.lt g rfl
  have hn : ms.length = n := by
    obtain ⟨ad, c, e, _⟩ := h.row.at flK_ok
    cases e; rfl
  refine ⟨box_off h.box (by omega) u, own_store flK_ok h.row hn hm j u hj he, fun x hx => ?_, fun x hx a hxa => ?_⟩
  · rcases List.mem_or_eq_of_mem_set hx with h1 | h1
    · exact ⟨(h.ins x h1).1.off (fun a hxa e => (h.apart x h1 a hxa).2.2 (by rw [e]; rfl)) _ _, (h.ins x h1).2⟩
    · subst h1
      exact ⟨hr.off (fun a hxa => (ha a hxa).2.2) _ _, hb⟩
  · rw [size_set]
    rcases List.mem_or_eq_of_mem_set hx with h1 | h1
    · exact h.apart x h1 a hxa
    · subst h1
      have h2 := ha a hxa
      refine ⟨h2.1, h2.2.1, fun e => h2.2.2 ?_⟩
      have e2 : some g = some a.block := e
      exact (Option.some.inj e2).symm
theorem kept_store (w : World) (kf g n cap j : Nat) (u : Value) : KeptFs w (w.setCell ⟨g, j, none⟩ u) kf (.slice (some ⟨g, 0, none⟩) n cap) := kept_own (grow_one w g j u)
theorem fls_at {ms : List FM} {i : Nat} {m : FM} (h : ms[i]? = some m) : (fls ms)[i]? = some m.f := by
  unfold fls
  rw [List.getElem?_map, h]; rfl
theorem fls_set (ms : List FM) (i : Nat) (m : FM) : fls (ms.set i m) = (fls ms).set i m.f := by
  unfold fls
  rw [List.map_set]
/-- What a deed finds at i. -/
theorem fs_open {w : World} {kf i : Nat} {v : Value} {left done : Int} {ms : List FM} (h : FsOk w kf v left done ms) (hi : i < ms.length) : ∃ g len cap m, v = .slice (some ⟨g, 0, none⟩) len cap ∧ ms.length = len ∧ ms[i]? = some m ∧ kf < g ∧ g < w.heap.size ∧ i * 3 + 2 < 3 * len ∧
    w.cell? ⟨g, i * 3, none⟩ = some (.string m.f.name) ∧ w.cell? ⟨g, i * 3 + 1, none⟩ = some (.slice m.ad m.f.b.length m.cap) ∧ w.cell? ⟨g, i * 3 + 2, none⟩ = some (.int .i64 (m.f.lasts : Int)) ∧ (∀ j, w.frozen? ⟨g, j, none⟩ = false) := by
  obtain ⟨g, cap, cur, rfl, hg, hb, _⟩ := own_block2 h.row rfl (by omega)
  obtain ⟨ad, c, e, hr, _⟩ := OwnRow.row2 flK_ok h.row rfl
  cases e
  obtain ⟨b, off, m, e, hb2, hm, c0, c1, c2⟩ := fl_get hr hi
  cases e
  rw [Nat.zero_add] at c0 c1 c2
  exact ⟨g, _, cap, m, rfl, rfl, hm, hb, lt_of_block hg, by omega, c0, c1, c2, fun j => frozen_of_row w g j _ _ hg⟩
set_option maxRecDepth 100000 in
set_option maxHeartbeats 4000000 in
theorem fsSync_any (w : World) (kf : Nat) (v : Value) (left done : Int) (ms : List FM) (h : FsOk w kf v left done ms) (hL : ms.length ≤ 1000000) (hN : NamesOk ms) (hd0 : 0 ≤ done) (hd1 : done ≤ 4611686018427387904) (hl0 : -1 ≤ left) (hl1 : left ≤ 9223372036854775807) (n : ByteArray) (hn : n.size ≤ 1073741824) (r : Int × Fs) (hr : syncF ⟨fls ms, left, done⟩ n = r) :
    Calls Tryd.prog 29 #[.pointer (some ⟨kf, 0, none⟩), .string n] w (GivesFs w kf v ms r) := by
  have H := Lib.hid h
  have HN := Lib.hid hN
  obtain ⟨i, hi⟩ : ∃ i, atF (fls ms) n = i := ⟨_, rfl⟩
  obtain ⟨b, hb⟩ : ∃ b, hasF (fls ms) n = b := ⟨_, rfl⟩
  have CA := Lib.hid (at_ok w kf v left done ms h hL hN n hn)
  rw [hi, hb] at CA
  have HR : Hid (r = if b = false then (22, ⟨fls ms, left, done⟩) else if mayF ⟨fls ms, left, done⟩ = false then (0, ⟨fls ms, left, done⟩) else (0, ⟨turnF (fls ms) i (fun f => { f with lasts := f.b.length }), (deedF ⟨fls ms, left, done⟩).left, (deedF ⟨fls ms, left, done⟩).done⟩)) := by
    show r = _
    rw [← hr]
    unfold syncF
    simp only
    rw [hi, hb]
  have HLT : Hid (b = true → i < ms.length) := by
    intro hb1
    rw [← hb] at hb1
    obtain ⟨m, hm, _⟩ := has_len hb1
    rw [hi] at hm
    exact (List.getElem?_eq_some_iff.1 hm).1
  clear h hN hr hi hb
  go_enter Tryd.func29, Tryd.ntmps29
  go_wp2_with fail
  refine CA.out.mono ?_
  rintro e w1 ⟨rfl, hb1⟩
  have H1 := Lib.hid (H.out.keep hb1)
  have HB1 := Lib.hid hb1
  clear hb1 CA H
  cases b
  · have HE : Hid (r = (22, ⟨fls ms, left, done⟩)) := by show r = _; rw [HR.out, if_pos rfl]
    clear HR HLT
    go_wp2
    go_ret
    exact gives_fs HE.out H1.out rfl (kept_grown (grow_below (grow_refl w _) HB1.out)) (newOr_refl _ _) (lists_refl _ _)
  · have hil := HLT.out rfl
    go_wp2_with fail
    refine (deed_any w1 kf v left done H1.out.box hd0 hd1 hl0 hl1 (fls ms)).mono ?_
    rintro e w2 ⟨rfl, HBX2, HG2⟩
    have H2 := Lib.hid (H1.out.turned HG2.out HBX2.out)
    have HGW := Lib.hid (grow_trans (grow_below (grow_refl w (some kf)) HB1.out) HG2.out)
    obtain ⟨d, hdd⟩ : ∃ d, deedF ⟨fls ms, left, done⟩ = d := ⟨_, rfl⟩
    obtain ⟨q, hq⟩ : ∃ q, mayF ⟨fls ms, left, done⟩ = q := ⟨_, rfl⟩
    have hqd : q = false → d = ⟨fls ms, left, done⟩ := fun h => by
      rw [← hdd]
      rw [h] at hq
      unfold mayF at hq
      unfold deedF
      rw [if_pos (by simpa using hq)]
    have HRR := HR.out
    rw [hdd, hq, if_neg (by decide)] at HRR
    have HR2 := Lib.hid HRR
    have HQD := Lib.hid hqd
    rw [hdd] at H2
    rw [hq]
    clear HRR HR hqd hdd hq HBX2 HG2 H1 HLT
    cases q
    · have HE : Hid (r = (0, ⟨fls ms, left, done⟩)) := by show r = _; rw [HR2.out, if_pos rfl]
      have hd := HQD.out rfl
      have H3 : Hid (FsOk w2 kf v left done ms) := by have := H2.out; rw [hd] at this; exact this
      clear HR2 HQD hd H2
      go_wp2
      go_ret
      exact gives_fs HE.out H3.out rfl (kept_grown HGW.out) (newOr_refl _ _) (lists_refl _ _)
    · obtain ⟨g, len, cap, m, rfl, hlen, hm, hkg, hgw, hil3, c0, c1, c2, hfz⟩ := fs_open H2.out hil
      have HE : Hid (r = (0, ⟨(fls ms).set i { m.f with lasts := m.f.b.length }, d.left, d.done⟩)) := by
        show r = _
        rw [HR2.out, if_neg (by decide)]
        unfold turnF
        rw [fls_at hm]
      have hil4 : i < len := by omega
      have hwi : (i : Int) < (len : Int) := by omega
      have KS : Hid (∀ W, Below w2.heap.size w2 W → (fun (W : World) => W.cell? ⟨kf, 0, none⟩ = some (.slice (some ⟨g, 0, none⟩) len cap) ∧ W.cell? ⟨g, i * 3 + 1, none⟩ = some (.slice m.ad m.f.b.length m.cap)) W) := fun W hW => ⟨(H2.out.box.on hW).c0, (hW.cell (p := ⟨g, i * 3 + 1, none⟩) hgw).trans c1⟩
      have hdrw : Below w2.heap.size w2 w2.drew := (Below.refl _ w2).drew
      have KF : Hid (∀ W, Below w2.heap.size w2 W → W.frozen? ⟨g, i * 3 + 2, none⟩ = false) := fun W hW => by
        have h3 := (H2.out.keep hW).row
        obtain ⟨g', cap', cur', e', hg', _⟩ := own_block2 h3 hlen (by omega)
        cases e'
        exact frozen_of_row W g _ _ _ hg'
      have KC : Hid (∀ W, Below w2.heap.size w2 W → W.cell? ⟨g, i * 3 + 2, none⟩ = some (.int .i64 (m.f.lasts : Int))) := fun W hW => (hW.cell (p := ⟨g, i * 3 + 2, none⟩) hgw).trans c2
      have HM := Lib.hid hm
      have HAP := Lib.hid (H2.out.ins m (List.mem_of_getElem? hm))
      have HAQ := Lib.hid (H2.out.apart m (List.mem_of_getElem? hm))
      clear HR2 HQD c0 c1 c2 hfz hm
      go_upto_region 0 with fail
      refine wp_region_noPanic ?_
      refine wp_region_z [16] (fun (W : World) => W.cell? ⟨kf, 0, none⟩ = some (.slice (some ⟨g, 0, none⟩) len cap) ∧ W.cell? ⟨g, i * 3 + 1, none⟩ = some (.slice m.ad m.f.b.length m.cap)) (by kernel_rfl) ?_
      have hHeld : (fun (W : World) => W.cell? ⟨kf, 0, none⟩ = some (.slice (some ⟨g, 0, none⟩) len cap) ∧ W.cell? ⟨g, i * 3 + 1, none⟩ = some (.slice m.ad m.f.b.length m.cap)) _ := KS.out _ hdrw
      obtain ⟨u0, hu0⟩ : ∃ u, u = w2.drew := ⟨_, rfl⟩
      rw [← hu0] at hHeld hdrw
      rw [← hu0]
      clear hu0
      have HB0 := Lib.hid hdrw
      clear hdrw
      refine wpAnyZ_take (i := 0) (oi := ⟨_, _, _, _, _, _⟩) (v := ?_) rfl (by kernel_rfl) (by kernel_rfl) (by kernel_rfl) (by kernel_rfl) (by kernel_rfl) (fun _ _ _ h => h) (Or.inl ⟨by rfl, ?_⟩) (by assumption) ?_
      rotate_left
      · intro W hSw
        (try dsimp only at hSw)
        go_simp
        (try with_reducible rfl)
      (try simp only [Act.put, List.setIfInBounds_toArray, List.set_cons_zero, List.set_cons_succ])
      refine wpAnyZ_take (i := 1) (oi := ⟨_, _, _, _, _, _⟩) (v := ?_) rfl (by kernel_rfl) (by kernel_rfl) (by kernel_rfl) (by kernel_rfl) (by kernel_rfl) (fun _ _ _ h => h) (Or.inl ⟨by rfl, ?_⟩) (by assumption) ?_
      rotate_left
      · intro W hSw
        (try dsimp only at hSw)
        go_simp
        (try with_reducible rfl)
      (try simp only [Act.put, List.setIfInBounds_toArray, List.set_cons_zero, List.set_cons_succ])
      refine wpAnyZ_take (i := 2) (oi := ⟨_, _, _, _, _, _⟩) (v := ?_) rfl (by kernel_rfl) (by kernel_rfl) (by kernel_rfl) (by kernel_rfl) (by kernel_rfl) (fun _ _ _ h => h) (Or.inl ⟨by rfl, ?_⟩) (by assumption) ?_
      rotate_left
      · intro W hSw
        (try dsimp only at hSw)
        go_simp
        (try with_reducible rfl)
      (try simp only [Act.put, List.setIfInBounds_toArray, List.set_cons_zero, List.set_cons_succ])
      refine wpAnyZ_take (i := 3) (oi := ⟨_, _, _, _, _, _⟩) (v := ?_) rfl (by kernel_rfl) (by kernel_rfl) (by kernel_rfl) (by kernel_rfl) (by kernel_rfl) (fun _ _ _ h => h) (Or.inl ⟨by rfl, ?_⟩) (by assumption) ?_
      rotate_left
      · intro W hSw
        (try dsimp only at hSw)
        go_simp
        (try with_reducible rfl)
      (try simp only [Act.put, List.setIfInBounds_toArray, List.set_cons_zero, List.set_cons_succ])
      refine wpAnyZ_take (i := 4) (oi := ⟨_, _, _, _, _, _⟩) (v := ?_) rfl (by kernel_rfl) (by kernel_rfl) (by kernel_rfl) (by kernel_rfl) (by kernel_rfl) (fun _ _ _ h => h) (Or.inl ⟨by rfl, ?_⟩) (by assumption) ?_
      rotate_left
      · intro W hSw
        (try dsimp only at hSw)
        go_simp
        (try with_reducible rfl)
      (try simp only [Act.put, List.setIfInBounds_toArray, List.set_cons_zero, List.set_cons_succ])
      refine wpAnyZ_take (i := 5) (oi := ⟨_, _, _, _, _, _⟩) (v := ?_) rfl (by kernel_rfl) (by kernel_rfl) (by kernel_rfl) (by kernel_rfl) (by kernel_rfl) (fun _ _ _ h => h) (Or.inl ⟨by rfl, ?_⟩) (by assumption) ?_
      rotate_left
      · intro W hSw
        (try dsimp only at hSw)
        go_simp
        (try with_reducible rfl)
      (try simp only [Act.put, List.setIfInBounds_toArray, List.set_cons_zero, List.set_cons_succ])
      refine wpAnyZ_take (i := 6) (oi := ⟨_, _, _, _, _, _⟩) (v := ?_) rfl (by kernel_rfl) (by kernel_rfl) (by kernel_rfl) (by kernel_rfl) (by kernel_rfl) (fun _ _ _ h => h) (Or.inl ⟨by rfl, ?_⟩) (by assumption) ?_
      rotate_left
      · intro W hSw
        (try dsimp only at hSw)
        go_simp
        (try with_reducible rfl)
      (try simp only [Act.put, List.setIfInBounds_toArray, List.set_cons_zero, List.set_cons_succ])
      refine wpAnyZ_take (i := 7) (oi := ⟨_, _, _, _, _, _⟩) (v := ?_) rfl (by kernel_rfl) (by kernel_rfl) (by kernel_rfl) (by kernel_rfl) (by kernel_rfl) (fun _ _ _ h => h) (Or.inl ⟨by rfl, ?_⟩) (by assumption) ?_
      rotate_left
      · intro W hSw
        (try dsimp only at hSw)
        go_simp
        (try with_reducible rfl)
      (try simp only [Act.put, List.setIfInBounds_toArray, List.set_cons_zero, List.set_cons_succ])
      refine wpAnyZ_take (i := 8) (oi := ⟨_, _, _, _, _, _⟩) (v := ?_) rfl (by kernel_rfl) (by kernel_rfl) (by kernel_rfl) (by kernel_rfl) (by kernel_rfl) (fun _ _ _ h => h) (Or.inl ⟨by rfl, ?_⟩) (by assumption) ?_
      rotate_left
      · intro W hSw
        (try dsimp only at hSw)
        go_simp
        (try with_reducible rfl)
      (try simp only [Act.put, List.setIfInBounds_toArray, List.set_cons_zero, List.set_cons_succ])
      refine wpAnyZ_take (i := 9) (oi := ⟨_, _, _, _, _, _⟩) (v := ?_) rfl (by kernel_rfl) (by kernel_rfl) (by kernel_rfl) (by kernel_rfl) (by kernel_rfl) (fun _ _ _ h => h) (Or.inl ⟨by rfl, ?_⟩) (by assumption) ?_
      rotate_left
      · intro W hSw
        (try dsimp only at hSw)
        go_simp
        (try with_reducible rfl)
      (try simp only [Act.put, List.setIfInBounds_toArray, List.set_cons_zero, List.set_cons_succ])
      refine wpAnyZ_take (i := 10) (oi := ⟨_, _, _, _, _, _⟩) (v := ?_) rfl (by kernel_rfl) (by kernel_rfl) (by kernel_rfl) (by kernel_rfl) (by kernel_rfl) (fun _ _ _ h => h) (Or.inl ⟨by rfl, ?_⟩) (by assumption) ?_
      rotate_left
      · intro W hSw
        (try dsimp only at hSw)
        go_simp
        (try with_reducible rfl)
      (try simp only [Act.put, List.setIfInBounds_toArray, List.set_cons_zero, List.set_cons_succ])
      refine wpAnyZ_take (i := 11) (oi := ⟨_, _, _, _, _, _⟩) (v := ?_) rfl (by kernel_rfl) (by kernel_rfl) (by kernel_rfl) (by kernel_rfl) (by kernel_rfl) (fun _ _ _ h => h) (Or.inl ⟨by rfl, ?_⟩) (by assumption) ?_
      rotate_left
      · intro W hSw
        (try dsimp only at hSw)
        go_simp
        (try with_reducible rfl)
      (try simp only [Act.put, List.setIfInBounds_toArray, List.set_cons_zero, List.set_cons_succ])
      refine wpAnyZ_take (i := 12) (oi := ⟨_, _, _, _, _, _⟩) (v := ?_) rfl (by kernel_rfl) (by kernel_rfl) (by kernel_rfl) (by kernel_rfl) (by kernel_rfl) (fun _ _ _ h => h) (Or.inl ⟨by rfl, ?_⟩) (by assumption) ?_
      rotate_left
      · intro W hSw
        (try dsimp only at hSw)
        go_simp
        (try with_reducible rfl)
      (try simp only [Act.put, List.setIfInBounds_toArray, List.set_cons_zero, List.set_cons_succ])
      refine wpAnyZ_take (i := 13) (oi := ⟨_, _, _, _, _, _⟩) (v := ?_) rfl (by kernel_rfl) (by kernel_rfl) (by kernel_rfl) (by kernel_rfl) (by kernel_rfl) (fun _ _ _ h => h) (Or.inl ⟨by rfl, ?_⟩) (by assumption) ?_
      rotate_left
      · intro W hSw
        (try dsimp only at hSw)
        go_simp
        (try with_reducible rfl)
      (try simp only [Act.put, List.setIfInBounds_toArray, List.set_cons_zero, List.set_cons_succ])
      refine wpAnyZ_take (i := 14) (oi := ⟨_, _, _, _, _, _⟩) (v := ?_) rfl (by kernel_rfl) (by kernel_rfl) (by kernel_rfl) (by kernel_rfl) (by kernel_rfl) (fun _ _ _ h => h) (Or.inl ⟨by rfl, ?_⟩) (by assumption) ?_
      rotate_left
      · intro W hSw
        (try dsimp only at hSw)
        go_simp
        (try with_reducible rfl)
      (try simp only [Act.put, List.setIfInBounds_toArray, List.set_cons_zero, List.set_cons_succ])
      refine wpAnyZ_take (i := 15) (oi := ⟨_, _, _, _, _, _⟩) (v := ?_) rfl (by kernel_rfl) (by kernel_rfl) (by kernel_rfl) (by kernel_rfl) (by kernel_rfl) (fun _ _ _ h => h) (Or.inl ⟨by rfl, ?_⟩) (by assumption) ?_
      rotate_left
      · intro W hSw
        (try dsimp only at hSw)
        go_simp
        (try with_reducible rfl)
      (try simp only [Act.put, List.setIfInBounds_toArray, List.set_cons_zero, List.set_cons_succ])
      have t0 := KC.out _ HB0.out
      have t1 := KF.out _ HB0.out
      refine wpAnyZ_ready (rs := [16]) (by kernel_rfl) (by simp) ?_
      refine AllReadyZ.cons (o := ⟨_, _, _, _, _, _⟩) rfl (fun C hC => ?_) AllReadyZ.nil
      go_simp
      refine hC.out _ _ (zfree_no (by kernel_rfl)) (fun _ => ?_)
      clear hC C
      (try simp only [Act.put, List.setIfInBounds_toArray, List.set_cons_zero, List.set_cons_succ])
      refine wpAnyZ_done (by kernel_rfl) ?_ _
      refine NoPanic.normal ?_
      obtain ⟨wz, hwz⟩ : ∃ wz, wz = u0.setCell ⟨g, i * 3 + 2, none⟩ (.int .i64 (m.f.b.length : Int)) := ⟨_, rfl⟩
      have H3 := H2.out.keep HB0.out
      have HOZ : Hid (FsOk wz kf (.slice (some ⟨g, 0, none⟩) len cap) d.left d.done (ms.set i ⟨{ m.f with lasts := m.f.b.length }, m.ad, m.cap⟩)) := by
        show FsOk _ _ _ _ _ _
        rw [hwz]
        exact H3.stored HM.out 2 _ (by omega) rfl (H3.ins m (List.mem_of_getElem? HM.out)).1 (H3.ins m (List.mem_of_getElem? HM.out)).2 fun a ha => ⟨(H3.apart m (List.mem_of_getElem? HM.out) a ha).1, (H3.apart m (List.mem_of_getElem? HM.out) a ha).2.1, fun e => (H3.apart m (List.mem_of_getElem? HM.out) a ha).2.2 (by rw [e]; rfl)⟩
      have HKZ : Hid (KeptFs w2 wz kf (.slice (some ⟨g, 0, none⟩) len cap)) := by
        show KeptFs _ _ _ _
        rw [hwz]
        exact (kept_grown (grow_below (grow_refl w2 _) HB0.out)).trans (newOr_refl _ _) (kept_store u0 kf g len cap _ _)
      try rw [← hwz]
      clear hwz t0 t1 hHeld H3

      go_wp2
      go_ret
      exact gives_fs HE.out HOZ.out (fls_set _ _ _) ((kept_grown HGW.out).trans (newOr_refl _ _) HKZ.out) (newOr_refl _ _) (lists_set HM.out fun a ha => .inl ha)
end Go.Proofs.YtjocfkkcnkpjdaaDoor
