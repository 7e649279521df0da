/- Chapter 7's own files: Rename. -/
import Derived.Test.YtjocfkkcnkpjdaaDoorFsAppend
namespace Go.Proofs.YtjocfkkcnkpjdaaDoor
open Go.RowKit
open Go.RuneMath
open Go.FsMath
set_option linter.unusedVariables false

theorem lists_ins {w : World} {ms ms2 : List FM} {m mx : FM} {k : Nat} (h : ∀ x ∈ ms2, x ∈ ms) (hm : m ∈ ms) (hx : mx.ad = m.ad) : ListsFs w ms (ms2.take k ++ [mx] ++ ms2.drop k) := fun x h0 a ha => by
  rcases List.mem_append.1 h0 with h1 | h1
  · rcases List.mem_append.1 h1 with h2 | h2
    · exact .inl ⟨x, h x (List.mem_of_mem_take h2), ha⟩
    · rw [List.mem_singleton.1 h2, hx] at ha
      exact .inl ⟨m, hm, ha⟩
  · exact .inl ⟨x, h x (List.mem_of_mem_drop h1), ha⟩
theorem FsOk.laid2 {w w' : World} {kf : Nat} {v v' : Value} {left done left' done' : Int} {ms ms' : List FM} (h : FsOk w kf v left done ms) (hg : w.grownBy w' (some kf)) (hb : FsBox w' kf v' left' done') (hr : OwnRow flK w' w.heap.size v' ms') (hm : ∀ m ∈ ms', m ∈ ms ∨ (RowAt byteK w m.ad m.f.b.length m.cap m.f.b ∧ AllB m.f.b ∧ ∀ a, m.ad = some a → kf < a.block ∧ a.block < w.heap.size)) : FsOk w' kf v' left' done' ms' := by
  have hlt := h.box.lt
  have hall : ∀ m ∈ ms', RowAt byteK w m.ad m.f.b.length m.cap m.f.b ∧ AllB m.f.b ∧ ∀ a, m.ad = some a → kf < a.block ∧ a.block < w.heap.size := fun m hmm => by
    rcases hm m hmm with h1 | h1
    · exact ⟨(h.ins m h1).1, (h.ins m h1).2, fun a ha => ⟨(h.apart m h1 a ha).1, (h.apart m h1 a ha).2.1⟩⟩
    · exact h1
  refine ⟨hb, hr.low (by omega), fun m hmm => ⟨(hall m hmm).1.grown hg fun a ha e => by have := ((hall m hmm).2.2 a ha).1; cases e; omega, (hall m hmm).2.1⟩, fun m hmm a ha => ?_⟩
  have h2 := (hall m hmm).2.2 a ha
  refine ⟨h2.1, Nat.lt_of_lt_of_le h2.2 hg.size, fun e => ?_⟩
  have := (hr.lt _ e).1
  omega
def XBox (w : World) (k : Nat) (n : ByteArray) (m : FM) : Prop := w.heap[k]? = some (.cells #[.string n, .slice m.ad m.f.b.length m.cap, .int .i64 (m.f.lasts : Int)] 75 (0, 0))
theorem XBox.on {w w' : World} {k : Nat} {n : ByteArray} {m : FM} (h : XBox w k n m) (hb : Below w.heap.size w w') : XBox w' k n m := by
  unfold XBox at *
  rw [hb.block k (lt_of_block h)]
  exact h
theorem XBox.grown {w w' : World} {k kf : Nat} {n : ByteArray} {m : FM} (h : XBox w k n m) (hg : w.grownBy w' (some kf)) (hk : k ≠ kf) : XBox w' k n m := by
  unfold XBox at *
  rw [hg.block k (lt_of_block h) fun e => hk (Option.some.inj e)]
  exact h
theorem XBox.c0 {w : World} {k : Nat} {n : ByteArray} {m : FM} (h : XBox w k n m) : w.cell? ⟨k, 0, none⟩ = some (.string n) := by rw [cell_of_row _ _ 0 _ _ _ h]; rfl
theorem XBox.c1 {w : World} {k : Nat} {n : ByteArray} {m : FM} (h : XBox w k n m) : w.cell? ⟨k, 1, none⟩ = some (.slice m.ad m.f.b.length m.cap) := by rw [cell_of_row _ _ 1 _ _ _ h]; rfl
theorem XBox.c2 {w : World} {k : Nat} {n : ByteArray} {m : FM} (h : XBox w k n m) : w.cell? ⟨k, 2, none⟩ = some (.int .i64 (m.f.lasts : Int)) := by rw [cell_of_row _ _ 2 _ _ _ h]; rfl
theorem fls_drop (ms : List FM) (i : Nat) : fls (ms.take i ++ ms.drop (i + 1)) = dropF (fls ms) i := by unfold fls dropF; rw [List.map_append, List.map_take, List.map_drop]
theorem mem_cut {α : Type} {l : List α} {i j : Nat} {x : α} (h : x ∈ l.take i ++ l.drop j) : x ∈ l := (List.mem_append.1 h).elim List.mem_of_mem_take List.mem_of_mem_drop
theorem rename_move {ms : List FM} {a b : ByteArray} {i : Nat} {m : FM} (hi : atF (fls ms) a = i) (hm : ms[i]? = some m) : moveF (fls ms) a b =
    (let l1 := dropF (fls ms) i
     let l2 := if hasF l1 b = true then dropF l1 (atF l1 b) else l1
     l2.take (atF l2 b) ++ { m.f with name := b } :: l2.drop (atF l2 b)) := by
  unfold moveF
  rw [hi, fls_at hm]
set_option maxRecDepth 100000 in
set_option maxHeartbeats 8000000 in
theorem fsRename_any (w : World) (kf : Nat) (v : Value) (left done : Int) (ms : List FM) (h : FsOk w kf v left done ms) (hL : ms.length ≤ 100000) (hN : NamesOk ms) (hd0 : 0 ≤ done) (hd1 : done ≤ 4611686018427387904) (hl0 : -1 ≤ left) (hl1 : left ≤ 9223372036854775807) (n : ByteArray) (hn : n.size ≤ 1073741824) (n2 : ByteArray) (hn2 : n2.size ≤ 1073741824)
    (r : Int × Fs) (hr : renameF ⟨fls ms, left, done⟩ n n2 = r) :
    Calls Tryd.prog 27 #[.pointer (some ⟨kf, 0, none⟩), .string n, .string n2] w (GivesFs w kf v ms r) := by
  have H := Lib.hid h
  obtain ⟨i, hi⟩ : ∃ i, atF (fls ms) n = i := ⟨_, rfl⟩
  obtain ⟨b, hb⟩ : ∃ b, hasF (fls ms) n = b := ⟨_, rfl⟩
  obtain ⟨q0, hq0⟩ : ∃ b, rightB n2.data.toList = b := ⟨_, rfl⟩
  have HR : Hid (r = if b = false then (22, ⟨fls ms, left, done⟩) else if q0 = false then (1, ⟨fls ms, left, done⟩) else if mayF ⟨fls ms, left, done⟩ = false then (0, ⟨fls ms, left, done⟩)
    else if n = n2 then (0, deedF ⟨fls ms, left, done⟩) else (0, ⟨moveF (fls ms) n n2, (deedF ⟨fls ms, left, done⟩).left, (deedF ⟨fls ms, left, done⟩).done⟩)) := by
    show r = _
    rw [← hr]
    unfold renameF
    simp only
    rw [hb, hq0]
  have HI := Lib.hid hi
  have HH := Lib.hid hb
  have HQ0 := Lib.hid hq0
  have HN := Lib.hid hN
  clear h hN hr hi hb hq0
  go_enter Tryd.func27, Tryd.ntmps27
  go_wp2_with fail
  refine (at_ok w kf _ left done ms H.out (by omega) HN.out n hn).mono ?_
  rintro e w0 ⟨rfl, hb0⟩
  rw [HI.out, HH.out]
  have H0 := Lib.hid (H.out.keep hb0)
  have HB0 := Lib.hid hb0
  clear hb0 H
  cases b
  · have HE : Hid (r = (22, ⟨fls ms, left, done⟩)) := by show r = _; rw [HR.out, if_pos rfl]
    clear HR
    go_wp2
    go_ret
    exact gives_fs HE.out H0.out rfl (kept_grown (grow_below (grow_refl w _) HB0.out)) (newOr_refl _ _) (lists_refl _ _)
  have HRN := HR.out
  rw [if_neg (by decide)] at HRN
  have HR1 := Lib.hid HRN
  clear HR HRN
  go_wp2_with fail
  refine (ref_right_any w0 n2 (by omega)).mono ?_
  rintro e w1 ⟨rfl, hb1⟩
  rw [HQ0.out]
  have H1 := Lib.hid (H0.out.keep hb1)
  have HB1 := Lib.hid (HB0.out.trans (hb1.mono HB0.out.size))
  clear hb1 H0 HB0 HQ0
  cases q0
  · have HE : Hid (r = (1, ⟨fls ms, left, done⟩)) := by show r = _; rw [HR1.out, if_pos rfl]
    clear HR1
    go_wp2
    go_ret
    exact gives_fs HE.out H1.out rfl (kept_grown (grow_below (grow_refl w _) HB1.out)) (newOr_refl _ _) (lists_refl _ _)
  have HRN := HR1.out
  rw [if_neg (by decide)] at HRN
  have HR2 := Lib.hid HRN
  clear HR1 HRN
  go_wp2_with fail
  refine (deed_any w1 kf _ left done H1.out.box hd0 hd1 hl0 hl1 (fls ms)).mono ?_
  rintro e w3 ⟨rfl, HBX2, HG2⟩
  have H3 := Lib.hid (H1.out.turned HG2.out HBX2.out)
  have HGW := Lib.hid (grow_trans (grow_below (grow_refl w (some kf)) HB1.out) HG2.out)
  obtain ⟨d, hdd⟩ : ∃ d, deedF ⟨fls ms, left, done⟩ = d := ⟨_, rfl⟩
  have hdl : d.l = fls ms := by rw [← hdd]; unfold deedF; split <;> rfl
  obtain ⟨q, hq⟩ : ∃ q, mayF ⟨fls ms, left, done⟩ = q := ⟨_, rfl⟩
  have hqd : q = false → d = ⟨fls ms, left, done⟩ := fun h => by
    rw [← hdd]
    rw [h] at hq
    unfold mayF at hq
    unfold deedF
    rw [if_pos (by simpa using hq)]
  have HRR := HR2.out
  rw [hdd, hq] at HRR
  have HR3 := Lib.hid HRR
  have HQD := Lib.hid hqd
  have HDL := Lib.hid hdl
  rw [hdd] at H3
  rw [hq]
  clear HRR HR2 hqd hdd hq HBX2 HG2 H1 HB1 hdl
  cases q
  · have HE : Hid (r = (0, ⟨fls ms, left, done⟩)) := by show r = _; rw [HR3.out, if_pos rfl]
    have hd := HQD.out rfl
    have H4 : Hid (FsOk w3 kf v left done ms) := by have := H3.out; rw [hd] at this; exact this
    clear HR3 HQD hd H3
    go_wp2
    go_ret
    exact gives_fs HE.out H4.out rfl (kept_grown HGW.out) (newOr_refl _ _) (lists_refl _ _)
  have HRN := HR3.out
  rw [if_neg (by decide)] at HRN
  have HR4 := Lib.hid HRN
  clear HR3 HRN HQD
  by_cases hsame : n = n2
  · have hc : (n.toList == n2.toList) = true := by rw [str_eq_eqS]; exact eqS_iff.2 hsame
    have HE : Hid (r = (0, d)) := by show r = _; rw [HR4.out, if_pos hsame]
    clear HR4 hsame
    go_wp2
    go_ret
    exact gives_fs HE.out H3.out HDL.out.symm (kept_grown HGW.out) (newOr_refl _ _) (lists_refl _ _)
  have hc : (n.toList == n2.toList) = false := by rw [str_eq_eqS]; exact Bool.eq_false_iff.2 fun h => hsame (eqS_iff.1 h)
  have hil : i < ms.length := by
    have h1 := HH.out
    obtain ⟨m, hm, _⟩ := has_len h1
    rw [HI.out] at hm
    exact (List.getElem?_eq_some_iff.1 hm).1
  obtain ⟨g0, len0, cap0, m, hv, hlen0, hm, hkg, hgw, _, c0, c1, c2, _⟩ := fs_open H3.out hil
  have HE0 : Hid (r = (0, ⟨moveF (fls ms) n n2, d.left, d.done⟩)) := by show r = _; rw [HR4.out, if_neg hsame]
  have HMV := Lib.hid (rename_move (b := n2) HI.out hm)
  have HMR := Lib.hid (H3.out.ins m (List.mem_of_getElem? hm))
  have HMMM : Hid (m ∈ ms) := List.mem_of_getElem? hm
  have HMA := Lib.hid (H3.out.apart m (List.mem_of_getElem? hm))
  subst hv
  have b0 := H3.out.box.c0
  have hil0 : i < len0 := by omega
  have hwi : (i : Int) < (len0 : Int) := by omega
  clear HR4 hsame hm
  go_wp2_with fail
  obtain ⟨w4, hw4⟩ : ∃ x, x = w3.alloc (.cells #[.string n2, .slice m.ad m.f.b.length m.cap, .int .i64 (m.f.lasts : Int)] 75) := ⟨_, rfl⟩
  have hb4 : Below w3.heap.size w3 w4 := by rw [hw4]; exact (Below.refl _ _).alloc (Nat.le_refl _) _
  obtain ⟨kx, hkx⟩ : ∃ x, x = w3.heap.size := ⟨_, rfl⟩
  have HX4 : Hid (XBox w4 kx n2 m) := by show w4.heap[kx]? = _; rw [hw4, hkx]; exact heap_alloc_new w3 _
  rw [← hw4, ← hkx]
  have hkxf : kx ≠ kf := by have := H3.out.box.lt; omega
  have H4 := Lib.hid (H3.out.keep hb4)
  have HG4 := Lib.hid (grow_below HGW.out hb4)
  have HR4 := Lib.hid (HMR.out.1.keep hb4)
  have HA4 : Hid (∀ a, m.ad = some a → kf < a.block ∧ a.block < w4.heap.size) := fun a ha => ⟨(HMA.out a ha).1, Nat.lt_of_lt_of_le (HMA.out a ha).2.1 hb4.size⟩
  clear hw4 hkx hb4 b0 c0 c1 c2 H3 HGW HMA
  refine (drop_any w4 kf _ d.left d.done ms H4.out (by omega) i hil).mono ?_
  rintro e w5 ⟨rfl, v5, h5, hg5, hv5⟩
  have HX5 := Lib.hid (HX4.out.grown hg5 hkxf)
  have HG5 := Lib.hid (grow_trans HG4.out hg5)
  have HR5 : Hid (RowAt byteK w5 m.ad m.f.b.length m.cap m.f.b) := HR4.out.grown hg5 fun a ha e => by have := (HA4.out a ha).1; cases e; omega
  have HA5 : Hid (∀ a, m.ad = some a → kf < a.block ∧ a.block < w5.heap.size) := fun a ha => ⟨(HA4.out a ha).1, Nat.lt_of_lt_of_le (HA4.out a ha).2 hg5.size⟩
  obtain ⟨ms1, hms1⟩ : ∃ x, x = ms.take i ++ ms.drop (i + 1) := ⟨_, rfl⟩
  rw [← hms1] at h5
  have H5 := Lib.hid h5
  have HF1 : Hid (fls ms1 = dropF (fls ms) i) := by show fls _ = _; rw [hms1]; exact fls_drop ms i
  have HSB1 : Hid (∀ x ∈ ms1, x ∈ ms) := fun x hx => by rw [hms1] at hx; exact mem_cut hx
  have HN1 : Hid (NamesOk ms1) := fun x hx => HN.out x (by rw [hms1] at hx; exact mem_cut hx)
  have hL1 : ms1.length ≤ 100000 := by rw [hms1]; simp; omega
  clear h5 hg5 hv5 HX4 HG4 HR4 HA4 H4 hms1
  go_wp2_with fail
  refine (at_ok w5 kf _ d.left d.done ms1 H5.out (by omega) HN1.out n2 hn2).mono ?_
  rintro e w6 ⟨rfl, hb6⟩
  obtain ⟨k1, hk1⟩ : ∃ x, atF (fls ms1) n2 = x := ⟨_, rfl⟩
  obtain ⟨b1, hb1⟩ : ∃ x, hasF (fls ms1) n2 = x := ⟨_, rfl⟩
  rw [hk1, hb1]
  have HX6 := Lib.hid (HX5.out.on hb6)
  have HG6 := Lib.hid (grow_below HG5.out hb6)
  have HR6 := Lib.hid (HR5.out.keep hb6)
  have HA6 : Hid (∀ a, m.ad = some a → kf < a.block ∧ a.block < w6.heap.size) := fun a ha => ⟨(HA5.out a ha).1, Nat.lt_of_lt_of_le (HA5.out a ha).2 hb6.size⟩
  have H6 := Lib.hid (H5.out.keep hb6)
  have HK1 := Lib.hid hk1
  have HH1 := Lib.hid hb1
  clear hb6 hk1 hb1 HX5 HG5 HR5 HA5 H5
  cases b1
  · obtain ⟨w7, hw7⟩ : ∃ x : World, x = w6 := ⟨_, rfl⟩
    subst hw7
    obtain ⟨ms2, hms2⟩ : ∃ x, x = ms1 := ⟨_, rfl⟩
    subst hms2
    have HSB2 := HSB1
    have H7 := H6
    have HX7 := HX6
    have HG7 := HG6
    have HR7 := HR6
    have HA7 := HA6
    have HN2 := HN1
    have hL2 := hL1
    have HMV2 : Hid (moveF (fls ms) n n2 = (fls ms2).take (atF (fls ms2) n2) ++ { m.f with name := n2 } :: (fls ms2).drop (atF (fls ms2) n2)) := by
      show _ = _
      rw [HMV.out, ← HF1.out]
      simp only
      rw [HH1.out, if_neg (by decide)]
    clear H6 HX6 HG6 HR6 HA6 HN1 hL1 HMV HK1 HH1 HF1
    go_wp2_with fail
    refine (at_ok w7 kf _ d.left d.done ms2 H7.out (by omega) HN2.out n2 hn2).mono ?_
    rintro e w8 ⟨rfl, hb8⟩
    obtain ⟨k, hk⟩ : ∃ x, atF (fls ms2) n2 = x := ⟨_, rfl⟩
    rw [hk]
    have HMV3 := HMV2.out
    rw [hk] at HMV3
    have HMV4 := Lib.hid HMV3
    have hkl : k ≤ ms2.length := by
      have := atF_le (fls ms2) n2
      have e : (fls ms2).length = ms2.length := by unfold fls; rw [List.length_map]
      omega
    have HX8 := Lib.hid (HX7.out.on hb8)
    have HG8 := Lib.hid (grow_below HG7.out hb8)
    have HR8 := Lib.hid (HR7.out.keep hb8)
    have HA8 : Hid (∀ a, m.ad = some a → kf < a.block ∧ a.block < w8.heap.size) := fun a ha => ⟨(HA7.out a ha).1, Nat.lt_of_lt_of_le (HA7.out a ha).2 hb8.size⟩
    have H3 := Lib.hid (H7.out.keep hb8)
    clear hb8 hk H7 HX7 HG7 HR7 HA7 HMV2 HMV3
    obtain ⟨len, hlen⟩ : ∃ n, ms2.length = n := ⟨_, rfl⟩
    rw [hlen] at hkl hL2
    obtain ⟨fad, fcap, hvv, hr3, _⟩ := OwnRow.row2 flK_ok H3.out.row hlen
    subst hvv
    obtain ⟨mx, hmx⟩ : ∃ x : FM, x = ⟨⟨n2, m.f.b, m.f.lasts⟩, m.ad, m.cap⟩ := ⟨_, rfl⟩
    have HMX := Lib.hid hmx
    have hfits := hr3.fits
    have hup : ∀ W, (Instr.slice 52 (.slice fad len fcap) none (some (.int .i64 (k : Int))) none).run Tryd.prog W = .ok (.slice fad k fcap) W := row_upto flK_ok fad len fcap k (by omega)
    obtain ⟨fd, fc, hfr, hfrow, _⟩ := row_from flK_ok hr3 k hkl
    have hfr : ∀ W, (Instr.slice 52 (.slice fad len fcap) (some (.int .i64 (k : Int))) none none).run Tryd.prog W = .ok (.slice fd (len - k) fc) W := hfr
    have HFR := Lib.hid hfrow
    have HUR := Lib.hid (hr3.take k hkl)
    have KS : Hid (∀ W, Below w8.heap.size w8 W → (fun (W : World) => W.cell? ⟨kf, 0, none⟩ = some (.slice fad len fcap) ∧ W.cell? ⟨kx, 0, none⟩ = some (.string n2) ∧ W.cell? ⟨kx, 1, none⟩ = some (.slice m.ad m.f.b.length m.cap) ∧ W.cell? ⟨kx, 2, none⟩ = some (.int .i64 (m.f.lasts : Int))) W) := fun W hW => ⟨(H3.out.box.on hW).c0, (HX8.out.on hW).c0, (HX8.out.on hW).c1, (HX8.out.on hW).c2⟩
    have hdrw : Below w8.heap.size w8 w8.drew := (Below.refl _ w8).drew
    have HLEN := Lib.hid hlen
    clear hr3 hfrow hmx
    go_upto_region 0 with fail
    refine wp_region_noPanic ?_
    refine wp_region_z [21] (fun (W : World) => W.cell? ⟨kf, 0, none⟩ = some (.slice fad len fcap) ∧ W.cell? ⟨kx, 0, none⟩ = some (.string n2) ∧ W.cell? ⟨kx, 1, none⟩ = some (.slice m.ad m.f.b.length m.cap) ∧ W.cell? ⟨kx, 2, none⟩ = some (.int .i64 (m.f.lasts : Int))) (by kernel_rfl) ?_
    have hHeld : (fun (W : World) => W.cell? ⟨kf, 0, none⟩ = some (.slice fad len fcap) ∧ W.cell? ⟨kx, 0, none⟩ = some (.string n2) ∧ W.cell? ⟨kx, 1, none⟩ = some (.slice m.ad m.f.b.length m.cap) ∧ W.cell? ⟨kx, 2, none⟩ = some (.int .i64 (m.f.lasts : Int))) _ := KS.out _ hdrw
    obtain ⟨u0, hu0⟩ : ∃ u, u = w8.drew := ⟨_, rfl⟩
    rw [← hu0] at hHeld hdrw
    rw [← hu0]
    clear hu0
    have HBu0 := Lib.hid hdrw
    clear hdrw
    refine wpAnyZ_take (i := 0) (oi := ⟨_, _, _, _, _, _⟩) (v := ?_) rfl (by kernel_rfl) (by kernel_rfl) (by kernel_rfl) (by kernel_rfl) (by kernel_rfl) (fun _ _ _ h => h) (Or.inl ⟨by rfl, ?_⟩) (by assumption) ?_
    rotate_left
    · intro W hSw
      (try dsimp only at hSw)
      go_simp
      (try with_reducible rfl)
    (try simp only [Act.put, List.setIfInBounds_toArray, List.set_cons_zero, List.set_cons_succ])
    refine wpAnyZ_take (i := 2) (oi := ⟨_, _, _, _, _, _⟩) (v := ?_) rfl (by kernel_rfl) (by kernel_rfl) (by kernel_rfl) (by kernel_rfl) (by kernel_rfl) (fun _ _ _ h => h) (Or.inl ⟨by rfl, ?_⟩) (by assumption) ?_
    rotate_left
    · intro W hSw
      (try dsimp only at hSw)
      go_simp
      (try with_reducible rfl)
    (try simp only [Act.put, List.setIfInBounds_toArray, List.set_cons_zero, List.set_cons_succ])
    refine wpAnyZ_take (i := 3) (oi := ⟨_, _, _, _, _, _⟩) (v := ?_) rfl (by kernel_rfl) (by kernel_rfl) (by kernel_rfl) (by kernel_rfl) (by kernel_rfl) (fun _ _ _ h => h) (Or.inl ⟨by rfl, ?_⟩) (by assumption) ?_
    rotate_left
    · intro W hSw
      (try dsimp only at hSw)
      go_simp
      (try with_reducible rfl)
    (try simp only [Act.put, List.setIfInBounds_toArray, List.set_cons_zero, List.set_cons_succ])
    refine wpAnyZ_take (i := 4) (oi := ⟨_, _, _, _, _, _⟩) (v := ?_) rfl (by kernel_rfl) (by kernel_rfl) (by kernel_rfl) (by kernel_rfl) (by kernel_rfl) (fun _ _ _ h => h) (Or.inl ⟨by rfl, ?_⟩) (by assumption) ?_
    rotate_left
    · intro W hSw
      (try dsimp only at hSw)
      go_simp
      (try with_reducible rfl)
    (try simp only [Act.put, List.setIfInBounds_toArray, List.set_cons_zero, List.set_cons_succ])
    refine wpAnyZ_take (i := 5) (oi := ⟨_, _, _, _, _, _⟩) (v := ?_) rfl (by kernel_rfl) (by kernel_rfl) (by kernel_rfl) (by kernel_rfl) (by kernel_rfl) (fun _ _ _ h => h) (Or.inl ⟨by rfl, ?_⟩) (by assumption) ?_
    rotate_left
    · intro W hSw
      (try dsimp only at hSw)
      go_simp
      (try with_reducible rfl)
    (try simp only [Act.put, List.setIfInBounds_toArray, List.set_cons_zero, List.set_cons_succ])
    refine wpAnyZ_take (i := 6) (oi := ⟨_, _, _, _, _, _⟩) (v := ?_) rfl (by kernel_rfl) (by kernel_rfl) (by kernel_rfl) (by kernel_rfl) (by kernel_rfl) (fun _ _ _ h => h) (Or.inl ⟨by rfl, ?_⟩) (by assumption) ?_
    rotate_left
    · intro W hSw
      (try dsimp only at hSw)
      go_simp
      (try with_reducible rfl)
    (try simp only [Act.put, List.setIfInBounds_toArray, List.set_cons_zero, List.set_cons_succ])
    refine wpAnyZ_take (i := 7) (oi := ⟨_, _, _, _, _, _⟩) (v := ?_) rfl (by kernel_rfl) (by kernel_rfl) (by kernel_rfl) (by kernel_rfl) (by kernel_rfl) (fun _ _ _ h => h) (Or.inl ⟨by rfl, ?_⟩) (by assumption) ?_
    rotate_left
    · intro W hSw
      (try dsimp only at hSw)
      go_simp
      (try with_reducible rfl)
    (try simp only [Act.put, List.setIfInBounds_toArray, List.set_cons_zero, List.set_cons_succ])
    refine wpAnyZ_take (i := 9) (oi := ⟨_, _, _, _, _, _⟩) (v := ?_) rfl (by kernel_rfl) (by kernel_rfl) (by kernel_rfl) (by kernel_rfl) (by kernel_rfl) (fun _ _ _ h => h) (Or.inl ⟨by rfl, ?_⟩) (by assumption) ?_
    rotate_left
    · intro W hSw
      (try dsimp only at hSw)
      go_simp
      (try with_reducible rfl)
    (try simp only [Act.put, List.setIfInBounds_toArray, List.set_cons_zero, List.set_cons_succ])
    refine wpAnyZ_take (i := 12) (oi := ⟨_, _, _, _, _, _⟩) (v := ?_) rfl (by kernel_rfl) (by kernel_rfl) (by kernel_rfl) (by kernel_rfl) (by kernel_rfl) (fun _ _ _ h => h) (Or.inl ⟨by rfl, ?_⟩) (by assumption) ?_
    rotate_left
    · intro W hSw
      (try dsimp only at hSw)
      go_simp
      (try with_reducible rfl)
    (try simp only [Act.put, List.setIfInBounds_toArray, List.set_cons_zero, List.set_cons_succ])
    refine wpAnyZ_take (i := 13) (oi := ⟨_, _, _, _, _, _⟩) (v := ?_) rfl (by kernel_rfl) (by kernel_rfl) (by kernel_rfl) (by kernel_rfl) (by kernel_rfl) (fun _ _ _ h => h) (Or.inl ⟨by rfl, ?_⟩) (by assumption) ?_
    rotate_left
    · intro W hSw
      (try dsimp only at hSw)
      go_simp
      (try with_reducible rfl)
    (try simp only [Act.put, List.setIfInBounds_toArray, List.set_cons_zero, List.set_cons_succ])
    refine wpAnyZ_take (i := 14) (oi := ⟨_, _, _, _, _, _⟩) (v := ?_) rfl (by kernel_rfl) (by kernel_rfl) (by kernel_rfl) (by kernel_rfl) (by kernel_rfl) (fun _ _ _ h => h) (Or.inl ⟨by rfl, ?_⟩) (by assumption) ?_
    rotate_left
    · intro W hSw
      (try dsimp only at hSw)
      go_simp
      (try with_reducible rfl)
    (try simp only [Act.put, List.setIfInBounds_toArray, List.set_cons_zero, List.set_cons_succ])
    refine wpAnyZ_take (i := 15) (oi := ⟨_, _, _, _, _, _⟩) (v := ?_) rfl (by kernel_rfl) (by kernel_rfl) (by kernel_rfl) (by kernel_rfl) (by kernel_rfl) (fun _ _ _ h => h) (Or.inl ⟨by rfl, ?_⟩) (by assumption) ?_
    rotate_left
    · intro W hSw
      (try dsimp only at hSw)
      go_simp
      (try with_reducible rfl)
    (try simp only [Act.put, List.setIfInBounds_toArray, List.set_cons_zero, List.set_cons_succ])
    refine wpAnyZ_take (i := 16) (oi := ⟨_, _, _, _, _, _⟩) (v := ?_) rfl (by kernel_rfl) (by kernel_rfl) (by kernel_rfl) (by kernel_rfl) (by kernel_rfl) (fun _ _ _ h => h) (Or.inl ⟨by rfl, ?_⟩) (by assumption) ?_
    rotate_left
    · intro W hSw
      (try dsimp only at hSw)
      go_simp
      (try with_reducible rfl)
    (try simp only [Act.put, List.setIfInBounds_toArray, List.set_cons_zero, List.set_cons_succ])
    refine wpAnyZ_take (i := 17) (oi := ⟨_, _, _, _, _, _⟩) (v := ?_) rfl (by kernel_rfl) (by kernel_rfl) (by kernel_rfl) (by kernel_rfl) (by kernel_rfl) (fun _ _ _ h => h) (Or.inl ⟨by rfl, ?_⟩) (by assumption) ?_
    rotate_left
    · intro W hSw
      (try dsimp only at hSw)
      go_simp
      (try with_reducible rfl)
    (try simp only [Act.put, List.setIfInBounds_toArray, List.set_cons_zero, List.set_cons_succ])
    refine wpAnyZ_ready (rs := [1, 10]) (by kernel_rfl) (by simp) ?_
    refine AllReadyZ.cons (o := ⟨_, _, _, _, _, _⟩) rfl (fun C hC => ?_) (AllReadyZ.cons (o := ⟨_, _, _, _, _, _⟩) rfl (fun C hC => ?_) AllReadyZ.nil)
    · skip
      go_simp
      obtain ⟨u1, hu1⟩ : ∃ u, u = u0.alloc (.cells #[] 75) := ⟨_, rfl⟩
      have hbb : Below u0.heap.size u0 u1 := by rw [hu1]; exact (Below.refl _ _).alloc (Nat.le_refl _) _
      have HBu1 := Lib.hid (HBu0.out.trans (hbb.mono HBu0.out.size))
      obtain ⟨gu1, hgu1⟩ : ∃ G, G = u0.heap.size := ⟨_, rfl⟩
      have HOu1 : Hid (OwnRow flK u1 w8.heap.size (.slice (some ⟨gu1, 0, none⟩) 0 0) []) := by show OwnRow _ _ _ _ _; rw [hu1, hgu1]; exact ownRow_lit flK_ok u0 _ [] HBu0.out.size (by simp) _ rfl 0 rfl
      rw [← hu1, ← hgu1]
      clear hu1 hgu1 hbb
      have hHeld : (fun (W : World) => W.cell? ⟨kf, 0, none⟩ = some (.slice fad len fcap) ∧ W.cell? ⟨kx, 0, none⟩ = some (.string n2) ∧ W.cell? ⟨kx, 1, none⟩ = some (.slice m.ad m.f.b.length m.cap) ∧ W.cell? ⟨kx, 2, none⟩ = some (.int .i64 (m.f.lasts : Int))) u1 := KS.out _ HBu1.out
      refine hC.out _ _ (fun _ => hHeld) (fun _ => ?_)
      clear hC C
      (try simp only [Act.put, List.setIfInBounds_toArray, List.set_cons_zero, List.set_cons_succ])
      refine wpAnyZ_ready (rs := [8, 10]) (by kernel_rfl) (by simp) ?_
      refine AllReadyZ.cons (o := ⟨_, _, _, _, _, _⟩) rfl (fun C hC => ?_) (AllReadyZ.cons (o := ⟨_, _, _, _, _, _⟩) rfl (fun C hC => ?_) AllReadyZ.nil)
      · skip
        refine held_row (by rfl) flK_ok (.tmp 62) (.tmp 68) rfl w8.heap.size [] (ms2.take k) _ rfl HOu1.out HBu1.out.size fad k fcap rfl (HUR.out.keep HBu1.out) (by rw [List.length_nil]; omega) ?_
        rintro vu2 u2 hap
        have HBu2 : Hid (Below w8.heap.size w8 u2) := HBu1.out.grown hap.2.1 HBu1.out.size fun q hq => (HOu1.out.lt q hq).1
        have HOu2 : Hid (OwnRow flK u2 w8.heap.size vu2 (ms2.take k)) := hap.1
        clear hap
        have hHeld : (fun (W : World) => W.cell? ⟨kf, 0, none⟩ = some (.slice fad len fcap) ∧ W.cell? ⟨kx, 0, none⟩ = some (.string n2) ∧ W.cell? ⟨kx, 1, none⟩ = some (.slice m.ad m.f.b.length m.cap) ∧ W.cell? ⟨kx, 2, none⟩ = some (.int .i64 (m.f.lasts : Int))) u2 := KS.out _ HBu2.out
        refine hC.out _ _ (fun _ => hHeld) (fun _ => ?_)
        clear hC C
        (try simp only [Act.put, List.setIfInBounds_toArray, List.set_cons_zero, List.set_cons_succ])
        refine wpAnyZ_ready (rs := [10]) (by kernel_rfl) (by simp) ?_
        refine AllReadyZ.cons (o := ⟨_, _, _, _, _, _⟩) rfl (fun C hC => ?_) AllReadyZ.nil
        go_simp
        obtain ⟨u3, hu3⟩ : ∃ u, u = u2.alloc (.cells #[.string n2, .slice m.ad m.f.b.length m.cap, .int .i64 (m.f.lasts : Int)] 75) := ⟨_, rfl⟩
        have hbb : Below u2.heap.size u2 u3 := by rw [hu3]; exact (Below.refl _ _).alloc (Nat.le_refl _) _
        have HBu3 := Lib.hid (HBu2.out.trans (hbb.mono HBu2.out.size))
        obtain ⟨gx, hgx⟩ : ∃ G, G = u2.heap.size := ⟨_, rfl⟩
        have HXu3 : Hid (RowAt flK u3 (some ⟨gx, 0, none⟩) 1 1 [mx]) := by show RowAt _ _ _ _ _ _; rw [hu3, hgx, HMX.out]; exact rowAt_lit flK_ok u2 [⟨⟨n2, m.f.b, m.f.lasts⟩, m.ad, m.cap⟩] (by simp) _ rfl 1 rfl
        have HOu3 := Lib.hid (HOu2.out.on hbb)
        have HNEu3 : ∀ a, (some (⟨gx, 0, none⟩ : Addr)) = some a → some a.block ≠ (vu2 : Value).ownBlock := by
          intro a ha e
          cases ha
          have h1 : gx < u2.heap.size := (HOu2.out.lt _ e.symm).2
          omega
        rw [← hu3, ← hgx]
        clear hu3 hgx hbb
        have hHeld : (fun (W : World) => W.cell? ⟨kf, 0, none⟩ = some (.slice fad len fcap) ∧ W.cell? ⟨kx, 0, none⟩ = some (.string n2) ∧ W.cell? ⟨kx, 1, none⟩ = some (.slice m.ad m.f.b.length m.cap) ∧ W.cell? ⟨kx, 2, none⟩ = some (.int .i64 (m.f.lasts : Int))) u3 := KS.out _ HBu3.out
        refine hC.out _ _ (fun _ => hHeld) (fun _ => ?_)
        clear hC C
        (try simp only [Act.put, List.setIfInBounds_toArray, List.set_cons_zero, List.set_cons_succ])
        refine wpAnyZ_ready (rs := [11]) (by kernel_rfl) (by simp) ?_
        refine AllReadyZ.cons (o := ⟨_, _, _, _, _, _⟩) rfl (fun C hC => ?_) AllReadyZ.nil
        refine held_row (by rfl) flK_ok (.tmp 69) (.tmp 71) rfl w8.heap.size (ms2.take k) [mx] _ rfl HOu3.out HBu3.out.size (some ⟨gx, 0, none⟩) 1 1 rfl HXu3.out (by rw [List.length_take]; omega) ?_
        rintro vu4 u4 hap
        have HBu4 : Hid (Below w8.heap.size w8 u4) := HBu3.out.grown hap.2.1 HBu3.out.size fun q hq => (HOu3.out.lt q hq).1
        have HOu4 : Hid (OwnRow flK u4 w8.heap.size vu4 (ms2.take k ++ [mx])) := hap.1
        clear hap
        have hHeld : (fun (W : World) => W.cell? ⟨kf, 0, none⟩ = some (.slice fad len fcap) ∧ W.cell? ⟨kx, 0, none⟩ = some (.string n2) ∧ W.cell? ⟨kx, 1, none⟩ = some (.slice m.ad m.f.b.length m.cap) ∧ W.cell? ⟨kx, 2, none⟩ = some (.int .i64 (m.f.lasts : Int))) u4 := KS.out _ HBu4.out
        refine hC.out _ _ (fun _ => hHeld) (fun _ => ?_)
        clear hC C
        (try simp only [Act.put, List.setIfInBounds_toArray, List.set_cons_zero, List.set_cons_succ])
        refine wpAnyZ_ready (rs := [18]) (by kernel_rfl) (by simp) ?_
        refine AllReadyZ.cons (o := ⟨_, _, _, _, _, _⟩) rfl (fun C hC => ?_) AllReadyZ.nil
        refine held_row (by rfl) flK_ok (.tmp 72) (.tmp 78) rfl w8.heap.size (ms2.take k ++ [mx]) (ms2.drop k) _ rfl HOu4.out HBu4.out.size fd (len - k) fc rfl (HFR.out.keep HBu4.out) (by rw [List.length_append, List.length_take]; simp; omega) ?_
        rintro vu5 u5 hap
        obtain ⟨ad9, cap9, hv9, _, _⟩ := OwnRow.row2 flK_ok hap.1 (n := len + 1) (by simp; omega)
        subst hv9
        have HBu5 : Hid (Below w8.heap.size w8 u5) := HBu4.out.grown hap.2.1 HBu4.out.size fun q hq => (HOu4.out.lt q hq).1
        have HOu5 : Hid (OwnRow flK u5 w8.heap.size (.slice ad9 (len + 1) cap9) (ms2.take k ++ [mx] ++ ms2.drop k)) := hap.1
        clear hap
        have hHeld : (fun (W : World) => W.cell? ⟨kf, 0, none⟩ = some (.slice fad len fcap) ∧ W.cell? ⟨kx, 0, none⟩ = some (.string n2) ∧ W.cell? ⟨kx, 1, none⟩ = some (.slice m.ad m.f.b.length m.cap) ∧ W.cell? ⟨kx, 2, none⟩ = some (.int .i64 (m.f.lasts : Int))) u5 := KS.out _ HBu5.out
        refine hC.out _ _ (fun _ => hHeld) (fun _ => ?_)
        clear hC C
        (try simp only [Act.put, List.setIfInBounds_toArray, List.set_cons_zero, List.set_cons_succ])
        refine wpAnyZ_take (i := 19) (oi := ⟨_, _, _, _, _, _⟩) (v := ?_) rfl (by kernel_rfl) (by kernel_rfl) (by kernel_rfl) (by kernel_rfl) (by kernel_rfl) (fun _ _ _ h => h) (Or.inl ⟨by rfl, ?_⟩) (by assumption) ?_
        rotate_left
        · intro W hSw
          (try dsimp only at hSw)
          go_simp
          (try with_reducible rfl)
        (try simp only [Act.put, List.setIfInBounds_toArray, List.set_cons_zero, List.set_cons_succ])
        refine wpAnyZ_take (i := 20) (oi := ⟨_, _, _, _, _, _⟩) (v := ?_) rfl (by kernel_rfl) (by kernel_rfl) (by kernel_rfl) (by kernel_rfl) (by kernel_rfl) (fun _ _ _ h => h) (Or.inl ⟨by rfl, ?_⟩) (by assumption) ?_
        rotate_left
        · intro W hSw
          (try dsimp only at hSw)
          go_simp
          (try with_reducible rfl)
        (try simp only [Act.put, List.setIfInBounds_toArray, List.set_cons_zero, List.set_cons_succ])
        have t0 := (H3.out.box.on HBu5.out).c0
        have t1 := (H3.out.box.on HBu5.out).free 0
        refine wpAnyZ_ready (rs := [21]) (by kernel_rfl) (by simp) ?_
        refine AllReadyZ.cons (o := ⟨_, _, _, _, _, _⟩) rfl (fun C hC => ?_) AllReadyZ.nil
        go_simp
        refine hC.out _ _ (zfree_no (by kernel_rfl)) (fun _ => ?_)
        clear hC C
        (try simp only [Act.put, List.setIfInBounds_toArray, List.set_cons_zero, List.set_cons_succ])
        refine wpAnyZ_done (by kernel_rfl) ?_ _
        refine NoPanic.normal ?_
        obtain ⟨wz, hwz⟩ : ∃ wz, wz = u5.setCell ⟨kf, 0, none⟩ (.slice ad9 (len + 1) cap9) := ⟨_, rfl⟩
        have hkf := H3.out.box.lt
        have HGz : Hid (w8.grownBy wz (some kf)) := by show World.grownBy _ _ _; rw [hwz]; exact grow_set (grow_below (grow_refl w8 _) HBu5.out) 0 _
        have HOz : Hid (OwnRow flK wz w8.heap.size (.slice ad9 (len + 1) cap9) (ms2.take k ++ [mx] ++ ms2.drop k)) := by show OwnRow _ _ _ _ _; rw [hwz]; exact HOu5.out.off hkf _ _
        have HBz : Hid (FsBox wz kf (.slice ad9 (len + 1) cap9) d.left d.done) := by show FsBox _ _ _ _ _; rw [hwz]; exact (H3.out.box.on HBu5.out).s0 _
        try rw [← hwz]
        clear hwz t0 t1 hHeld
        go_wp2
        go_ret
        exact gives_fs HE0.out (H3.out.laid2 HGz.out HBz.out HOz.out fun x hx => by
          rcases List.mem_append.1 hx with h1 | h1
          · rcases List.mem_append.1 h1 with h2 | h2
            · exact .inl (List.mem_of_mem_take h2)
            · rw [List.mem_singleton.1 h2, HMX.out]
              exact .inr ⟨HR8.out, HMR.out.2, HA8.out⟩
          · exact .inl (List.mem_of_mem_drop h1)) (by rw [fls_ins, HMV4.out, HMX.out]) (kept_grown (grow_trans HG8.out HGz.out)) (fun q hq => .inr (by have := (HOz.out.lt q hq).1; have := HG8.out.size; omega)) (lists_ins HSB2.out HMMM.out (by rw [HMX.out]))
      · skip
        go_simp
        obtain ⟨u6, hu6⟩ : ∃ u, u = u1.alloc (.cells #[.string n2, .slice m.ad m.f.b.length m.cap, .int .i64 (m.f.lasts : Int)] 75) := ⟨_, rfl⟩
        have hbb : Below u1.heap.size u1 u6 := by rw [hu6]; exact (Below.refl _ _).alloc (Nat.le_refl _) _
        have HBu6 := Lib.hid (HBu1.out.trans (hbb.mono HBu1.out.size))
        obtain ⟨gx, hgx⟩ : ∃ G, G = u1.heap.size := ⟨_, rfl⟩
        have HXu6 : Hid (RowAt flK u6 (some ⟨gx, 0, none⟩) 1 1 [mx]) := by show RowAt _ _ _ _ _ _; rw [hu6, hgx, HMX.out]; exact rowAt_lit flK_ok u1 [⟨⟨n2, m.f.b, m.f.lasts⟩, m.ad, m.cap⟩] (by simp) _ rfl 1 rfl
        have HOu6 := Lib.hid (HOu1.out.on hbb)
        have HNEu6 : ∀ a, (some (⟨gx, 0, none⟩ : Addr)) = some a → some a.block ≠ ((.slice (some ⟨gu1, 0, none⟩) 0 0) : Value).ownBlock := by
          intro a ha e
          cases ha
          have h1 : gx < u1.heap.size := (HOu1.out.lt _ e.symm).2
          omega
        rw [← hu6, ← hgx]
        clear hu6 hgx hbb
        have hHeld : (fun (W : World) => W.cell? ⟨kf, 0, none⟩ = some (.slice fad len fcap) ∧ W.cell? ⟨kx, 0, none⟩ = some (.string n2) ∧ W.cell? ⟨kx, 1, none⟩ = some (.slice m.ad m.f.b.length m.cap) ∧ W.cell? ⟨kx, 2, none⟩ = some (.int .i64 (m.f.lasts : Int))) u6 := KS.out _ HBu6.out
        refine hC.out _ _ (fun _ => hHeld) (fun _ => ?_)
        clear hC C
        (try simp only [Act.put, List.setIfInBounds_toArray, List.set_cons_zero, List.set_cons_succ])
        refine wpAnyZ_ready (rs := [8]) (by kernel_rfl) (by simp) ?_
        refine AllReadyZ.cons (o := ⟨_, _, _, _, _, _⟩) rfl (fun C hC => ?_) AllReadyZ.nil
        refine held_row (by rfl) flK_ok (.tmp 62) (.tmp 68) rfl w8.heap.size [] (ms2.take k) _ rfl HOu6.out HBu6.out.size fad k fcap rfl (HUR.out.keep HBu6.out) (by rw [List.length_nil]; omega) ?_
        rintro vu7 u7 hap
        have HBu7 : Hid (Below w8.heap.size w8 u7) := HBu6.out.grown hap.2.1 HBu6.out.size fun q hq => (HOu6.out.lt q hq).1
        have HOu7 : Hid (OwnRow flK u7 w8.heap.size vu7 (ms2.take k)) := hap.1
        have HXu7 := Lib.hid (HXu6.out.grown hap.2.1 HNEu6)
        clear hap
        have hHeld : (fun (W : World) => W.cell? ⟨kf, 0, none⟩ = some (.slice fad len fcap) ∧ W.cell? ⟨kx, 0, none⟩ = some (.string n2) ∧ W.cell? ⟨kx, 1, none⟩ = some (.slice m.ad m.f.b.length m.cap) ∧ W.cell? ⟨kx, 2, none⟩ = some (.int .i64 (m.f.lasts : Int))) u7 := KS.out _ HBu7.out
        refine hC.out _ _ (fun _ => hHeld) (fun _ => ?_)
        clear hC C
        (try simp only [Act.put, List.setIfInBounds_toArray, List.set_cons_zero, List.set_cons_succ])
        refine wpAnyZ_ready (rs := [11]) (by kernel_rfl) (by simp) ?_
        refine AllReadyZ.cons (o := ⟨_, _, _, _, _, _⟩) rfl (fun C hC => ?_) AllReadyZ.nil
        refine held_row (by rfl) flK_ok (.tmp 69) (.tmp 71) rfl w8.heap.size (ms2.take k) [mx] _ rfl HOu7.out HBu7.out.size (some ⟨gx, 0, none⟩) 1 1 rfl HXu7.out (by rw [List.length_take]; omega) ?_
        rintro vu8 u8 hap
        have HBu8 : Hid (Below w8.heap.size w8 u8) := HBu7.out.grown hap.2.1 HBu7.out.size fun q hq => (HOu7.out.lt q hq).1
        have HOu8 : Hid (OwnRow flK u8 w8.heap.size vu8 (ms2.take k ++ [mx])) := hap.1
        clear hap
        have hHeld : (fun (W : World) => W.cell? ⟨kf, 0, none⟩ = some (.slice fad len fcap) ∧ W.cell? ⟨kx, 0, none⟩ = some (.string n2) ∧ W.cell? ⟨kx, 1, none⟩ = some (.slice m.ad m.f.b.length m.cap) ∧ W.cell? ⟨kx, 2, none⟩ = some (.int .i64 (m.f.lasts : Int))) u8 := KS.out _ HBu8.out
        refine hC.out _ _ (fun _ => hHeld) (fun _ => ?_)
        clear hC C
        (try simp only [Act.put, List.setIfInBounds_toArray, List.set_cons_zero, List.set_cons_succ])
        refine wpAnyZ_ready (rs := [18]) (by kernel_rfl) (by simp) ?_
        refine AllReadyZ.cons (o := ⟨_, _, _, _, _, _⟩) rfl (fun C hC => ?_) AllReadyZ.nil
        refine held_row (by rfl) flK_ok (.tmp 72) (.tmp 78) rfl w8.heap.size (ms2.take k ++ [mx]) (ms2.drop k) _ rfl HOu8.out HBu8.out.size fd (len - k) fc rfl (HFR.out.keep HBu8.out) (by rw [List.length_append, List.length_take]; simp; omega) ?_
        rintro vu9 u9 hap
        obtain ⟨ad9, cap9, hv9, _, _⟩ := OwnRow.row2 flK_ok hap.1 (n := len + 1) (by simp; omega)
        subst hv9
        have HBu9 : Hid (Below w8.heap.size w8 u9) := HBu8.out.grown hap.2.1 HBu8.out.size fun q hq => (HOu8.out.lt q hq).1
        have HOu9 : Hid (OwnRow flK u9 w8.heap.size (.slice ad9 (len + 1) cap9) (ms2.take k ++ [mx] ++ ms2.drop k)) := hap.1
        clear hap
        have hHeld : (fun (W : World) => W.cell? ⟨kf, 0, none⟩ = some (.slice fad len fcap) ∧ W.cell? ⟨kx, 0, none⟩ = some (.string n2) ∧ W.cell? ⟨kx, 1, none⟩ = some (.slice m.ad m.f.b.length m.cap) ∧ W.cell? ⟨kx, 2, none⟩ = some (.int .i64 (m.f.lasts : Int))) u9 := KS.out _ HBu9.out
        refine hC.out _ _ (fun _ => hHeld) (fun _ => ?_)
        clear hC C
        (try simp only [Act.put, List.setIfInBounds_toArray, List.set_cons_zero, List.set_cons_succ])
        refine wpAnyZ_take (i := 19) (oi := ⟨_, _, _, _, _, _⟩) (v := ?_) rfl (by kernel_rfl) (by kernel_rfl) (by kernel_rfl) (by kernel_rfl) (by kernel_rfl) (fun _ _ _ h => h) (Or.inl ⟨by rfl, ?_⟩) (by assumption) ?_
        rotate_left
        · intro W hSw
          (try dsimp only at hSw)
          go_simp
          (try with_reducible rfl)
        (try simp only [Act.put, List.setIfInBounds_toArray, List.set_cons_zero, List.set_cons_succ])
        refine wpAnyZ_take (i := 20) (oi := ⟨_, _, _, _, _, _⟩) (v := ?_) rfl (by kernel_rfl) (by kernel_rfl) (by kernel_rfl) (by kernel_rfl) (by kernel_rfl) (fun _ _ _ h => h) (Or.inl ⟨by rfl, ?_⟩) (by assumption) ?_
        rotate_left
        · intro W hSw
          (try dsimp only at hSw)
          go_simp
          (try with_reducible rfl)
        (try simp only [Act.put, List.setIfInBounds_toArray, List.set_cons_zero, List.set_cons_succ])
        have t0 := (H3.out.box.on HBu9.out).c0
        have t1 := (H3.out.box.on HBu9.out).free 0
        refine wpAnyZ_ready (rs := [21]) (by kernel_rfl) (by simp) ?_
        refine AllReadyZ.cons (o := ⟨_, _, _, _, _, _⟩) rfl (fun C hC => ?_) AllReadyZ.nil
        go_simp
        refine hC.out _ _ (zfree_no (by kernel_rfl)) (fun _ => ?_)
        clear hC C
        (try simp only [Act.put, List.setIfInBounds_toArray, List.set_cons_zero, List.set_cons_succ])
        refine wpAnyZ_done (by kernel_rfl) ?_ _
        refine NoPanic.normal ?_
        obtain ⟨wz, hwz⟩ : ∃ wz, wz = u9.setCell ⟨kf, 0, none⟩ (.slice ad9 (len + 1) cap9) := ⟨_, rfl⟩
        have hkf := H3.out.box.lt
        have HGz : Hid (w8.grownBy wz (some kf)) := by show World.grownBy _ _ _; rw [hwz]; exact grow_set (grow_below (grow_refl w8 _) HBu9.out) 0 _
        have HOz : Hid (OwnRow flK wz w8.heap.size (.slice ad9 (len + 1) cap9) (ms2.take k ++ [mx] ++ ms2.drop k)) := by show OwnRow _ _ _ _ _; rw [hwz]; exact HOu9.out.off hkf _ _
        have HBz : Hid (FsBox wz kf (.slice ad9 (len + 1) cap9) d.left d.done) := by show FsBox _ _ _ _ _; rw [hwz]; exact (H3.out.box.on HBu9.out).s0 _
        try rw [← hwz]
        clear hwz t0 t1 hHeld
        go_wp2
        go_ret
        exact gives_fs HE0.out (H3.out.laid2 HGz.out HBz.out HOz.out fun x hx => by
          rcases List.mem_append.1 hx with h1 | h1
          · rcases List.mem_append.1 h1 with h2 | h2
            · exact .inl (List.mem_of_mem_take h2)
            · rw [List.mem_singleton.1 h2, HMX.out]
              exact .inr ⟨HR8.out, HMR.out.2, HA8.out⟩
          · exact .inl (List.mem_of_mem_drop h1)) (by rw [fls_ins, HMV4.out, HMX.out]) (kept_grown (grow_trans HG8.out HGz.out)) (fun q hq => .inr (by have := (HOz.out.lt q hq).1; have := HG8.out.size; omega)) (lists_ins HSB2.out HMMM.out (by rw [HMX.out]))
    · skip
      go_simp
      obtain ⟨u10, hu10⟩ : ∃ u, u = u0.alloc (.cells #[.string n2, .slice m.ad m.f.b.length m.cap, .int .i64 (m.f.lasts : Int)] 75) := ⟨_, rfl⟩
      have hbb : Below u0.heap.size u0 u10 := by rw [hu10]; exact (Below.refl _ _).alloc (Nat.le_refl _) _
      have HBu10 := Lib.hid (HBu0.out.trans (hbb.mono HBu0.out.size))
      obtain ⟨gx, hgx⟩ : ∃ G, G = u0.heap.size := ⟨_, rfl⟩
      have HXu10 : Hid (RowAt flK u10 (some ⟨gx, 0, none⟩) 1 1 [mx]) := by show RowAt _ _ _ _ _ _; rw [hu10, hgx, HMX.out]; exact rowAt_lit flK_ok u0 [⟨⟨n2, m.f.b, m.f.lasts⟩, m.ad, m.cap⟩] (by simp) _ rfl 1 rfl
      rw [← hu10, ← hgx]
      clear hu10 hgx hbb
      have hHeld : (fun (W : World) => W.cell? ⟨kf, 0, none⟩ = some (.slice fad len fcap) ∧ W.cell? ⟨kx, 0, none⟩ = some (.string n2) ∧ W.cell? ⟨kx, 1, none⟩ = some (.slice m.ad m.f.b.length m.cap) ∧ W.cell? ⟨kx, 2, none⟩ = some (.int .i64 (m.f.lasts : Int))) u10 := KS.out _ HBu10.out
      refine hC.out _ _ (fun _ => hHeld) (fun _ => ?_)
      clear hC C
      (try simp only [Act.put, List.setIfInBounds_toArray, List.set_cons_zero, List.set_cons_succ])
      refine wpAnyZ_ready (rs := [1]) (by kernel_rfl) (by simp) ?_
      refine AllReadyZ.cons (o := ⟨_, _, _, _, _, _⟩) rfl (fun C hC => ?_) AllReadyZ.nil
      go_simp
      obtain ⟨u11, hu11⟩ : ∃ u, u = u10.alloc (.cells #[] 75) := ⟨_, rfl⟩
      have hbb : Below u10.heap.size u10 u11 := by rw [hu11]; exact (Below.refl _ _).alloc (Nat.le_refl _) _
      have HBu11 := Lib.hid (HBu10.out.trans (hbb.mono HBu10.out.size))
      obtain ⟨gu11, hgu11⟩ : ∃ G, G = u10.heap.size := ⟨_, rfl⟩
      have HOu11 : Hid (OwnRow flK u11 w8.heap.size (.slice (some ⟨gu11, 0, none⟩) 0 0) []) := by show OwnRow _ _ _ _ _; rw [hu11, hgu11]; exact ownRow_lit flK_ok u10 _ [] HBu10.out.size (by simp) _ rfl 0 rfl
      have HXu11 := Lib.hid (HXu10.out.keep hbb)
      have HNEu11 : ∀ a, (some (⟨gx, 0, none⟩ : Addr)) = some a → some a.block ≠ (Value.slice (some ⟨gu11, 0, none⟩) 0 0).ownBlock := by
        intro a ha e
        cases ha
        have h1 := HXu10.out.lt (by omega) _ rfl
        simp [Value.ownBlock] at e
        simp at h1
        omega
      rw [← hu11, ← hgu11]
      clear hu11 hgu11 hbb
      have hHeld : (fun (W : World) => W.cell? ⟨kf, 0, none⟩ = some (.slice fad len fcap) ∧ W.cell? ⟨kx, 0, none⟩ = some (.string n2) ∧ W.cell? ⟨kx, 1, none⟩ = some (.slice m.ad m.f.b.length m.cap) ∧ W.cell? ⟨kx, 2, none⟩ = some (.int .i64 (m.f.lasts : Int))) u11 := KS.out _ HBu11.out
      refine hC.out _ _ (fun _ => hHeld) (fun _ => ?_)
      clear hC C
      (try simp only [Act.put, List.setIfInBounds_toArray, List.set_cons_zero, List.set_cons_succ])
      refine wpAnyZ_ready (rs := [8]) (by kernel_rfl) (by simp) ?_
      refine AllReadyZ.cons (o := ⟨_, _, _, _, _, _⟩) rfl (fun C hC => ?_) AllReadyZ.nil
      refine held_row (by rfl) flK_ok (.tmp 62) (.tmp 68) rfl w8.heap.size [] (ms2.take k) _ rfl HOu11.out HBu11.out.size fad k fcap rfl (HUR.out.keep HBu11.out) (by rw [List.length_nil]; omega) ?_
      rintro vu12 u12 hap
      have HBu12 : Hid (Below w8.heap.size w8 u12) := HBu11.out.grown hap.2.1 HBu11.out.size fun q hq => (HOu11.out.lt q hq).1
      have HOu12 : Hid (OwnRow flK u12 w8.heap.size vu12 (ms2.take k)) := hap.1
      have HXu12 := Lib.hid (HXu11.out.grown hap.2.1 HNEu11)
      clear hap
      have hHeld : (fun (W : World) => W.cell? ⟨kf, 0, none⟩ = some (.slice fad len fcap) ∧ W.cell? ⟨kx, 0, none⟩ = some (.string n2) ∧ W.cell? ⟨kx, 1, none⟩ = some (.slice m.ad m.f.b.length m.cap) ∧ W.cell? ⟨kx, 2, none⟩ = some (.int .i64 (m.f.lasts : Int))) u12 := KS.out _ HBu12.out
      refine hC.out _ _ (fun _ => hHeld) (fun _ => ?_)
      clear hC C
      (try simp only [Act.put, List.setIfInBounds_toArray, List.set_cons_zero, List.set_cons_succ])
      refine wpAnyZ_ready (rs := [11]) (by kernel_rfl) (by simp) ?_
      refine AllReadyZ.cons (o := ⟨_, _, _, _, _, _⟩) rfl (fun C hC => ?_) AllReadyZ.nil
      refine held_row (by rfl) flK_ok (.tmp 69) (.tmp 71) rfl w8.heap.size (ms2.take k) [mx] _ rfl HOu12.out HBu12.out.size (some ⟨gx, 0, none⟩) 1 1 rfl HXu12.out (by rw [List.length_take]; omega) ?_
      rintro vu13 u13 hap
      have HBu13 : Hid (Below w8.heap.size w8 u13) := HBu12.out.grown hap.2.1 HBu12.out.size fun q hq => (HOu12.out.lt q hq).1
      have HOu13 : Hid (OwnRow flK u13 w8.heap.size vu13 (ms2.take k ++ [mx])) := hap.1
      clear hap
      have hHeld : (fun (W : World) => W.cell? ⟨kf, 0, none⟩ = some (.slice fad len fcap) ∧ W.cell? ⟨kx, 0, none⟩ = some (.string n2) ∧ W.cell? ⟨kx, 1, none⟩ = some (.slice m.ad m.f.b.length m.cap) ∧ W.cell? ⟨kx, 2, none⟩ = some (.int .i64 (m.f.lasts : Int))) u13 := KS.out _ HBu13.out
      refine hC.out _ _ (fun _ => hHeld) (fun _ => ?_)
      clear hC C
      (try simp only [Act.put, List.setIfInBounds_toArray, List.set_cons_zero, List.set_cons_succ])
      refine wpAnyZ_ready (rs := [18]) (by kernel_rfl) (by simp) ?_
      refine AllReadyZ.cons (o := ⟨_, _, _, _, _, _⟩) rfl (fun C hC => ?_) AllReadyZ.nil
      refine held_row (by rfl) flK_ok (.tmp 72) (.tmp 78) rfl w8.heap.size (ms2.take k ++ [mx]) (ms2.drop k) _ rfl HOu13.out HBu13.out.size fd (len - k) fc rfl (HFR.out.keep HBu13.out) (by rw [List.length_append, List.length_take]; simp; omega) ?_
      rintro vu14 u14 hap
      obtain ⟨ad9, cap9, hv9, _, _⟩ := OwnRow.row2 flK_ok hap.1 (n := len + 1) (by simp; omega)
      subst hv9
      have HBu14 : Hid (Below w8.heap.size w8 u14) := HBu13.out.grown hap.2.1 HBu13.out.size fun q hq => (HOu13.out.lt q hq).1
      have HOu14 : Hid (OwnRow flK u14 w8.heap.size (.slice ad9 (len + 1) cap9) (ms2.take k ++ [mx] ++ ms2.drop k)) := hap.1
      clear hap
      have hHeld : (fun (W : World) => W.cell? ⟨kf, 0, none⟩ = some (.slice fad len fcap) ∧ W.cell? ⟨kx, 0, none⟩ = some (.string n2) ∧ W.cell? ⟨kx, 1, none⟩ = some (.slice m.ad m.f.b.length m.cap) ∧ W.cell? ⟨kx, 2, none⟩ = some (.int .i64 (m.f.lasts : Int))) u14 := KS.out _ HBu14.out
      refine hC.out _ _ (fun _ => hHeld) (fun _ => ?_)
      clear hC C
      (try simp only [Act.put, List.setIfInBounds_toArray, List.set_cons_zero, List.set_cons_succ])
      refine wpAnyZ_take (i := 19) (oi := ⟨_, _, _, _, _, _⟩) (v := ?_) rfl (by kernel_rfl) (by kernel_rfl) (by kernel_rfl) (by kernel_rfl) (by kernel_rfl) (fun _ _ _ h => h) (Or.inl ⟨by rfl, ?_⟩) (by assumption) ?_
      rotate_left
      · intro W hSw
        (try dsimp only at hSw)
        go_simp
        (try with_reducible rfl)
      (try simp only [Act.put, List.setIfInBounds_toArray, List.set_cons_zero, List.set_cons_succ])
      refine wpAnyZ_take (i := 20) (oi := ⟨_, _, _, _, _, _⟩) (v := ?_) rfl (by kernel_rfl) (by kernel_rfl) (by kernel_rfl) (by kernel_rfl) (by kernel_rfl) (fun _ _ _ h => h) (Or.inl ⟨by rfl, ?_⟩) (by assumption) ?_
      rotate_left
      · intro W hSw
        (try dsimp only at hSw)
        go_simp
        (try with_reducible rfl)
      (try simp only [Act.put, List.setIfInBounds_toArray, List.set_cons_zero, List.set_cons_succ])
      have t0 := (H3.out.box.on HBu14.out).c0
      have t1 := (H3.out.box.on HBu14.out).free 0
      refine wpAnyZ_ready (rs := [21]) (by kernel_rfl) (by simp) ?_
      refine AllReadyZ.cons (o := ⟨_, _, _, _, _, _⟩) rfl (fun C hC => ?_) AllReadyZ.nil
      go_simp
      refine hC.out _ _ (zfree_no (by kernel_rfl)) (fun _ => ?_)
      clear hC C
      (try simp only [Act.put, List.setIfInBounds_toArray, List.set_cons_zero, List.set_cons_succ])
      refine wpAnyZ_done (by kernel_rfl) ?_ _
      refine NoPanic.normal ?_
      obtain ⟨wz, hwz⟩ : ∃ wz, wz = u14.setCell ⟨kf, 0, none⟩ (.slice ad9 (len + 1) cap9) := ⟨_, rfl⟩
      have hkf := H3.out.box.lt
      have HGz : Hid (w8.grownBy wz (some kf)) := by show World.grownBy _ _ _; rw [hwz]; exact grow_set (grow_below (grow_refl w8 _) HBu14.out) 0 _
      have HOz : Hid (OwnRow flK wz w8.heap.size (.slice ad9 (len + 1) cap9) (ms2.take k ++ [mx] ++ ms2.drop k)) := by show OwnRow _ _ _ _ _; rw [hwz]; exact HOu14.out.off hkf _ _
      have HBz : Hid (FsBox wz kf (.slice ad9 (len + 1) cap9) d.left d.done) := by show FsBox _ _ _ _ _; rw [hwz]; exact (H3.out.box.on HBu14.out).s0 _
      try rw [← hwz]
      clear hwz t0 t1 hHeld
      go_wp2
      go_ret
      exact gives_fs HE0.out (H3.out.laid2 HGz.out HBz.out HOz.out fun x hx => by
        rcases List.mem_append.1 hx with h1 | h1
        · rcases List.mem_append.1 h1 with h2 | h2
          · exact .inl (List.mem_of_mem_take h2)
          · rw [List.mem_singleton.1 h2, HMX.out]
            exact .inr ⟨HR8.out, HMR.out.2, HA8.out⟩
        · exact .inl (List.mem_of_mem_drop h1)) (by rw [fls_ins, HMV4.out, HMX.out]) (kept_grown (grow_trans HG8.out HGz.out)) (fun q hq => .inr (by have := (HOz.out.lt q hq).1; have := HG8.out.size; omega)) (lists_ins HSB2.out HMMM.out (by rw [HMX.out]))
  · have hk1l : k1 < ms1.length := by
      have h1 := HH1.out
      obtain ⟨m, hm, _⟩ := has_len h1
      rw [HK1.out] at hm
      exact (List.getElem?_eq_some_iff.1 hm).1
    go_wp2_with fail
    refine (drop_any w6 kf _ d.left d.done ms1 H6.out (by omega) k1 hk1l).mono ?_
    rintro e w7 ⟨rfl, v7, h7, hg7, hv7⟩
    obtain ⟨ms2, hms2⟩ : ∃ x, x = ms1.take k1 ++ ms1.drop (k1 + 1) := ⟨_, rfl⟩
    have HSB2 : Hid (∀ x ∈ ms2, x ∈ ms) := fun x hx => HSB1.out x (by rw [hms2] at hx; exact mem_cut hx)
    rw [← hms2] at h7
    have H7 := Lib.hid h7
    have HX7 := Lib.hid (HX6.out.grown hg7 hkxf)
    have HG7 := Lib.hid (grow_trans HG6.out hg7)
    have HR7 : Hid (RowAt byteK w7 m.ad m.f.b.length m.cap m.f.b) := HR6.out.grown hg7 fun a ha e => by have := (HA6.out a ha).1; cases e; omega
    have HA7 : Hid (∀ a, m.ad = some a → kf < a.block ∧ a.block < w7.heap.size) := fun a ha => ⟨(HA6.out a ha).1, Nat.lt_of_lt_of_le (HA6.out a ha).2 hg7.size⟩
    have HN2 : Hid (NamesOk ms2) := fun x hx => HN1.out x (by rw [hms2] at hx; exact mem_cut hx)
    have hL2 : ms2.length ≤ 100000 := by rw [hms2]; simp; omega
    have HMV2 : Hid (moveF (fls ms) n n2 = (fls ms2).take (atF (fls ms2) n2) ++ { m.f with name := n2 } :: (fls ms2).drop (atF (fls ms2) n2)) := by
      show _ = _
      rw [HMV.out, ← HF1.out]
      simp only
      rw [HH1.out, if_pos rfl, HK1.out, hms2, fls_drop]
    clear h7 hg7 hv7 H6 HX6 HG6 HR6 HA6 HN1 hL1 HMV HK1 HH1 HF1 hms2 hk1l
    go_wp2_with fail
    refine (at_ok w7 kf _ d.left d.done ms2 H7.out (by omega) HN2.out n2 hn2).mono ?_
    rintro e w8 ⟨rfl, hb8⟩
    obtain ⟨k, hk⟩ : ∃ x, atF (fls ms2) n2 = x := ⟨_, rfl⟩
    rw [hk]
    have HMV3 := HMV2.out
    rw [hk] at HMV3
    have HMV4 := Lib.hid HMV3
    have hkl : k ≤ ms2.length := by
      have := atF_le (fls ms2) n2
      have e : (fls ms2).length = ms2.length := by unfold fls; rw [List.length_map]
      omega
    have HX8 := Lib.hid (HX7.out.on hb8)
    have HG8 := Lib.hid (grow_below HG7.out hb8)
    have HR8 := Lib.hid (HR7.out.keep hb8)
    have HA8 : Hid (∀ a, m.ad = some a → kf < a.block ∧ a.block < w8.heap.size) := fun a ha => ⟨(HA7.out a ha).1, Nat.lt_of_lt_of_le (HA7.out a ha).2 hb8.size⟩
    have H3 := Lib.hid (H7.out.keep hb8)
    clear hb8 hk H7 HX7 HG7 HR7 HA7 HMV2 HMV3
    obtain ⟨len, hlen⟩ : ∃ n, ms2.length = n := ⟨_, rfl⟩
    rw [hlen] at hkl hL2
    obtain ⟨fad, fcap, hvv, hr3, _⟩ := OwnRow.row2 flK_ok H3.out.row hlen
    subst hvv
    obtain ⟨mx, hmx⟩ : ∃ x : FM, x = ⟨⟨n2, m.f.b, m.f.lasts⟩, m.ad, m.cap⟩ := ⟨_, rfl⟩
    have HMX := Lib.hid hmx
    have hfits := hr3.fits
    have hup : ∀ W, (Instr.slice 52 (.slice fad len fcap) none (some (.int .i64 (k : Int))) none).run Tryd.prog W = .ok (.slice fad k fcap) W := row_upto flK_ok fad len fcap k (by omega)
    obtain ⟨fd, fc, hfr, hfrow, _⟩ := row_from flK_ok hr3 k hkl
    have hfr : ∀ W, (Instr.slice 52 (.slice fad len fcap) (some (.int .i64 (k : Int))) none none).run Tryd.prog W = .ok (.slice fd (len - k) fc) W := hfr
    have HFR := Lib.hid hfrow
    have HUR := Lib.hid (hr3.take k hkl)
    have KS : Hid (∀ W, Below w8.heap.size w8 W → (fun (W : World) => W.cell? ⟨kf, 0, none⟩ = some (.slice fad len fcap) ∧ W.cell? ⟨kx, 0, none⟩ = some (.string n2) ∧ W.cell? ⟨kx, 1, none⟩ = some (.slice m.ad m.f.b.length m.cap) ∧ W.cell? ⟨kx, 2, none⟩ = some (.int .i64 (m.f.lasts : Int))) W) := fun W hW => ⟨(H3.out.box.on hW).c0, (HX8.out.on hW).c0, (HX8.out.on hW).c1, (HX8.out.on hW).c2⟩
    have hdrw : Below w8.heap.size w8 w8.drew := (Below.refl _ w8).drew
    have HLEN := Lib.hid hlen
    clear hr3 hfrow hmx
    go_upto_region 0 with fail
    refine wp_region_noPanic ?_
    refine wp_region_z [21] (fun (W : World) => W.cell? ⟨kf, 0, none⟩ = some (.slice fad len fcap) ∧ W.cell? ⟨kx, 0, none⟩ = some (.string n2) ∧ W.cell? ⟨kx, 1, none⟩ = some (.slice m.ad m.f.b.length m.cap) ∧ W.cell? ⟨kx, 2, none⟩ = some (.int .i64 (m.f.lasts : Int))) (by kernel_rfl) ?_
    have hHeld : (fun (W : World) => W.cell? ⟨kf, 0, none⟩ = some (.slice fad len fcap) ∧ W.cell? ⟨kx, 0, none⟩ = some (.string n2) ∧ W.cell? ⟨kx, 1, none⟩ = some (.slice m.ad m.f.b.length m.cap) ∧ W.cell? ⟨kx, 2, none⟩ = some (.int .i64 (m.f.lasts : Int))) _ := KS.out _ hdrw
    obtain ⟨u0, hu0⟩ : ∃ u, u = w8.drew := ⟨_, rfl⟩
    rw [← hu0] at hHeld hdrw
    rw [← hu0]
    clear hu0
    have HBu0 := Lib.hid hdrw
    clear hdrw
    refine wpAnyZ_take (i := 0) (oi := ⟨_, _, _, _, _, _⟩) (v := ?_) rfl (by kernel_rfl) (by kernel_rfl) (by kernel_rfl) (by kernel_rfl) (by kernel_rfl) (fun _ _ _ h => h) (Or.inl ⟨by rfl, ?_⟩) (by assumption) ?_
    rotate_left
    · intro W hSw
      (try dsimp only at hSw)
      go_simp
      (try with_reducible rfl)
    (try simp only [Act.put, List.setIfInBounds_toArray, List.set_cons_zero, List.set_cons_succ])
    refine wpAnyZ_take (i := 2) (oi := ⟨_, _, _, _, _, _⟩) (v := ?_) rfl (by kernel_rfl) (by kernel_rfl) (by kernel_rfl) (by kernel_rfl) (by kernel_rfl) (fun _ _ _ h => h) (Or.inl ⟨by rfl, ?_⟩) (by assumption) ?_
    rotate_left
    · intro W hSw
      (try dsimp only at hSw)
      go_simp
      (try with_reducible rfl)
    (try simp only [Act.put, List.setIfInBounds_toArray, List.set_cons_zero, List.set_cons_succ])
    refine wpAnyZ_take (i := 3) (oi := ⟨_, _, _, _, _, _⟩) (v := ?_) rfl (by kernel_rfl) (by kernel_rfl) (by kernel_rfl) (by kernel_rfl) (by kernel_rfl) (fun _ _ _ h => h) (Or.inl ⟨by rfl, ?_⟩) (by assumption) ?_
    rotate_left
    · intro W hSw
      (try dsimp only at hSw)
      go_simp
      (try with_reducible rfl)
    (try simp only [Act.put, List.setIfInBounds_toArray, List.set_cons_zero, List.set_cons_succ])
    refine wpAnyZ_take (i := 4) (oi := ⟨_, _, _, _, _, _⟩) (v := ?_) rfl (by kernel_rfl) (by kernel_rfl) (by kernel_rfl) (by kernel_rfl) (by kernel_rfl) (fun _ _ _ h => h) (Or.inl ⟨by rfl, ?_⟩) (by assumption) ?_
    rotate_left
    · intro W hSw
      (try dsimp only at hSw)
      go_simp
      (try with_reducible rfl)
    (try simp only [Act.put, List.setIfInBounds_toArray, List.set_cons_zero, List.set_cons_succ])
    refine wpAnyZ_take (i := 5) (oi := ⟨_, _, _, _, _, _⟩) (v := ?_) rfl (by kernel_rfl) (by kernel_rfl) (by kernel_rfl) (by kernel_rfl) (by kernel_rfl) (fun _ _ _ h => h) (Or.inl ⟨by rfl, ?_⟩) (by assumption) ?_
    rotate_left
    · intro W hSw
      (try dsimp only at hSw)
      go_simp
      (try with_reducible rfl)
    (try simp only [Act.put, List.setIfInBounds_toArray, List.set_cons_zero, List.set_cons_succ])
    refine wpAnyZ_take (i := 6) (oi := ⟨_, _, _, _, _, _⟩) (v := ?_) rfl (by kernel_rfl) (by kernel_rfl) (by kernel_rfl) (by kernel_rfl) (by kernel_rfl) (fun _ _ _ h => h) (Or.inl ⟨by rfl, ?_⟩) (by assumption) ?_
    rotate_left
    · intro W hSw
      (try dsimp only at hSw)
      go_simp
      (try with_reducible rfl)
    (try simp only [Act.put, List.setIfInBounds_toArray, List.set_cons_zero, List.set_cons_succ])
    refine wpAnyZ_take (i := 7) (oi := ⟨_, _, _, _, _, _⟩) (v := ?_) rfl (by kernel_rfl) (by kernel_rfl) (by kernel_rfl) (by kernel_rfl) (by kernel_rfl) (fun _ _ _ h => h) (Or.inl ⟨by rfl, ?_⟩) (by assumption) ?_
    rotate_left
    · intro W hSw
      (try dsimp only at hSw)
      go_simp
      (try with_reducible rfl)
    (try simp only [Act.put, List.setIfInBounds_toArray, List.set_cons_zero, List.set_cons_succ])
    refine wpAnyZ_take (i := 9) (oi := ⟨_, _, _, _, _, _⟩) (v := ?_) rfl (by kernel_rfl) (by kernel_rfl) (by kernel_rfl) (by kernel_rfl) (by kernel_rfl) (fun _ _ _ h => h) (Or.inl ⟨by rfl, ?_⟩) (by assumption) ?_
    rotate_left
    · intro W hSw
      (try dsimp only at hSw)
      go_simp
      (try with_reducible rfl)
    (try simp only [Act.put, List.setIfInBounds_toArray, List.set_cons_zero, List.set_cons_succ])
    refine wpAnyZ_take (i := 12) (oi := ⟨_, _, _, _, _, _⟩) (v := ?_) rfl (by kernel_rfl) (by kernel_rfl) (by kernel_rfl) (by kernel_rfl) (by kernel_rfl) (fun _ _ _ h => h) (Or.inl ⟨by rfl, ?_⟩) (by assumption) ?_
    rotate_left
    · intro W hSw
      (try dsimp only at hSw)
      go_simp
      (try with_reducible rfl)
    (try simp only [Act.put, List.setIfInBounds_toArray, List.set_cons_zero, List.set_cons_succ])
    refine wpAnyZ_take (i := 13) (oi := ⟨_, _, _, _, _, _⟩) (v := ?_) rfl (by kernel_rfl) (by kernel_rfl) (by kernel_rfl) (by kernel_rfl) (by kernel_rfl) (fun _ _ _ h => h) (Or.inl ⟨by rfl, ?_⟩) (by assumption) ?_
    rotate_left
    · intro W hSw
      (try dsimp only at hSw)
      go_simp
      (try with_reducible rfl)
    (try simp only [Act.put, List.setIfInBounds_toArray, List.set_cons_zero, List.set_cons_succ])
    refine wpAnyZ_take (i := 14) (oi := ⟨_, _, _, _, _, _⟩) (v := ?_) rfl (by kernel_rfl) (by kernel_rfl) (by kernel_rfl) (by kernel_rfl) (by kernel_rfl) (fun _ _ _ h => h) (Or.inl ⟨by rfl, ?_⟩) (by assumption) ?_
    rotate_left
    · intro W hSw
      (try dsimp only at hSw)
      go_simp
      (try with_reducible rfl)
    (try simp only [Act.put, List.setIfInBounds_toArray, List.set_cons_zero, List.set_cons_succ])
    refine wpAnyZ_take (i := 15) (oi := ⟨_, _, _, _, _, _⟩) (v := ?_) rfl (by kernel_rfl) (by kernel_rfl) (by kernel_rfl) (by kernel_rfl) (by kernel_rfl) (fun _ _ _ h => h) (Or.inl ⟨by rfl, ?_⟩) (by assumption) ?_
    rotate_left
    · intro W hSw
      (try dsimp only at hSw)
      go_simp
      (try with_reducible rfl)
    (try simp only [Act.put, List.setIfInBounds_toArray, List.set_cons_zero, List.set_cons_succ])
    refine wpAnyZ_take (i := 16) (oi := ⟨_, _, _, _, _, _⟩) (v := ?_) rfl (by kernel_rfl) (by kernel_rfl) (by kernel_rfl) (by kernel_rfl) (by kernel_rfl) (fun _ _ _ h => h) (Or.inl ⟨by rfl, ?_⟩) (by assumption) ?_
    rotate_left
    · intro W hSw
      (try dsimp only at hSw)
      go_simp
      (try with_reducible rfl)
    (try simp only [Act.put, List.setIfInBounds_toArray, List.set_cons_zero, List.set_cons_succ])
    refine wpAnyZ_take (i := 17) (oi := ⟨_, _, _, _, _, _⟩) (v := ?_) rfl (by kernel_rfl) (by kernel_rfl) (by kernel_rfl) (by kernel_rfl) (by kernel_rfl) (fun _ _ _ h => h) (Or.inl ⟨by rfl, ?_⟩) (by assumption) ?_
    rotate_left
    · intro W hSw
      (try dsimp only at hSw)
      go_simp
      (try with_reducible rfl)
    (try simp only [Act.put, List.setIfInBounds_toArray, List.set_cons_zero, List.set_cons_succ])
    refine wpAnyZ_ready (rs := [1, 10]) (by kernel_rfl) (by simp) ?_
    refine AllReadyZ.cons (o := ⟨_, _, _, _, _, _⟩) rfl (fun C hC => ?_) (AllReadyZ.cons (o := ⟨_, _, _, _, _, _⟩) rfl (fun C hC => ?_) AllReadyZ.nil)
    · skip
      go_simp
      obtain ⟨u1, hu1⟩ : ∃ u, u = u0.alloc (.cells #[] 75) := ⟨_, rfl⟩
      have hbb : Below u0.heap.size u0 u1 := by rw [hu1]; exact (Below.refl _ _).alloc (Nat.le_refl _) _
      have HBu1 := Lib.hid (HBu0.out.trans (hbb.mono HBu0.out.size))
      obtain ⟨gu1, hgu1⟩ : ∃ G, G = u0.heap.size := ⟨_, rfl⟩
      have HOu1 : Hid (OwnRow flK u1 w8.heap.size (.slice (some ⟨gu1, 0, none⟩) 0 0) []) := by show OwnRow _ _ _ _ _; rw [hu1, hgu1]; exact ownRow_lit flK_ok u0 _ [] HBu0.out.size (by simp) _ rfl 0 rfl
      rw [← hu1, ← hgu1]
      clear hu1 hgu1 hbb
      have hHeld : (fun (W : World) => W.cell? ⟨kf, 0, none⟩ = some (.slice fad len fcap) ∧ W.cell? ⟨kx, 0, none⟩ = some (.string n2) ∧ W.cell? ⟨kx, 1, none⟩ = some (.slice m.ad m.f.b.length m.cap) ∧ W.cell? ⟨kx, 2, none⟩ = some (.int .i64 (m.f.lasts : Int))) u1 := KS.out _ HBu1.out
      refine hC.out _ _ (fun _ => hHeld) (fun _ => ?_)
      clear hC C
      (try simp only [Act.put, List.setIfInBounds_toArray, List.set_cons_zero, List.set_cons_succ])
      refine wpAnyZ_ready (rs := [8, 10]) (by kernel_rfl) (by simp) ?_
      refine AllReadyZ.cons (o := ⟨_, _, _, _, _, _⟩) rfl (fun C hC => ?_) (AllReadyZ.cons (o := ⟨_, _, _, _, _, _⟩) rfl (fun C hC => ?_) AllReadyZ.nil)
      · skip
        refine held_row (by rfl) flK_ok (.tmp 62) (.tmp 68) rfl w8.heap.size [] (ms2.take k) _ rfl HOu1.out HBu1.out.size fad k fcap rfl (HUR.out.keep HBu1.out) (by rw [List.length_nil]; omega) ?_
        rintro vu2 u2 hap
        have HBu2 : Hid (Below w8.heap.size w8 u2) := HBu1.out.grown hap.2.1 HBu1.out.size fun q hq => (HOu1.out.lt q hq).1
        have HOu2 : Hid (OwnRow flK u2 w8.heap.size vu2 (ms2.take k)) := hap.1
        clear hap
        have hHeld : (fun (W : World) => W.cell? ⟨kf, 0, none⟩ = some (.slice fad len fcap) ∧ W.cell? ⟨kx, 0, none⟩ = some (.string n2) ∧ W.cell? ⟨kx, 1, none⟩ = some (.slice m.ad m.f.b.length m.cap) ∧ W.cell? ⟨kx, 2, none⟩ = some (.int .i64 (m.f.lasts : Int))) u2 := KS.out _ HBu2.out
        refine hC.out _ _ (fun _ => hHeld) (fun _ => ?_)
        clear hC C
        (try simp only [Act.put, List.setIfInBounds_toArray, List.set_cons_zero, List.set_cons_succ])
        refine wpAnyZ_ready (rs := [10]) (by kernel_rfl) (by simp) ?_
        refine AllReadyZ.cons (o := ⟨_, _, _, _, _, _⟩) rfl (fun C hC => ?_) AllReadyZ.nil
        go_simp
        obtain ⟨u3, hu3⟩ : ∃ u, u = u2.alloc (.cells #[.string n2, .slice m.ad m.f.b.length m.cap, .int .i64 (m.f.lasts : Int)] 75) := ⟨_, rfl⟩
        have hbb : Below u2.heap.size u2 u3 := by rw [hu3]; exact (Below.refl _ _).alloc (Nat.le_refl _) _
        have HBu3 := Lib.hid (HBu2.out.trans (hbb.mono HBu2.out.size))
        obtain ⟨gx, hgx⟩ : ∃ G, G = u2.heap.size := ⟨_, rfl⟩
        have HXu3 : Hid (RowAt flK u3 (some ⟨gx, 0, none⟩) 1 1 [mx]) := by show RowAt _ _ _ _ _ _; rw [hu3, hgx, HMX.out]; exact rowAt_lit flK_ok u2 [⟨⟨n2, m.f.b, m.f.lasts⟩, m.ad, m.cap⟩] (by simp) _ rfl 1 rfl
        have HOu3 := Lib.hid (HOu2.out.on hbb)
        have HNEu3 : ∀ a, (some (⟨gx, 0, none⟩ : Addr)) = some a → some a.block ≠ (vu2 : Value).ownBlock := by
          intro a ha e
          cases ha
          have h1 : gx < u2.heap.size := (HOu2.out.lt _ e.symm).2
          omega
        rw [← hu3, ← hgx]
        clear hu3 hgx hbb
        have hHeld : (fun (W : World) => W.cell? ⟨kf, 0, none⟩ = some (.slice fad len fcap) ∧ W.cell? ⟨kx, 0, none⟩ = some (.string n2) ∧ W.cell? ⟨kx, 1, none⟩ = some (.slice m.ad m.f.b.length m.cap) ∧ W.cell? ⟨kx, 2, none⟩ = some (.int .i64 (m.f.lasts : Int))) u3 := KS.out _ HBu3.out
        refine hC.out _ _ (fun _ => hHeld) (fun _ => ?_)
        clear hC C
        (try simp only [Act.put, List.setIfInBounds_toArray, List.set_cons_zero, List.set_cons_succ])
        refine wpAnyZ_ready (rs := [11]) (by kernel_rfl) (by simp) ?_
        refine AllReadyZ.cons (o := ⟨_, _, _, _, _, _⟩) rfl (fun C hC => ?_) AllReadyZ.nil
        refine held_row (by rfl) flK_ok (.tmp 69) (.tmp 71) rfl w8.heap.size (ms2.take k) [mx] _ rfl HOu3.out HBu3.out.size (some ⟨gx, 0, none⟩) 1 1 rfl HXu3.out (by rw [List.length_take]; omega) ?_
        rintro vu4 u4 hap
        have HBu4 : Hid (Below w8.heap.size w8 u4) := HBu3.out.grown hap.2.1 HBu3.out.size fun q hq => (HOu3.out.lt q hq).1
        have HOu4 : Hid (OwnRow flK u4 w8.heap.size vu4 (ms2.take k ++ [mx])) := hap.1
        clear hap
        have hHeld : (fun (W : World) => W.cell? ⟨kf, 0, none⟩ = some (.slice fad len fcap) ∧ W.cell? ⟨kx, 0, none⟩ = some (.string n2) ∧ W.cell? ⟨kx, 1, none⟩ = some (.slice m.ad m.f.b.length m.cap) ∧ W.cell? ⟨kx, 2, none⟩ = some (.int .i64 (m.f.lasts : Int))) u4 := KS.out _ HBu4.out
        refine hC.out _ _ (fun _ => hHeld) (fun _ => ?_)
        clear hC C
        (try simp only [Act.put, List.setIfInBounds_toArray, List.set_cons_zero, List.set_cons_succ])
        refine wpAnyZ_ready (rs := [18]) (by kernel_rfl) (by simp) ?_
        refine AllReadyZ.cons (o := ⟨_, _, _, _, _, _⟩) rfl (fun C hC => ?_) AllReadyZ.nil
        refine held_row (by rfl) flK_ok (.tmp 72) (.tmp 78) rfl w8.heap.size (ms2.take k ++ [mx]) (ms2.drop k) _ rfl HOu4.out HBu4.out.size fd (len - k) fc rfl (HFR.out.keep HBu4.out) (by rw [List.length_append, List.length_take]; simp; omega) ?_
        rintro vu5 u5 hap
        obtain ⟨ad9, cap9, hv9, _, _⟩ := OwnRow.row2 flK_ok hap.1 (n := len + 1) (by simp; omega)
        subst hv9
        have HBu5 : Hid (Below w8.heap.size w8 u5) := HBu4.out.grown hap.2.1 HBu4.out.size fun q hq => (HOu4.out.lt q hq).1
        have HOu5 : Hid (OwnRow flK u5 w8.heap.size (.slice ad9 (len + 1) cap9) (ms2.take k ++ [mx] ++ ms2.drop k)) := hap.1
        clear hap
        have hHeld : (fun (W : World) => W.cell? ⟨kf, 0, none⟩ = some (.slice fad len fcap) ∧ W.cell? ⟨kx, 0, none⟩ = some (.string n2) ∧ W.cell? ⟨kx, 1, none⟩ = some (.slice m.ad m.f.b.length m.cap) ∧ W.cell? ⟨kx, 2, none⟩ = some (.int .i64 (m.f.lasts : Int))) u5 := KS.out _ HBu5.out
        refine hC.out _ _ (fun _ => hHeld) (fun _ => ?_)
        clear hC C
        (try simp only [Act.put, List.setIfInBounds_toArray, List.set_cons_zero, List.set_cons_succ])
        refine wpAnyZ_take (i := 19) (oi := ⟨_, _, _, _, _, _⟩) (v := ?_) rfl (by kernel_rfl) (by kernel_rfl) (by kernel_rfl) (by kernel_rfl) (by kernel_rfl) (fun _ _ _ h => h) (Or.inl ⟨by rfl, ?_⟩) (by assumption) ?_
        rotate_left
        · intro W hSw
          (try dsimp only at hSw)
          go_simp
          (try with_reducible rfl)
        (try simp only [Act.put, List.setIfInBounds_toArray, List.set_cons_zero, List.set_cons_succ])
        refine wpAnyZ_take (i := 20) (oi := ⟨_, _, _, _, _, _⟩) (v := ?_) rfl (by kernel_rfl) (by kernel_rfl) (by kernel_rfl) (by kernel_rfl) (by kernel_rfl) (fun _ _ _ h => h) (Or.inl ⟨by rfl, ?_⟩) (by assumption) ?_
        rotate_left
        · intro W hSw
          (try dsimp only at hSw)
          go_simp
          (try with_reducible rfl)
        (try simp only [Act.put, List.setIfInBounds_toArray, List.set_cons_zero, List.set_cons_succ])
        have t0 := (H3.out.box.on HBu5.out).c0
        have t1 := (H3.out.box.on HBu5.out).free 0
        refine wpAnyZ_ready (rs := [21]) (by kernel_rfl) (by simp) ?_
        refine AllReadyZ.cons (o := ⟨_, _, _, _, _, _⟩) rfl (fun C hC => ?_) AllReadyZ.nil
        go_simp
        refine hC.out _ _ (zfree_no (by kernel_rfl)) (fun _ => ?_)
        clear hC C
        (try simp only [Act.put, List.setIfInBounds_toArray, List.set_cons_zero, List.set_cons_succ])
        refine wpAnyZ_done (by kernel_rfl) ?_ _
        refine NoPanic.normal ?_
        obtain ⟨wz, hwz⟩ : ∃ wz, wz = u5.setCell ⟨kf, 0, none⟩ (.slice ad9 (len + 1) cap9) := ⟨_, rfl⟩
        have hkf := H3.out.box.lt
        have HGz : Hid (w8.grownBy wz (some kf)) := by show World.grownBy _ _ _; rw [hwz]; exact grow_set (grow_below (grow_refl w8 _) HBu5.out) 0 _
        have HOz : Hid (OwnRow flK wz w8.heap.size (.slice ad9 (len + 1) cap9) (ms2.take k ++ [mx] ++ ms2.drop k)) := by show OwnRow _ _ _ _ _; rw [hwz]; exact HOu5.out.off hkf _ _
        have HBz : Hid (FsBox wz kf (.slice ad9 (len + 1) cap9) d.left d.done) := by show FsBox _ _ _ _ _; rw [hwz]; exact (H3.out.box.on HBu5.out).s0 _
        try rw [← hwz]
        clear hwz t0 t1 hHeld
        go_wp2
        go_ret
        exact gives_fs HE0.out (H3.out.laid2 HGz.out HBz.out HOz.out fun x hx => by
          rcases List.mem_append.1 hx with h1 | h1
          · rcases List.mem_append.1 h1 with h2 | h2
            · exact .inl (List.mem_of_mem_take h2)
            · rw [List.mem_singleton.1 h2, HMX.out]
              exact .inr ⟨HR8.out, HMR.out.2, HA8.out⟩
          · exact .inl (List.mem_of_mem_drop h1)) (by rw [fls_ins, HMV4.out, HMX.out]) (kept_grown (grow_trans HG8.out HGz.out)) (fun q hq => .inr (by have := (HOz.out.lt q hq).1; have := HG8.out.size; omega)) (lists_ins HSB2.out HMMM.out (by rw [HMX.out]))
      · skip
        go_simp
        obtain ⟨u6, hu6⟩ : ∃ u, u = u1.alloc (.cells #[.string n2, .slice m.ad m.f.b.length m.cap, .int .i64 (m.f.lasts : Int)] 75) := ⟨_, rfl⟩
        have hbb : Below u1.heap.size u1 u6 := by rw [hu6]; exact (Below.refl _ _).alloc (Nat.le_refl _) _
        have HBu6 := Lib.hid (HBu1.out.trans (hbb.mono HBu1.out.size))
        obtain ⟨gx, hgx⟩ : ∃ G, G = u1.heap.size := ⟨_, rfl⟩
        have HXu6 : Hid (RowAt flK u6 (some ⟨gx, 0, none⟩) 1 1 [mx]) := by show RowAt _ _ _ _ _ _; rw [hu6, hgx, HMX.out]; exact rowAt_lit flK_ok u1 [⟨⟨n2, m.f.b, m.f.lasts⟩, m.ad, m.cap⟩] (by simp) _ rfl 1 rfl
        have HOu6 := Lib.hid (HOu1.out.on hbb)
        have HNEu6 : ∀ a, (some (⟨gx, 0, none⟩ : Addr)) = some a → some a.block ≠ ((.slice (some ⟨gu1, 0, none⟩) 0 0) : Value).ownBlock := by
          intro a ha e
          cases ha
          have h1 : gx < u1.heap.size := (HOu1.out.lt _ e.symm).2
          omega
        rw [← hu6, ← hgx]
        clear hu6 hgx hbb
        have hHeld : (fun (W : World) => W.cell? ⟨kf, 0, none⟩ = some (.slice fad len fcap) ∧ W.cell? ⟨kx, 0, none⟩ = some (.string n2) ∧ W.cell? ⟨kx, 1, none⟩ = some (.slice m.ad m.f.b.length m.cap) ∧ W.cell? ⟨kx, 2, none⟩ = some (.int .i64 (m.f.lasts : Int))) u6 := KS.out _ HBu6.out
        refine hC.out _ _ (fun _ => hHeld) (fun _ => ?_)
        clear hC C
        (try simp only [Act.put, List.setIfInBounds_toArray, List.set_cons_zero, List.set_cons_succ])
        refine wpAnyZ_ready (rs := [8]) (by kernel_rfl) (by simp) ?_
        refine AllReadyZ.cons (o := ⟨_, _, _, _, _, _⟩) rfl (fun C hC => ?_) AllReadyZ.nil
        refine held_row (by rfl) flK_ok (.tmp 62) (.tmp 68) rfl w8.heap.size [] (ms2.take k) _ rfl HOu6.out HBu6.out.size fad k fcap rfl (HUR.out.keep HBu6.out) (by rw [List.length_nil]; omega) ?_
        rintro vu7 u7 hap
        have HBu7 : Hid (Below w8.heap.size w8 u7) := HBu6.out.grown hap.2.1 HBu6.out.size fun q hq => (HOu6.out.lt q hq).1
        have HOu7 : Hid (OwnRow flK u7 w8.heap.size vu7 (ms2.take k)) := hap.1
        have HXu7 := Lib.hid (HXu6.out.grown hap.2.1 HNEu6)
        clear hap
        have hHeld : (fun (W : World) => W.cell? ⟨kf, 0, none⟩ = some (.slice fad len fcap) ∧ W.cell? ⟨kx, 0, none⟩ = some (.string n2) ∧ W.cell? ⟨kx, 1, none⟩ = some (.slice m.ad m.f.b.length m.cap) ∧ W.cell? ⟨kx, 2, none⟩ = some (.int .i64 (m.f.lasts : Int))) u7 := KS.out _ HBu7.out
        refine hC.out _ _ (fun _ => hHeld) (fun _ => ?_)
        clear hC C
        (try simp only [Act.put, List.setIfInBounds_toArray, List.set_cons_zero, List.set_cons_succ])
        refine wpAnyZ_ready (rs := [11]) (by kernel_rfl) (by simp) ?_
        refine AllReadyZ.cons (o := ⟨_, _, _, _, _, _⟩) rfl (fun C hC => ?_) AllReadyZ.nil
        refine held_row (by rfl) flK_ok (.tmp 69) (.tmp 71) rfl w8.heap.size (ms2.take k) [mx] _ rfl HOu7.out HBu7.out.size (some ⟨gx, 0, none⟩) 1 1 rfl HXu7.out (by rw [List.length_take]; omega) ?_
        rintro vu8 u8 hap
        have HBu8 : Hid (Below w8.heap.size w8 u8) := HBu7.out.grown hap.2.1 HBu7.out.size fun q hq => (HOu7.out.lt q hq).1
        have HOu8 : Hid (OwnRow flK u8 w8.heap.size vu8 (ms2.take k ++ [mx])) := hap.1
        clear hap
        have hHeld : (fun (W : World) => W.cell? ⟨kf, 0, none⟩ = some (.slice fad len fcap) ∧ W.cell? ⟨kx, 0, none⟩ = some (.string n2) ∧ W.cell? ⟨kx, 1, none⟩ = some (.slice m.ad m.f.b.length m.cap) ∧ W.cell? ⟨kx, 2, none⟩ = some (.int .i64 (m.f.lasts : Int))) u8 := KS.out _ HBu8.out
        refine hC.out _ _ (fun _ => hHeld) (fun _ => ?_)
        clear hC C
        (try simp only [Act.put, List.setIfInBounds_toArray, List.set_cons_zero, List.set_cons_succ])
        refine wpAnyZ_ready (rs := [18]) (by kernel_rfl) (by simp) ?_
        refine AllReadyZ.cons (o := ⟨_, _, _, _, _, _⟩) rfl (fun C hC => ?_) AllReadyZ.nil
        refine held_row (by rfl) flK_ok (.tmp 72) (.tmp 78) rfl w8.heap.size (ms2.take k ++ [mx]) (ms2.drop k) _ rfl HOu8.out HBu8.out.size fd (len - k) fc rfl (HFR.out.keep HBu8.out) (by rw [List.length_append, List.length_take]; simp; omega) ?_
        rintro vu9 u9 hap
        obtain ⟨ad9, cap9, hv9, _, _⟩ := OwnRow.row2 flK_ok hap.1 (n := len + 1) (by simp; omega)
        subst hv9
        have HBu9 : Hid (Below w8.heap.size w8 u9) := HBu8.out.grown hap.2.1 HBu8.out.size fun q hq => (HOu8.out.lt q hq).1
        have HOu9 : Hid (OwnRow flK u9 w8.heap.size (.slice ad9 (len + 1) cap9) (ms2.take k ++ [mx] ++ ms2.drop k)) := hap.1
        clear hap
        have hHeld : (fun (W : World) => W.cell? ⟨kf, 0, none⟩ = some (.slice fad len fcap) ∧ W.cell? ⟨kx, 0, none⟩ = some (.string n2) ∧ W.cell? ⟨kx, 1, none⟩ = some (.slice m.ad m.f.b.length m.cap) ∧ W.cell? ⟨kx, 2, none⟩ = some (.int .i64 (m.f.lasts : Int))) u9 := KS.out _ HBu9.out
        refine hC.out _ _ (fun _ => hHeld) (fun _ => ?_)
        clear hC C
        (try simp only [Act.put, List.setIfInBounds_toArray, List.set_cons_zero, List.set_cons_succ])
        refine wpAnyZ_take (i := 19) (oi := ⟨_, _, _, _, _, _⟩) (v := ?_) rfl (by kernel_rfl) (by kernel_rfl) (by kernel_rfl) (by kernel_rfl) (by kernel_rfl) (fun _ _ _ h => h) (Or.inl ⟨by rfl, ?_⟩) (by assumption) ?_
        rotate_left
        · intro W hSw
          (try dsimp only at hSw)
          go_simp
          (try with_reducible rfl)
        (try simp only [Act.put, List.setIfInBounds_toArray, List.set_cons_zero, List.set_cons_succ])
        refine wpAnyZ_take (i := 20) (oi := ⟨_, _, _, _, _, _⟩) (v := ?_) rfl (by kernel_rfl) (by kernel_rfl) (by kernel_rfl) (by kernel_rfl) (by kernel_rfl) (fun _ _ _ h => h) (Or.inl ⟨by rfl, ?_⟩) (by assumption) ?_
        rotate_left
        · intro W hSw
          (try dsimp only at hSw)
          go_simp
          (try with_reducible rfl)
        (try simp only [Act.put, List.setIfInBounds_toArray, List.set_cons_zero, List.set_cons_succ])
        have t0 := (H3.out.box.on HBu9.out).c0
        have t1 := (H3.out.box.on HBu9.out).free 0
        refine wpAnyZ_ready (rs := [21]) (by kernel_rfl) (by simp) ?_
        refine AllReadyZ.cons (o := ⟨_, _, _, _, _, _⟩) rfl (fun C hC => ?_) AllReadyZ.nil
        go_simp
        refine hC.out _ _ (zfree_no (by kernel_rfl)) (fun _ => ?_)
        clear hC C
        (try simp only [Act.put, List.setIfInBounds_toArray, List.set_cons_zero, List.set_cons_succ])
        refine wpAnyZ_done (by kernel_rfl) ?_ _
        refine NoPanic.normal ?_
        obtain ⟨wz, hwz⟩ : ∃ wz, wz = u9.setCell ⟨kf, 0, none⟩ (.slice ad9 (len + 1) cap9) := ⟨_, rfl⟩
        have hkf := H3.out.box.lt
        have HGz : Hid (w8.grownBy wz (some kf)) := by show World.grownBy _ _ _; rw [hwz]; exact grow_set (grow_below (grow_refl w8 _) HBu9.out) 0 _
        have HOz : Hid (OwnRow flK wz w8.heap.size (.slice ad9 (len + 1) cap9) (ms2.take k ++ [mx] ++ ms2.drop k)) := by show OwnRow _ _ _ _ _; rw [hwz]; exact HOu9.out.off hkf _ _
        have HBz : Hid (FsBox wz kf (.slice ad9 (len + 1) cap9) d.left d.done) := by show FsBox _ _ _ _ _; rw [hwz]; exact (H3.out.box.on HBu9.out).s0 _
        try rw [← hwz]
        clear hwz t0 t1 hHeld
        go_wp2
        go_ret
        exact gives_fs HE0.out (H3.out.laid2 HGz.out HBz.out HOz.out fun x hx => by
          rcases List.mem_append.1 hx with h1 | h1
          · rcases List.mem_append.1 h1 with h2 | h2
            · exact .inl (List.mem_of_mem_take h2)
            · rw [List.mem_singleton.1 h2, HMX.out]
              exact .inr ⟨HR8.out, HMR.out.2, HA8.out⟩
          · exact .inl (List.mem_of_mem_drop h1)) (by rw [fls_ins, HMV4.out, HMX.out]) (kept_grown (grow_trans HG8.out HGz.out)) (fun q hq => .inr (by have := (HOz.out.lt q hq).1; have := HG8.out.size; omega)) (lists_ins HSB2.out HMMM.out (by rw [HMX.out]))
    · skip
      go_simp
      obtain ⟨u10, hu10⟩ : ∃ u, u = u0.alloc (.cells #[.string n2, .slice m.ad m.f.b.length m.cap, .int .i64 (m.f.lasts : Int)] 75) := ⟨_, rfl⟩
      have hbb : Below u0.heap.size u0 u10 := by rw [hu10]; exact (Below.refl _ _).alloc (Nat.le_refl _) _
      have HBu10 := Lib.hid (HBu0.out.trans (hbb.mono HBu0.out.size))
      obtain ⟨gx, hgx⟩ : ∃ G, G = u0.heap.size := ⟨_, rfl⟩
      have HXu10 : Hid (RowAt flK u10 (some ⟨gx, 0, none⟩) 1 1 [mx]) := by show RowAt _ _ _ _ _ _; rw [hu10, hgx, HMX.out]; exact rowAt_lit flK_ok u0 [⟨⟨n2, m.f.b, m.f.lasts⟩, m.ad, m.cap⟩] (by simp) _ rfl 1 rfl
      rw [← hu10, ← hgx]
      clear hu10 hgx hbb
      have hHeld : (fun (W : World) => W.cell? ⟨kf, 0, none⟩ = some (.slice fad len fcap) ∧ W.cell? ⟨kx, 0, none⟩ = some (.string n2) ∧ W.cell? ⟨kx, 1, none⟩ = some (.slice m.ad m.f.b.length m.cap) ∧ W.cell? ⟨kx, 2, none⟩ = some (.int .i64 (m.f.lasts : Int))) u10 := KS.out _ HBu10.out
      refine hC.out _ _ (fun _ => hHeld) (fun _ => ?_)
      clear hC C
      (try simp only [Act.put, List.setIfInBounds_toArray, List.set_cons_zero, List.set_cons_succ])
      refine wpAnyZ_ready (rs := [1]) (by kernel_rfl) (by simp) ?_
      refine AllReadyZ.cons (o := ⟨_, _, _, _, _, _⟩) rfl (fun C hC => ?_) AllReadyZ.nil
      go_simp
      obtain ⟨u11, hu11⟩ : ∃ u, u = u10.alloc (.cells #[] 75) := ⟨_, rfl⟩
      have hbb : Below u10.heap.size u10 u11 := by rw [hu11]; exact (Below.refl _ _).alloc (Nat.le_refl _) _
      have HBu11 := Lib.hid (HBu10.out.trans (hbb.mono HBu10.out.size))
      obtain ⟨gu11, hgu11⟩ : ∃ G, G = u10.heap.size := ⟨_, rfl⟩
      have HOu11 : Hid (OwnRow flK u11 w8.heap.size (.slice (some ⟨gu11, 0, none⟩) 0 0) []) := by show OwnRow _ _ _ _ _; rw [hu11, hgu11]; exact ownRow_lit flK_ok u10 _ [] HBu10.out.size (by simp) _ rfl 0 rfl
      have HXu11 := Lib.hid (HXu10.out.keep hbb)
      have HNEu11 : ∀ a, (some (⟨gx, 0, none⟩ : Addr)) = some a → some a.block ≠ (Value.slice (some ⟨gu11, 0, none⟩) 0 0).ownBlock := by
        intro a ha e
        cases ha
        have h1 := HXu10.out.lt (by omega) _ rfl
        simp [Value.ownBlock] at e
        simp at h1
        omega
      rw [← hu11, ← hgu11]
      clear hu11 hgu11 hbb
      have hHeld : (fun (W : World) => W.cell? ⟨kf, 0, none⟩ = some (.slice fad len fcap) ∧ W.cell? ⟨kx, 0, none⟩ = some (.string n2) ∧ W.cell? ⟨kx, 1, none⟩ = some (.slice m.ad m.f.b.length m.cap) ∧ W.cell? ⟨kx, 2, none⟩ = some (.int .i64 (m.f.lasts : Int))) u11 := KS.out _ HBu11.out
      refine hC.out _ _ (fun _ => hHeld) (fun _ => ?_)
      clear hC C
      (try simp only [Act.put, List.setIfInBounds_toArray, List.set_cons_zero, List.set_cons_succ])
      refine wpAnyZ_ready (rs := [8]) (by kernel_rfl) (by simp) ?_
      refine AllReadyZ.cons (o := ⟨_, _, _, _, _, _⟩) rfl (fun C hC => ?_) AllReadyZ.nil
      refine held_row (by rfl) flK_ok (.tmp 62) (.tmp 68) rfl w8.heap.size [] (ms2.take k) _ rfl HOu11.out HBu11.out.size fad k fcap rfl (HUR.out.keep HBu11.out) (by rw [List.length_nil]; omega) ?_
      rintro vu12 u12 hap
      have HBu12 : Hid (Below w8.heap.size w8 u12) := HBu11.out.grown hap.2.1 HBu11.out.size fun q hq => (HOu11.out.lt q hq).1
      have HOu12 : Hid (OwnRow flK u12 w8.heap.size vu12 (ms2.take k)) := hap.1
      have HXu12 := Lib.hid (HXu11.out.grown hap.2.1 HNEu11)
      clear hap
      have hHeld : (fun (W : World) => W.cell? ⟨kf, 0, none⟩ = some (.slice fad len fcap) ∧ W.cell? ⟨kx, 0, none⟩ = some (.string n2) ∧ W.cell? ⟨kx, 1, none⟩ = some (.slice m.ad m.f.b.length m.cap) ∧ W.cell? ⟨kx, 2, none⟩ = some (.int .i64 (m.f.lasts : Int))) u12 := KS.out _ HBu12.out
      refine hC.out _ _ (fun _ => hHeld) (fun _ => ?_)
      clear hC C
      (try simp only [Act.put, List.setIfInBounds_toArray, List.set_cons_zero, List.set_cons_succ])
      refine wpAnyZ_ready (rs := [11]) (by kernel_rfl) (by simp) ?_
      refine AllReadyZ.cons (o := ⟨_, _, _, _, _, _⟩) rfl (fun C hC => ?_) AllReadyZ.nil
      refine held_row (by rfl) flK_ok (.tmp 69) (.tmp 71) rfl w8.heap.size (ms2.take k) [mx] _ rfl HOu12.out HBu12.out.size (some ⟨gx, 0, none⟩) 1 1 rfl HXu12.out (by rw [List.length_take]; omega) ?_
      rintro vu13 u13 hap
      have HBu13 : Hid (Below w8.heap.size w8 u13) := HBu12.out.grown hap.2.1 HBu12.out.size fun q hq => (HOu12.out.lt q hq).1
      have HOu13 : Hid (OwnRow flK u13 w8.heap.size vu13 (ms2.take k ++ [mx])) := hap.1
      clear hap
      have hHeld : (fun (W : World) => W.cell? ⟨kf, 0, none⟩ = some (.slice fad len fcap) ∧ W.cell? ⟨kx, 0, none⟩ = some (.string n2) ∧ W.cell? ⟨kx, 1, none⟩ = some (.slice m.ad m.f.b.length m.cap) ∧ W.cell? ⟨kx, 2, none⟩ = some (.int .i64 (m.f.lasts : Int))) u13 := KS.out _ HBu13.out
      refine hC.out _ _ (fun _ => hHeld) (fun _ => ?_)
      clear hC C
      (try simp only [Act.put, List.setIfInBounds_toArray, List.set_cons_zero, List.set_cons_succ])
      refine wpAnyZ_ready (rs := [18]) (by kernel_rfl) (by simp) ?_
      refine AllReadyZ.cons (o := ⟨_, _, _, _, _, _⟩) rfl (fun C hC => ?_) AllReadyZ.nil
      refine held_row (by rfl) flK_ok (.tmp 72) (.tmp 78) rfl w8.heap.size (ms2.take k ++ [mx]) (ms2.drop k) _ rfl HOu13.out HBu13.out.size fd (len - k) fc rfl (HFR.out.keep HBu13.out) (by rw [List.length_append, List.length_take]; simp; omega) ?_
      rintro vu14 u14 hap
      obtain ⟨ad9, cap9, hv9, _, _⟩ := OwnRow.row2 flK_ok hap.1 (n := len + 1) (by simp; omega)
      subst hv9
      have HBu14 : Hid (Below w8.heap.size w8 u14) := HBu13.out.grown hap.2.1 HBu13.out.size fun q hq => (HOu13.out.lt q hq).1
      have HOu14 : Hid (OwnRow flK u14 w8.heap.size (.slice ad9 (len + 1) cap9) (ms2.take k ++ [mx] ++ ms2.drop k)) := hap.1
      clear hap
      have hHeld : (fun (W : World) => W.cell? ⟨kf, 0, none⟩ = some (.slice fad len fcap) ∧ W.cell? ⟨kx, 0, none⟩ = some (.string n2) ∧ W.cell? ⟨kx, 1, none⟩ = some (.slice m.ad m.f.b.length m.cap) ∧ W.cell? ⟨kx, 2, none⟩ = some (.int .i64 (m.f.lasts : Int))) u14 := KS.out _ HBu14.out
      refine hC.out _ _ (fun _ => hHeld) (fun _ => ?_)
      clear hC C
      (try simp only [Act.put, List.setIfInBounds_toArray, List.set_cons_zero, List.set_cons_succ])
      refine wpAnyZ_take (i := 19) (oi := ⟨_, _, _, _, _, _⟩) (v := ?_) rfl (by kernel_rfl) (by kernel_rfl) (by kernel_rfl) (by kernel_rfl) (by kernel_rfl) (fun _ _ _ h => h) (Or.inl ⟨by rfl, ?_⟩) (by assumption) ?_
      rotate_left
      · intro W hSw
        (try dsimp only at hSw)
        go_simp
        (try with_reducible rfl)
      (try simp only [Act.put, List.setIfInBounds_toArray, List.set_cons_zero, List.set_cons_succ])
      refine wpAnyZ_take (i := 20) (oi := ⟨_, _, _, _, _, _⟩) (v := ?_) rfl (by kernel_rfl) (by kernel_rfl) (by kernel_rfl) (by kernel_rfl) (by kernel_rfl) (fun _ _ _ h => h) (Or.inl ⟨by rfl, ?_⟩) (by assumption) ?_
      rotate_left
      · intro W hSw
        (try dsimp only at hSw)
        go_simp
        (try with_reducible rfl)
      (try simp only [Act.put, List.setIfInBounds_toArray, List.set_cons_zero, List.set_cons_succ])
      have t0 := (H3.out.box.on HBu14.out).c0
      have t1 := (H3.out.box.on HBu14.out).free 0
      refine wpAnyZ_ready (rs := [21]) (by kernel_rfl) (by simp) ?_
      refine AllReadyZ.cons (o := ⟨_, _, _, _, _, _⟩) rfl (fun C hC => ?_) AllReadyZ.nil
      go_simp
      refine hC.out _ _ (zfree_no (by kernel_rfl)) (fun _ => ?_)
      clear hC C
      (try simp only [Act.put, List.setIfInBounds_toArray, List.set_cons_zero, List.set_cons_succ])
      refine wpAnyZ_done (by kernel_rfl) ?_ _
      refine NoPanic.normal ?_
      obtain ⟨wz, hwz⟩ : ∃ wz, wz = u14.setCell ⟨kf, 0, none⟩ (.slice ad9 (len + 1) cap9) := ⟨_, rfl⟩
      have hkf := H3.out.box.lt
      have HGz : Hid (w8.grownBy wz (some kf)) := by show World.grownBy _ _ _; rw [hwz]; exact grow_set (grow_below (grow_refl w8 _) HBu14.out) 0 _
      have HOz : Hid (OwnRow flK wz w8.heap.size (.slice ad9 (len + 1) cap9) (ms2.take k ++ [mx] ++ ms2.drop k)) := by show OwnRow _ _ _ _ _; rw [hwz]; exact HOu14.out.off hkf _ _
      have HBz : Hid (FsBox wz kf (.slice ad9 (len + 1) cap9) d.left d.done) := by show FsBox _ _ _ _ _; rw [hwz]; exact (H3.out.box.on HBu14.out).s0 _
      try rw [← hwz]
      clear hwz t0 t1 hHeld
      go_wp2
      go_ret
      exact gives_fs HE0.out (H3.out.laid2 HGz.out HBz.out HOz.out fun x hx => by
        rcases List.mem_append.1 hx with h1 | h1
        · rcases List.mem_append.1 h1 with h2 | h2
          · exact .inl (List.mem_of_mem_take h2)
          · rw [List.mem_singleton.1 h2, HMX.out]
            exact .inr ⟨HR8.out, HMR.out.2, HA8.out⟩
        · exact .inl (List.mem_of_mem_drop h1)) (by rw [fls_ins, HMV4.out, HMX.out]) (kept_grown (grow_trans HG8.out HGz.out)) (fun q hq => .inr (by have := (HOz.out.lt q hq).1; have := HG8.out.size; omega)) (lists_ins HSB2.out HMMM.out (by rw [HMX.out]))
end Go.Proofs.YtjocfkkcnkpjdaaDoor
