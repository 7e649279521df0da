/- Chapter 7's own files: Append. -/
import Derived.Test.YtjocfkkcnkpjdaaDoorFsTrunc
namespace Go.Proofs.YtjocfkkcnkpjdaaDoor
open Go.RowKit
open Go.RuneMath
open Go.FsMath
set_option linter.unusedVariables false

theorem fls_ins (ms : List FM) (i : Nat) (x : FM) : fls (ms.take i ++ [x] ++ ms.drop i) = (fls ms).take i ++ x.f :: (fls ms).drop i := by
  unfold fls
  simp [List.map_take, List.map_drop]
theorem ins_at (ms : List FM) (i : Nat) (hi : i ≤ ms.length) (x : FM) : (ms.take i ++ [x] ++ ms.drop i)[i]? = some x := by
  have : (ms.take i).length = i := by rw [List.length_take]; omega
  rw [List.append_assoc, List.getElem?_append_right (by omega), this, Nat.sub_self]
  rfl
theorem lists_then {w : World} {ms msa : List FM} {i : Nat} {m' : FM} (h : ListsFs w ms msa) (h2 : ∀ a, m'.ad = some a → w.heap.size ≤ a.block) : ListsFs w ms (msa.set i m') := fun x hx a ha => by
  rcases List.mem_or_eq_of_mem_set hx with h1 | h1
  · exact h x h1 a ha
  · subst h1
    exact .inr (h2 a ha)
/-- A row that has things lies not in the one block that turned. -/
theorem row_grown0 {α : Type} {K : Kind α} {w w' : World} {ad : Option Addr} {len cap : Nat} {l : List α} {r : Option Nat} (h : RowAt K w ad len cap l) (hg : w.grownBy w' r) (hr : ∀ a, ad = some a → 0 < len → some a.block ≠ r) : RowAt K w' ad len cap l := by
  by_cases h0 : len = 0
  · exact ⟨h.length, h.fits, h.room, .inl h0⟩
  · exact h.grown hg fun a ha => hr a ha (by omega)
set_option maxRecDepth 100000 in
set_option maxHeartbeats 8000000 in
theorem fsAppend_any (w : World) (kf : Nat) (v : Value) (left done : Int) (ms : List FM) (h : FsOk w kf v left done ms) (hL : ms.length ≤ 100000) (hN : NamesOk ms) (hB : Smalls ms) (hd0 : 0 ≤ done) (hd1 : done ≤ 4611686018427387904) (hl0 : -1 ≤ left) (hl1 : left ≤ 9223372036854775807) (n : ByteArray) (hn : n.size ≤ 1073741824)
    (bad : Option Addr) (blen bcap : Nat) (bs : List Nat) (hbr : RowAt byteK w bad blen bcap bs) (hball : AllB bs) (hbl : blen ≤ 1000000000) (hbk : ∀ a, bad = some a → 0 < blen → a.block ≠ kf) (r : Int × Fs) (hr : appendF ⟨fls ms, left, done⟩ n bs = r) :
    Calls Tryd.prog 31 #[.pointer (some ⟨kf, 0, none⟩), .string n, .slice bad blen bcap] w (GivesFs w kf v ms r) := by
  obtain ⟨len, hlen⟩ : ∃ n, ms.length = n := ⟨_, rfl⟩
  obtain ⟨fad, fcap, rfl, hfr0, _⟩ := OwnRow.row2 flK_ok h.row hlen
  have H := Lib.hid h
  have HBV := Lib.hid hbr
  obtain ⟨i, hi⟩ : ∃ i, atF (fls ms) n = i := ⟨_, rfl⟩
  obtain ⟨b, hb⟩ : ∃ b, hasF (fls ms) n = b := ⟨_, rfl⟩
  obtain ⟨q0, hq0⟩ : ∃ b, rightB n.data.toList = b := ⟨_, rfl⟩
  have hile : i ≤ len := by
    have := atF_le (fls ms) n
    have e : (fls ms).length = ms.length := by unfold fls; rw [List.length_map]
    omega
  have HR : Hid (r = if q0 = false then (1, ⟨fls ms, left, done⟩) else if b = false ∧ 64 ≤ len then (17, ⟨fls ms, left, done⟩) else if mayF ⟨fls ms, left, done⟩ = false then (0, ⟨fls ms, left, done⟩)
    else (0, ⟨turnF (insF (fls ms) n) i (fun f => { f with b := f.b ++ bs }), (deedF ⟨fls ms, left, done⟩).left, (deedF ⟨fls ms, left, done⟩).done⟩)) := by
    show r = _
    rw [← hr]
    unfold appendF
    have e : (fls ms).length = len := by unfold fls; rw [List.length_map]; exact hlen
    simp only
    rw [hi, hb, hq0, e]
  have HI := Lib.hid hi
  have HH := Lib.hid hb
  have HQ0 := Lib.hid hq0
  have HBB := Lib.hid hB
  have HN := Lib.hid hN
  clear h hN hr hi hb hB hq0 hbr hfr0
  go_enter Tryd.func31, Tryd.ntmps31
  go_wp2_with fail
  refine (ref_right_any w n (by omega)).mono ?_
  rintro e w0 ⟨rfl, hb0⟩
  rw [HQ0.out]
  have H0 := Lib.hid (H.out.keep hb0)
  have HB0 := Lib.hid hb0
  have HV0 := Lib.hid (HBV.out.keep hb0)
  clear hb0 H HQ0 HBV
  cases q0
  · have HE : Hid (r = (1, ⟨fls ms, left, done⟩)) := by show r = _; rw [HR.out, if_pos rfl]
    clear HR
    go_wp2
    go_ret
    exact gives_fs HE.out H0.out rfl (kept_grown (grow_below (grow_refl w _) HB0.out)) (newOr_refl _ _) (lists_refl _ _)
  have HRN := HR.out
  rw [if_neg (by decide)] at HRN
  have HR1 := Lib.hid HRN
  clear HR HRN
  go_wp2_with fail
  refine (at_ok w0 kf _ left done ms H0.out (by omega) HN.out n hn).mono ?_
  rintro e w1 ⟨rfl, hb1⟩
  rw [HI.out, HH.out]
  have H1 := Lib.hid (H0.out.keep hb1)
  have HB1 := Lib.hid (HB0.out.trans (hb1.mono HB0.out.size))
  have HV1 := Lib.hid (HV0.out.keep hb1)
  have t0 := H1.out.box.c0
  clear hb1 H0 HB0 HV0
  by_cases hful : b = false ∧ 64 ≤ len
  · obtain ⟨rfl, h64⟩ := hful
    have hdl : decide (64 ≤ (len : Int)) = true := decide_eq_true (by omega)
    have HE : Hid (r = (17, ⟨fls ms, left, done⟩)) := by show r = _; rw [HR1.out, if_pos ⟨rfl, h64⟩]
    clear HR1
    go_wp2
    go_ret
    exact gives_fs HE.out H1.out rfl (kept_grown (grow_below (grow_refl w _) HB1.out)) (newOr_refl _ _) (lists_refl _ _)
  have HRN := HR1.out
  rw [if_neg hful] at HRN
  have HR2 := Lib.hid HRN
  clear HR1 HRN
  cases b
  · have h64 : ¬ 64 ≤ len := fun h => hful ⟨rfl, h⟩
    have hdl : decide (64 ≤ (len : Int)) = false := decide_eq_false (by omega)
    clear hful
    go_wp2_with fail
    refine (deed_any w1 kf _ left done H1.out.box hd0 hd1 hl0 hl1 (fls ms)).mono ?_
    rintro e w3 ⟨rfl, HBX2, HG2⟩
    have H3 := Lib.hid (H1.out.turned HG2.out HBX2.out)
    have HGW := Lib.hid (grow_trans (grow_below (grow_refl w (some kf)) HB1.out) HG2.out)
    have HV3 : Hid (RowAt byteK w3 bad blen bcap bs) := row_grown0 HV1.out HG2.out fun a ha h0 e => hbk a ha h0 (Option.some.inj e)
    obtain ⟨d, hdd⟩ : ∃ d, deedF ⟨fls ms, left, done⟩ = d := ⟨_, rfl⟩
    obtain ⟨q, hq⟩ : ∃ q, mayF ⟨fls ms, left, done⟩ = q := ⟨_, rfl⟩
    have hqd : q = false → d = ⟨fls ms, left, done⟩ := fun h => by
      rw [← hdd]
      rw [h] at hq
      unfold mayF at hq
      unfold deedF
      rw [if_pos (by simpa using hq)]
    have HRR := HR2.out
    rw [hdd, hq] at HRR
    have HR3 := Lib.hid HRR
    have HQD := Lib.hid hqd
    rw [hdd] at H3
    rw [hq]
    clear HRR HR2 hqd hdd hq HBX2 HG2 H1 t0 HV1 HB1
    cases q
    · have HE : Hid (r = (0, ⟨fls ms, left, done⟩)) := by show r = _; rw [HR3.out, if_pos rfl]
      have hd := HQD.out rfl
      have H4 : Hid (FsOk w3 kf (.slice fad len fcap) left done ms) := by have := H3.out; rw [hd] at this; exact this
      clear HR3 HQD hd H3
      go_wp2
      go_ret
      exact gives_fs HE.out H4.out rfl (kept_grown HGW.out) (newOr_refl _ _) (lists_refl _ _)
    · skip
      obtain ⟨mx, hmx⟩ : ∃ x : FM, x = ⟨⟨n, [], 0⟩, none, 0⟩ := ⟨_, rfl⟩
      have HMX := Lib.hid hmx
      have hr3 : RowAt flK w3 fad len fcap ms := by
        obtain ⟨a1, c1, e1, h1, _⟩ := OwnRow.row2 flK_ok H3.out.row hlen
        cases e1
        exact h1
      have hfits := hr3.fits
      have hup : ∀ W, (Instr.slice 52 (.slice fad len fcap) none (some (.int .i64 (i : Int))) none).run Tryd.prog W = .ok (.slice fad i fcap) W := row_upto flK_ok fad len fcap i (by omega)
      obtain ⟨fd, fc, hfr, hfrow, _⟩ := row_from flK_ok hr3 i hile
      have hfr : ∀ W, (Instr.slice 52 (.slice fad len fcap) (some (.int .i64 (i : Int))) none none).run Tryd.prog W = .ok (.slice fd (len - i) fc) W := hfr
      have HFR := Lib.hid hfrow
      have HUR := Lib.hid (hr3.take i hile)
      have KS : Hid (∀ W, Below w3.heap.size w3 W → (fun (W : World) => W.cell? ⟨kf, 0, none⟩ = some (.slice fad len fcap)) W) := fun W hW => (H3.out.box.on hW).c0
      have hdrw : Below w3.heap.size w3 w3.drew := (Below.refl _ w3).drew
      clear hr3 hfrow hmx
      go_upto_region 0 with fail
      refine wp_region_noPanic ?_
      refine wp_region_z [22] (fun (W : World) => W.cell? ⟨kf, 0, none⟩ = some (.slice fad len fcap)) (by kernel_rfl) ?_
      have hHeld : (fun (W : World) => W.cell? ⟨kf, 0, none⟩ = some (.slice fad len fcap)) _ := KS.out _ hdrw
      obtain ⟨u0, hu0⟩ : ∃ u, u = w3.drew := ⟨_, rfl⟩
      rw [← hu0] at hHeld hdrw
      rw [← hu0]
      clear hu0
      have HBu0 := Lib.hid hdrw
      clear hdrw
      refine wpAnyZ_take (i := 0) (oi := ⟨_, _, _, _, _, _⟩) (v := ?_) rfl (by kernel_rfl) (by kernel_rfl) (by kernel_rfl) (by kernel_rfl) (by kernel_rfl) (fun _ _ _ h => h) (Or.inl ⟨by rfl, ?_⟩) (by assumption) ?_
      rotate_left
      · intro W hSw
        (try dsimp only at hSw)
        go_simp
        (try with_reducible rfl)
      (try simp only [Act.put, List.setIfInBounds_toArray, List.set_cons_zero, List.set_cons_succ])
      refine wpAnyZ_take (i := 2) (oi := ⟨_, _, _, _, _, _⟩) (v := ?_) rfl (by kernel_rfl) (by kernel_rfl) (by kernel_rfl) (by kernel_rfl) (by kernel_rfl) (fun _ _ _ h => h) (Or.inl ⟨by rfl, ?_⟩) (by assumption) ?_
      rotate_left
      · intro W hSw
        (try dsimp only at hSw)
        go_simp
        (try with_reducible rfl)
      (try simp only [Act.put, List.setIfInBounds_toArray, List.set_cons_zero, List.set_cons_succ])
      refine wpAnyZ_take (i := 3) (oi := ⟨_, _, _, _, _, _⟩) (v := ?_) rfl (by kernel_rfl) (by kernel_rfl) (by kernel_rfl) (by kernel_rfl) (by kernel_rfl) (fun _ _ _ h => h) (Or.inl ⟨by rfl, ?_⟩) (by assumption) ?_
      rotate_left
      · intro W hSw
        (try dsimp only at hSw)
        go_simp
        (try with_reducible rfl)
      (try simp only [Act.put, List.setIfInBounds_toArray, List.set_cons_zero, List.set_cons_succ])
      refine wpAnyZ_take (i := 4) (oi := ⟨_, _, _, _, _, _⟩) (v := ?_) rfl (by kernel_rfl) (by kernel_rfl) (by kernel_rfl) (by kernel_rfl) (by kernel_rfl) (fun _ _ _ h => h) (Or.inl ⟨by rfl, ?_⟩) (by assumption) ?_
      rotate_left
      · intro W hSw
        (try dsimp only at hSw)
        go_simp
        (try with_reducible rfl)
      (try simp only [Act.put, List.setIfInBounds_toArray, List.set_cons_zero, List.set_cons_succ])
      refine wpAnyZ_take (i := 5) (oi := ⟨_, _, _, _, _, _⟩) (v := ?_) rfl (by kernel_rfl) (by kernel_rfl) (by kernel_rfl) (by kernel_rfl) (by kernel_rfl) (fun _ _ _ h => h) (Or.inl ⟨by rfl, ?_⟩) (by assumption) ?_
      rotate_left
      · intro W hSw
        (try dsimp only at hSw)
        go_simp
        (try with_reducible rfl)
      (try simp only [Act.put, List.setIfInBounds_toArray, List.set_cons_zero, List.set_cons_succ])
      refine wpAnyZ_take (i := 6) (oi := ⟨_, _, _, _, _, _⟩) (v := ?_) rfl (by kernel_rfl) (by kernel_rfl) (by kernel_rfl) (by kernel_rfl) (by kernel_rfl) (fun _ _ _ h => h) (Or.inl ⟨by rfl, ?_⟩) (by assumption) ?_
      rotate_left
      · intro W hSw
        (try dsimp only at hSw)
        go_simp
        (try with_reducible rfl)
      (try simp only [Act.put, List.setIfInBounds_toArray, List.set_cons_zero, List.set_cons_succ])
      refine wpAnyZ_take (i := 7) (oi := ⟨_, _, _, _, _, _⟩) (v := ?_) rfl (by kernel_rfl) (by kernel_rfl) (by kernel_rfl) (by kernel_rfl) (by kernel_rfl) (fun _ _ _ h => h) (Or.inl ⟨by rfl, ?_⟩) (by assumption) ?_
      rotate_left
      · intro W hSw
        (try dsimp only at hSw)
        go_simp
        (try with_reducible rfl)
      (try simp only [Act.put, List.setIfInBounds_toArray, List.set_cons_zero, List.set_cons_succ])
      refine wpAnyZ_take (i := 9) (oi := ⟨_, _, _, _, _, _⟩) (v := ?_) rfl (by kernel_rfl) (by kernel_rfl) (by kernel_rfl) (by kernel_rfl) (by kernel_rfl) (fun _ _ _ h => h) (Or.inl ⟨by rfl, ?_⟩) (by assumption) ?_
      rotate_left
      · intro W hSw
        (try dsimp only at hSw)
        go_simp
        (try with_reducible rfl)
      (try simp only [Act.put, List.setIfInBounds_toArray, List.set_cons_zero, List.set_cons_succ])
      refine wpAnyZ_take (i := 10) (oi := ⟨_, _, _, _, _, _⟩) (v := ?_) rfl (by kernel_rfl) (by kernel_rfl) (by kernel_rfl) (by kernel_rfl) (by kernel_rfl) (fun _ _ _ h => h) (Or.inl ⟨by rfl, ?_⟩) (by assumption) ?_
      rotate_left
      · intro W hSw
        (try dsimp only at hSw)
        go_simp
        (try with_reducible rfl)
      (try simp only [Act.put, List.setIfInBounds_toArray, List.set_cons_zero, List.set_cons_succ])
      refine wpAnyZ_take (i := 13) (oi := ⟨_, _, _, _, _, _⟩) (v := ?_) rfl (by kernel_rfl) (by kernel_rfl) (by kernel_rfl) (by kernel_rfl) (by kernel_rfl) (fun _ _ _ h => h) (Or.inl ⟨by rfl, ?_⟩) (by assumption) ?_
      rotate_left
      · intro W hSw
        (try dsimp only at hSw)
        go_simp
        (try with_reducible rfl)
      (try simp only [Act.put, List.setIfInBounds_toArray, List.set_cons_zero, List.set_cons_succ])
      refine wpAnyZ_take (i := 14) (oi := ⟨_, _, _, _, _, _⟩) (v := ?_) rfl (by kernel_rfl) (by kernel_rfl) (by kernel_rfl) (by kernel_rfl) (by kernel_rfl) (fun _ _ _ h => h) (Or.inl ⟨by rfl, ?_⟩) (by assumption) ?_
      rotate_left
      · intro W hSw
        (try dsimp only at hSw)
        go_simp
        (try with_reducible rfl)
      (try simp only [Act.put, List.setIfInBounds_toArray, List.set_cons_zero, List.set_cons_succ])
      refine wpAnyZ_take (i := 15) (oi := ⟨_, _, _, _, _, _⟩) (v := ?_) rfl (by kernel_rfl) (by kernel_rfl) (by kernel_rfl) (by kernel_rfl) (by kernel_rfl) (fun _ _ _ h => h) (Or.inl ⟨by rfl, ?_⟩) (by assumption) ?_
      rotate_left
      · intro W hSw
        (try dsimp only at hSw)
        go_simp
        (try with_reducible rfl)
      (try simp only [Act.put, List.setIfInBounds_toArray, List.set_cons_zero, List.set_cons_succ])
      refine wpAnyZ_take (i := 16) (oi := ⟨_, _, _, _, _, _⟩) (v := ?_) rfl (by kernel_rfl) (by kernel_rfl) (by kernel_rfl) (by kernel_rfl) (by kernel_rfl) (fun _ _ _ h => h) (Or.inl ⟨by rfl, ?_⟩) (by assumption) ?_
      rotate_left
      · intro W hSw
        (try dsimp only at hSw)
        go_simp
        (try with_reducible rfl)
      (try simp only [Act.put, List.setIfInBounds_toArray, List.set_cons_zero, List.set_cons_succ])
      refine wpAnyZ_take (i := 17) (oi := ⟨_, _, _, _, _, _⟩) (v := ?_) rfl (by kernel_rfl) (by kernel_rfl) (by kernel_rfl) (by kernel_rfl) (by kernel_rfl) (fun _ _ _ h => h) (Or.inl ⟨by rfl, ?_⟩) (by assumption) ?_
      rotate_left
      · intro W hSw
        (try dsimp only at hSw)
        go_simp
        (try with_reducible rfl)
      (try simp only [Act.put, List.setIfInBounds_toArray, List.set_cons_zero, List.set_cons_succ])
      refine wpAnyZ_take (i := 18) (oi := ⟨_, _, _, _, _, _⟩) (v := ?_) rfl (by kernel_rfl) (by kernel_rfl) (by kernel_rfl) (by kernel_rfl) (by kernel_rfl) (fun _ _ _ h => h) (Or.inl ⟨by rfl, ?_⟩) (by assumption) ?_
      rotate_left
      · intro W hSw
        (try dsimp only at hSw)
        go_simp
        (try with_reducible rfl)
      (try simp only [Act.put, List.setIfInBounds_toArray, List.set_cons_zero, List.set_cons_succ])
      refine wpAnyZ_ready (rs := [1, 11]) (by kernel_rfl) (by simp) ?_
      refine AllReadyZ.cons (o := ⟨_, _, _, _, _, _⟩) rfl (fun C hC => ?_) (AllReadyZ.cons (o := ⟨_, _, _, _, _, _⟩) rfl (fun C hC => ?_) AllReadyZ.nil)
      · skip
        go_simp
        obtain ⟨u1, hu1⟩ : ∃ u, u = u0.alloc (.cells #[] 75) := ⟨_, rfl⟩
        have hbb : Below u0.heap.size u0 u1 := by rw [hu1]; exact (Below.refl _ _).alloc (Nat.le_refl _) _
        have HBu1 := Lib.hid (HBu0.out.trans (hbb.mono HBu0.out.size))
        obtain ⟨gu1, hgu1⟩ : ∃ G, G = u0.heap.size := ⟨_, rfl⟩
        have HOu1 : Hid (OwnRow flK u1 w3.heap.size (.slice (some ⟨gu1, 0, none⟩) 0 0) []) := by show OwnRow _ _ _ _ _; rw [hu1, hgu1]; exact ownRow_lit flK_ok u0 _ [] HBu0.out.size (by simp) _ rfl 0 rfl
        rw [← hu1, ← hgu1]
        clear hu1 hgu1 hbb
        have hHeld : (fun (W : World) => W.cell? ⟨kf, 0, none⟩ = some (.slice fad len fcap)) u1 := KS.out _ HBu1.out
        refine hC.out _ _ (fun _ => hHeld) (fun _ => ?_)
        clear hC C
        (try simp only [Act.put, List.setIfInBounds_toArray, List.set_cons_zero, List.set_cons_succ])
        refine wpAnyZ_ready (rs := [8, 11]) (by kernel_rfl) (by simp) ?_
        refine AllReadyZ.cons (o := ⟨_, _, _, _, _, _⟩) rfl (fun C hC => ?_) (AllReadyZ.cons (o := ⟨_, _, _, _, _, _⟩) rfl (fun C hC => ?_) AllReadyZ.nil)
        · skip
          refine held_row (by rfl) flK_ok (.tmp 34) (.tmp 40) rfl w3.heap.size [] (ms.take i) _ rfl HOu1.out HBu1.out.size fad i fcap rfl (HUR.out.keep HBu1.out) (by rw [List.length_nil]; omega) ?_
          rintro vu2 u2 hap
          have HBu2 : Hid (Below w3.heap.size w3 u2) := HBu1.out.grown hap.2.1 HBu1.out.size fun q hq => (HOu1.out.lt q hq).1
          have HOu2 : Hid (OwnRow flK u2 w3.heap.size vu2 (ms.take i)) := hap.1
          clear hap
          have hHeld : (fun (W : World) => W.cell? ⟨kf, 0, none⟩ = some (.slice fad len fcap)) u2 := KS.out _ HBu2.out
          refine hC.out _ _ (fun _ => hHeld) (fun _ => ?_)
          clear hC C
          (try simp only [Act.put, List.setIfInBounds_toArray, List.set_cons_zero, List.set_cons_succ])
          refine wpAnyZ_ready (rs := [11]) (by kernel_rfl) (by simp) ?_
          refine AllReadyZ.cons (o := ⟨_, _, _, _, _, _⟩) rfl (fun C hC => ?_) AllReadyZ.nil
          go_simp
          obtain ⟨u3, hu3⟩ : ∃ u, u = u2.alloc (.cells #[.string n, .slice none 0 0, .int .i64 0] 75) := ⟨_, rfl⟩
          have hbb : Below u2.heap.size u2 u3 := by rw [hu3]; exact (Below.refl _ _).alloc (Nat.le_refl _) _
          have HBu3 := Lib.hid (HBu2.out.trans (hbb.mono HBu2.out.size))
          obtain ⟨gx, hgx⟩ : ∃ G, G = u2.heap.size := ⟨_, rfl⟩
          have HXu3 : Hid (RowAt flK u3 (some ⟨gx, 0, none⟩) 1 1 [mx]) := by show RowAt _ _ _ _ _ _; rw [hu3, hgx, HMX.out]; exact rowAt_lit flK_ok u2 [⟨⟨n, [], 0⟩, none, 0⟩] (by simp) _ rfl 1 rfl
          have HOu3 := Lib.hid (HOu2.out.on hbb)
          have HNEu3 : ∀ a, (some (⟨gx, 0, none⟩ : Addr)) = some a → some a.block ≠ (vu2 : Value).ownBlock := by
            intro a ha e
            cases ha
            have h1 : gx < u2.heap.size := (HOu2.out.lt _ e.symm).2
            omega
          rw [← hu3, ← hgx]
          clear hu3 hgx hbb
          have hHeld : (fun (W : World) => W.cell? ⟨kf, 0, none⟩ = some (.slice fad len fcap)) u3 := KS.out _ HBu3.out
          refine hC.out _ _ (fun _ => hHeld) (fun _ => ?_)
          clear hC C
          (try simp only [Act.put, List.setIfInBounds_toArray, List.set_cons_zero, List.set_cons_succ])
          refine wpAnyZ_ready (rs := [12]) (by kernel_rfl) (by simp) ?_
          refine AllReadyZ.cons (o := ⟨_, _, _, _, _, _⟩) rfl (fun C hC => ?_) AllReadyZ.nil
          refine held_row (by rfl) flK_ok (.tmp 41) (.tmp 44) rfl w3.heap.size (ms.take i) [mx] _ rfl HOu3.out HBu3.out.size (some ⟨gx, 0, none⟩) 1 1 rfl HXu3.out (by rw [List.length_take]; omega) ?_
          rintro vu4 u4 hap
          have HBu4 : Hid (Below w3.heap.size w3 u4) := HBu3.out.grown hap.2.1 HBu3.out.size fun q hq => (HOu3.out.lt q hq).1
          have HOu4 : Hid (OwnRow flK u4 w3.heap.size vu4 (ms.take i ++ [mx])) := hap.1
          clear hap
          have hHeld : (fun (W : World) => W.cell? ⟨kf, 0, none⟩ = some (.slice fad len fcap)) u4 := KS.out _ HBu4.out
          refine hC.out _ _ (fun _ => hHeld) (fun _ => ?_)
          clear hC C
          (try simp only [Act.put, List.setIfInBounds_toArray, List.set_cons_zero, List.set_cons_succ])
          refine wpAnyZ_ready (rs := [19]) (by kernel_rfl) (by simp) ?_
          refine AllReadyZ.cons (o := ⟨_, _, _, _, _, _⟩) rfl (fun C hC => ?_) AllReadyZ.nil
          refine held_row (by rfl) flK_ok (.tmp 45) (.tmp 51) rfl w3.heap.size (ms.take i ++ [mx]) (ms.drop i) _ rfl HOu4.out HBu4.out.size fd (len - i) fc rfl (HFR.out.keep HBu4.out) (by rw [List.length_append, List.length_take]; simp; omega) ?_
          rintro vu5 u5 hap
          obtain ⟨ad9, cap9, hv9, _, _⟩ := OwnRow.row2 flK_ok hap.1 (n := len + 1) (by simp; omega)
          subst hv9
          have HBu5 : Hid (Below w3.heap.size w3 u5) := HBu4.out.grown hap.2.1 HBu4.out.size fun q hq => (HOu4.out.lt q hq).1
          have HOu5 : Hid (OwnRow flK u5 w3.heap.size (.slice ad9 (len + 1) cap9) (ms.take i ++ [mx] ++ ms.drop i)) := hap.1
          clear hap
          have hHeld : (fun (W : World) => W.cell? ⟨kf, 0, none⟩ = some (.slice fad len fcap)) u5 := KS.out _ HBu5.out
          refine hC.out _ _ (fun _ => hHeld) (fun _ => ?_)
          clear hC C
          (try simp only [Act.put, List.setIfInBounds_toArray, List.set_cons_zero, List.set_cons_succ])
          refine wpAnyZ_take (i := 20) (oi := ⟨_, _, _, _, _, _⟩) (v := ?_) rfl (by kernel_rfl) (by kernel_rfl) (by kernel_rfl) (by kernel_rfl) (by kernel_rfl) (fun _ _ _ h => h) (Or.inl ⟨by rfl, ?_⟩) (by assumption) ?_
          rotate_left
          · intro W hSw
            (try dsimp only at hSw)
            go_simp
            (try with_reducible rfl)
          (try simp only [Act.put, List.setIfInBounds_toArray, List.set_cons_zero, List.set_cons_succ])
          refine wpAnyZ_take (i := 21) (oi := ⟨_, _, _, _, _, _⟩) (v := ?_) rfl (by kernel_rfl) (by kernel_rfl) (by kernel_rfl) (by kernel_rfl) (by kernel_rfl) (fun _ _ _ h => h) (Or.inl ⟨by rfl, ?_⟩) (by assumption) ?_
          rotate_left
          · intro W hSw
            (try dsimp only at hSw)
            go_simp
            (try with_reducible rfl)
          (try simp only [Act.put, List.setIfInBounds_toArray, List.set_cons_zero, List.set_cons_succ])
          have t0 := (H3.out.box.on HBu5.out).c0
          have t1 := (H3.out.box.on HBu5.out).free 0
          refine wpAnyZ_ready (rs := [22]) (by kernel_rfl) (by simp) ?_
          refine AllReadyZ.cons (o := ⟨_, _, _, _, _, _⟩) rfl (fun C hC => ?_) AllReadyZ.nil
          go_simp
          refine hC.out _ _ (zfree_no (by kernel_rfl)) (fun _ => ?_)
          clear hC C
          (try simp only [Act.put, List.setIfInBounds_toArray, List.set_cons_zero, List.set_cons_succ])
          refine wpAnyZ_done (by kernel_rfl) ?_ _
          refine NoPanic.normal ?_
          obtain ⟨wz, hwz⟩ : ∃ wz, wz = u5.setCell ⟨kf, 0, none⟩ (.slice ad9 (len + 1) cap9) := ⟨_, rfl⟩
          have hkf := H3.out.box.lt
          have HGz : Hid (w3.grownBy wz (some kf)) := by show World.grownBy _ _ _; rw [hwz]; exact grow_set (grow_below (grow_refl w3 _) HBu5.out) 0 _
          have HOz : Hid (OwnRow flK wz w3.heap.size (.slice ad9 (len + 1) cap9) (ms.take i ++ [mx] ++ ms.drop i)) := by show OwnRow _ _ _ _ _; rw [hwz]; exact HOu5.out.off hkf _ _
          have HBz : Hid (FsBox wz kf (.slice ad9 (len + 1) cap9) d.left d.done) := by show FsBox _ _ _ _ _; rw [hwz]; exact (H3.out.box.on HBu5.out).s0 _
          try rw [← hwz]
          clear hwz t0 t1 hHeld
          obtain ⟨msa, hmsa⟩ : ∃ x, x = ms.take i ++ [mx] ++ ms.drop i := ⟨_, rfl⟩
          have HLS : Hid (ListsFs w ms msa) := fun x hx a ha => by
            rw [hmsa] at hx
            rcases List.mem_append.1 hx with h1 | h1
            · rcases List.mem_append.1 h1 with h3 | h3
              · exact .inl ⟨x, List.mem_of_mem_take h3, ha⟩
              · rw [List.mem_singleton.1 h3] at ha
                rw [HMX.out] at ha
                cases ha
            · exact .inl ⟨x, List.mem_of_mem_drop h1, ha⟩
          have HA0 : FsOk wz kf (.slice ad9 (len + 1) cap9) d.left d.done msa := by
            rw [hmsa]
            refine H3.out.laid HGz.out HBz.out HOz.out fun x hx => ?_
            rcases List.mem_append.1 hx with h1 | h1
            · rcases List.mem_append.1 h1 with h2 | h2
              · exact .inl (List.mem_of_mem_take h2)
              · rw [List.mem_singleton.1 h2, HMX.out]
                exact .inr ⟨rowAt_nil _, (fun y hy => by simp at hy), rfl⟩
            · exact .inl (List.mem_of_mem_drop h1)
          have hm : msa[i]? = some mx := by rw [hmsa]; exact ins_at ms i (by omega) mx
          obtain ⟨g, len2, cap, m, hv, hlen2, hm2, _⟩ := fs_open HA0 (List.getElem?_eq_some_iff.1 hm).1
          rw [hm] at hm2
          cases hm2
          cases hv
          obtain ⟨cap, hcap⟩ : ∃ x : Nat, x = cap9 := ⟨_, rfl⟩
          subst hcap
          obtain ⟨wa, hwa⟩ : ∃ x : World, x = wz := ⟨_, rfl⟩
          subst hwa
          obtain ⟨m, hmm⟩ : ∃ x : FM, x = mx := ⟨_, rfl⟩
          subst hmm
          obtain ⟨len2, hl2⟩ : ∃ x, x = len + 1 := ⟨_, rfl⟩
          rw [← hl2] at HA0 ⊢
          have HA := Lib.hid HA0
          have HM := Lib.hid hm
          have hbl1 : m.f.b.length ≤ 1000000000 := by rw [HMX.out]; exact Nat.zero_le _
          have HKA : Hid (KeptFs w wa kf (.slice fad len fcap)) := kept_grown (grow_trans HGW.out HGz.out)
          have HNA : Hid (NewOr w (.slice fad len fcap) (.slice (some ⟨g, 0, none⟩) len2 cap)) := fun q hq => .inr (by rw [hl2] at hq; have := (HOz.out.lt q hq).1; have := HGW.out.size; omega)
          have HBA : Hid (RowAt byteK wa bad blen bcap bs) := row_grown0 HV3.out HGz.out fun a ha h0 e => hbk a ha h0 (Option.some.inj e)
          have HE : Hid (r = (0, ⟨(fls msa).set i { m.f with b := m.f.b ++ bs }, d.left, d.done⟩)) := by
            show r = _
            rw [HR3.out, if_neg (by decide)]
            have e : insF (fls ms) n = fls msa := by
              unfold insF
              rw [HH.out, if_neg (by decide), HI.out, hmsa, fls_ins, HMX.out]
            rw [e]
            unfold turnF
            rw [fls_at hm]
          clear HR3 hm HOz HBz HGz H3 HGW HV3 hup hfr HFR HUR KS HA0 hmsa hl2 hlen2
          have KS2 : Hid (∀ W, Below wa.heap.size wa W → (fun (W : World) => W.cell? ⟨kf, 0, none⟩ = some (.slice (some ⟨g, 0, none⟩) len2 cap) ∧ W.cell? ⟨g, i * 3 + 1, none⟩ = some (.slice m.ad m.f.b.length m.cap)) W) := fun W hW => ⟨((HA.out.keep hW).box).c0, ((HA.out.keep hW).cells HM.out).2.2.2.2.1⟩
          have hdrw : Below wa.heap.size wa wa.drew := (Below.refl _ wa).drew
          have hgw2 := (HA.out.cells HM.out).2.2.1
          have hil4 : i < len2 := by have := (HA.out.cells HM.out).1; have := (List.getElem?_eq_some_iff.1 HM.out).1; omega
          have hwi : (i : Int) < (len2 : Int) := by omega
          have HBR := Lib.hid (HA.out.ins m (List.mem_of_getElem? HM.out))
          go_upto_region 0 with fail
          refine wp_region_noPanic ?_
          refine wp_region_z [19] (fun (W : World) => W.cell? ⟨kf, 0, none⟩ = some (.slice (some ⟨g, 0, none⟩) len2 cap) ∧ W.cell? ⟨g, i * 3 + 1, none⟩ = some (.slice m.ad m.f.b.length m.cap)) (by kernel_rfl) ?_
          have hHeld : (fun (W : World) => W.cell? ⟨kf, 0, none⟩ = some (.slice (some ⟨g, 0, none⟩) len2 cap) ∧ W.cell? ⟨g, i * 3 + 1, none⟩ = some (.slice m.ad m.f.b.length m.cap)) _ := KS2.out _ hdrw
          obtain ⟨x0, hx0⟩ : ∃ u, u = wa.drew := ⟨_, rfl⟩
          rw [← hx0] at hHeld hdrw
          rw [← hx0]
          clear hx0
          have HC0 := Lib.hid hdrw
          clear hdrw
          refine wpAnyZ_take (i := 0) (oi := ⟨_, _, _, _, _, _⟩) (v := ?_) rfl (by kernel_rfl) (by kernel_rfl) (by kernel_rfl) (by kernel_rfl) (by kernel_rfl) (fun _ _ _ h => h) (Or.inl ⟨by rfl, ?_⟩) (by assumption) ?_
          rotate_left
          · intro W hSw
            (try dsimp only at hSw)
            go_simp
            (try with_reducible rfl)
          (try simp only [Act.put, List.setIfInBounds_toArray, List.set_cons_zero, List.set_cons_succ])
          refine wpAnyZ_take (i := 1) (oi := ⟨_, _, _, _, _, _⟩) (v := ?_) rfl (by kernel_rfl) (by kernel_rfl) (by kernel_rfl) (by kernel_rfl) (by kernel_rfl) (fun _ _ _ h => h) (Or.inl ⟨by rfl, ?_⟩) (by assumption) ?_
          rotate_left
          · intro W hSw
            (try dsimp only at hSw)
            go_simp
            (try with_reducible rfl)
          (try simp only [Act.put, List.setIfInBounds_toArray, List.set_cons_zero, List.set_cons_succ])
          refine wpAnyZ_take (i := 2) (oi := ⟨_, _, _, _, _, _⟩) (v := ?_) rfl (by kernel_rfl) (by kernel_rfl) (by kernel_rfl) (by kernel_rfl) (by kernel_rfl) (fun _ _ _ h => h) (Or.inl ⟨by rfl, ?_⟩) (by assumption) ?_
          rotate_left
          · intro W hSw
            (try dsimp only at hSw)
            go_simp
            (try with_reducible rfl)
          (try simp only [Act.put, List.setIfInBounds_toArray, List.set_cons_zero, List.set_cons_succ])
          refine wpAnyZ_take (i := 3) (oi := ⟨_, _, _, _, _, _⟩) (v := ?_) rfl (by kernel_rfl) (by kernel_rfl) (by kernel_rfl) (by kernel_rfl) (by kernel_rfl) (fun _ _ _ h => h) (Or.inl ⟨by rfl, ?_⟩) (by assumption) ?_
          rotate_left
          · intro W hSw
            (try dsimp only at hSw)
            go_simp
            (try with_reducible rfl)
          (try simp only [Act.put, List.setIfInBounds_toArray, List.set_cons_zero, List.set_cons_succ])
          refine wpAnyZ_take (i := 4) (oi := ⟨_, _, _, _, _, _⟩) (v := ?_) rfl (by kernel_rfl) (by kernel_rfl) (by kernel_rfl) (by kernel_rfl) (by kernel_rfl) (fun _ _ _ h => h) (Or.inl ⟨by rfl, ?_⟩) (by assumption) ?_
          rotate_left
          · intro W hSw
            (try dsimp only at hSw)
            go_simp
            (try with_reducible rfl)
          (try simp only [Act.put, List.setIfInBounds_toArray, List.set_cons_zero, List.set_cons_succ])
          refine wpAnyZ_take (i := 6) (oi := ⟨_, _, _, _, _, _⟩) (v := ?_) rfl (by kernel_rfl) (by kernel_rfl) (by kernel_rfl) (by kernel_rfl) (by kernel_rfl) (fun _ _ _ h => h) (Or.inl ⟨by rfl, ?_⟩) (by assumption) ?_
          rotate_left
          · intro W hSw
            (try dsimp only at hSw)
            go_simp
            (try with_reducible rfl)
          (try simp only [Act.put, List.setIfInBounds_toArray, List.set_cons_zero, List.set_cons_succ])
          refine wpAnyZ_take (i := 7) (oi := ⟨_, _, _, _, _, _⟩) (v := ?_) rfl (by kernel_rfl) (by kernel_rfl) (by kernel_rfl) (by kernel_rfl) (by kernel_rfl) (fun _ _ _ h => h) (Or.inl ⟨by rfl, ?_⟩) (by assumption) ?_
          rotate_left
          · intro W hSw
            (try dsimp only at hSw)
            go_simp
            (try with_reducible rfl)
          (try simp only [Act.put, List.setIfInBounds_toArray, List.set_cons_zero, List.set_cons_succ])
          refine wpAnyZ_take (i := 8) (oi := ⟨_, _, _, _, _, _⟩) (v := ?_) rfl (by kernel_rfl) (by kernel_rfl) (by kernel_rfl) (by kernel_rfl) (by kernel_rfl) (fun _ _ _ h => h) (Or.inl ⟨by rfl, ?_⟩) (by assumption) ?_
          rotate_left
          · intro W hSw
            (try dsimp only at hSw)
            go_simp
            (try with_reducible rfl)
          (try simp only [Act.put, List.setIfInBounds_toArray, List.set_cons_zero, List.set_cons_succ])
          refine wpAnyZ_take (i := 9) (oi := ⟨_, _, _, _, _, _⟩) (v := ?_) rfl (by kernel_rfl) (by kernel_rfl) (by kernel_rfl) (by kernel_rfl) (by kernel_rfl) (fun _ _ _ h => h) (Or.inl ⟨by rfl, ?_⟩) (by assumption) ?_
          rotate_left
          · intro W hSw
            (try dsimp only at hSw)
            go_simp
            (try with_reducible rfl)
          (try simp only [Act.put, List.setIfInBounds_toArray, List.set_cons_zero, List.set_cons_succ])
          refine wpAnyZ_take (i := 10) (oi := ⟨_, _, _, _, _, _⟩) (v := ?_) rfl (by kernel_rfl) (by kernel_rfl) (by kernel_rfl) (by kernel_rfl) (by kernel_rfl) (fun _ _ _ h => h) (Or.inl ⟨by rfl, ?_⟩) (by assumption) ?_
          rotate_left
          · intro W hSw
            (try dsimp only at hSw)
            go_simp
            (try with_reducible rfl)
          (try simp only [Act.put, List.setIfInBounds_toArray, List.set_cons_zero, List.set_cons_succ])
          refine wpAnyZ_take (i := 11) (oi := ⟨_, _, _, _, _, _⟩) (v := ?_) rfl (by kernel_rfl) (by kernel_rfl) (by kernel_rfl) (by kernel_rfl) (by kernel_rfl) (fun _ _ _ h => h) (Or.inl ⟨by rfl, ?_⟩) (by assumption) ?_
          rotate_left
          · intro W hSw
            (try dsimp only at hSw)
            go_simp
            (try with_reducible rfl)
          (try simp only [Act.put, List.setIfInBounds_toArray, List.set_cons_zero, List.set_cons_succ])
          refine wpAnyZ_take (i := 12) (oi := ⟨_, _, _, _, _, _⟩) (v := ?_) rfl (by kernel_rfl) (by kernel_rfl) (by kernel_rfl) (by kernel_rfl) (by kernel_rfl) (fun _ _ _ h => h) (Or.inl ⟨by rfl, ?_⟩) (by assumption) ?_
          rotate_left
          · intro W hSw
            (try dsimp only at hSw)
            go_simp
            (try with_reducible rfl)
          (try simp only [Act.put, List.setIfInBounds_toArray, List.set_cons_zero, List.set_cons_succ])
          refine wpAnyZ_take (i := 13) (oi := ⟨_, _, _, _, _, _⟩) (v := ?_) rfl (by kernel_rfl) (by kernel_rfl) (by kernel_rfl) (by kernel_rfl) (by kernel_rfl) (fun _ _ _ h => h) (Or.inl ⟨by rfl, ?_⟩) (by assumption) ?_
          rotate_left
          · intro W hSw
            (try dsimp only at hSw)
            go_simp
            (try with_reducible rfl)
          (try simp only [Act.put, List.setIfInBounds_toArray, List.set_cons_zero, List.set_cons_succ])
          refine wpAnyZ_take (i := 15) (oi := ⟨_, _, _, _, _, _⟩) (v := ?_) rfl (by kernel_rfl) (by kernel_rfl) (by kernel_rfl) (by kernel_rfl) (by kernel_rfl) (fun _ _ _ h => h) (Or.inl ⟨by rfl, ?_⟩) (by assumption) ?_
          rotate_left
          · intro W hSw
            (try dsimp only at hSw)
            go_simp
            (try with_reducible rfl)
          (try simp only [Act.put, List.setIfInBounds_toArray, List.set_cons_zero, List.set_cons_succ])
          refine wpAnyZ_ready (rs := [5]) (by kernel_rfl) (by simp) ?_
          refine AllReadyZ.cons (o := ⟨_, _, _, _, _, _⟩) rfl (fun C hC => ?_) AllReadyZ.nil
          go_simp
          obtain ⟨x1, hx1⟩ : ∃ u, u = x0.alloc (.cells #[] 5) := ⟨_, rfl⟩
          have hbb : Below x0.heap.size x0 x1 := by rw [hx1]; exact (Below.refl _ _).alloc (Nat.le_refl _) _
          have HC1 := Lib.hid (HC0.out.trans (hbb.mono HC0.out.size))
          obtain ⟨g1, hg1⟩ : ∃ G, G = x0.heap.size := ⟨_, rfl⟩
          have HY1 : Hid (OwnRow byteK x1 wa.heap.size (.slice (some ⟨g1, 0, none⟩) 0 0) []) := by show OwnRow _ _ _ _ _; rw [hx1, hg1]; exact ownRow_lit byteK_ok x0 _ [] HC0.out.size (by simp) _ rfl 0 rfl
          rw [← hx1, ← hg1]
          clear hx1 hg1 hbb
          have hHeld : (fun (W : World) => W.cell? ⟨kf, 0, none⟩ = some (.slice (some ⟨g, 0, none⟩) len2 cap) ∧ W.cell? ⟨g, i * 3 + 1, none⟩ = some (.slice m.ad m.f.b.length m.cap)) x1 := KS2.out _ HC1.out
          refine hC.out _ _ (fun _ => hHeld) (fun _ => ?_)
          clear hC C
          (try simp only [Act.put, List.setIfInBounds_toArray, List.set_cons_zero, List.set_cons_succ])
          refine wpAnyZ_ready (rs := [14]) (by kernel_rfl) (by simp) ?_
          refine AllReadyZ.cons (o := ⟨_, _, _, _, _, _⟩) rfl (fun C hC => ?_) AllReadyZ.nil
          refine held_row (by rfl) byteK_ok (.tmp 60) (.tmp 68) rfl wa.heap.size [] m.f.b _ rfl HY1.out HC1.out.size m.ad m.f.b.length m.cap rfl (HBR.out.1.keep HC1.out) (by rw [List.length_nil]; omega) ?_
          rintro vx2 x2 hap
          have HC2 : Hid (Below wa.heap.size wa x2) := HC1.out.grown hap.2.1 HC1.out.size fun q hq => (HY1.out.lt q hq).1
          have HY2 : Hid (OwnRow byteK x2 wa.heap.size vx2 m.f.b) := hap.1
          clear hap
          have hHeld : (fun (W : World) => W.cell? ⟨kf, 0, none⟩ = some (.slice (some ⟨g, 0, none⟩) len2 cap) ∧ W.cell? ⟨g, i * 3 + 1, none⟩ = some (.slice m.ad m.f.b.length m.cap)) x2 := KS2.out _ HC2.out
          refine hC.out _ _ (fun _ => hHeld) (fun _ => ?_)
          clear hC C
          (try simp only [Act.put, List.setIfInBounds_toArray, List.set_cons_zero, List.set_cons_succ])
          refine wpAnyZ_ready (rs := [16]) (by kernel_rfl) (by simp) ?_
          refine AllReadyZ.cons (o := ⟨_, _, _, _, _, _⟩) rfl (fun C hC => ?_) AllReadyZ.nil
          refine held_row (by rfl) byteK_ok (.tmp 69) (.tmp 70) rfl wa.heap.size m.f.b bs _ rfl HY2.out HC2.out.size bad blen bcap rfl (HBA.out.keep HC2.out) (by omega) ?_
          rintro vx3 x3 hap
          have hlt : (m.f.b ++ bs).length = m.f.b.length + blen := by rw [List.length_append, HBA.out.length]
          obtain ⟨ad1, cap1, hv3, hr1, hat1⟩ := OwnRow.row2 byteK_ok hap.1 hlt
          subst hv3
          have HC3 : Hid (Below wa.heap.size wa x3) := HC2.out.grown hap.2.1 HC2.out.size fun q hq => (HY2.out.lt q hq).1
          have HRW : Hid (RowAt byteK x3 ad1 (m.f.b.length + blen) cap1 (m.f.b ++ bs)) := hr1
          have HAD : Hid (∀ a, ad1 = some a → wa.heap.size ≤ a.block ∧ a.block < x3.heap.size) := hat1
          clear hap hr1 hat1
          have hHeld : (fun (W : World) => W.cell? ⟨kf, 0, none⟩ = some (.slice (some ⟨g, 0, none⟩) len2 cap) ∧ W.cell? ⟨g, i * 3 + 1, none⟩ = some (.slice m.ad m.f.b.length m.cap)) x3 := KS2.out _ HC3.out
          refine hC.out _ _ (fun _ => hHeld) (fun _ => ?_)
          clear hC C
          (try simp only [Act.put, List.setIfInBounds_toArray, List.set_cons_zero, List.set_cons_succ])
          refine wpAnyZ_take (i := 17) (oi := ⟨_, _, _, _, _, _⟩) (v := ?_) rfl (by kernel_rfl) (by kernel_rfl) (by kernel_rfl) (by kernel_rfl) (by kernel_rfl) (fun _ _ _ h => h) (Or.inl ⟨by rfl, ?_⟩) (by assumption) ?_
          rotate_left
          · intro W hSw
            (try dsimp only at hSw)
            go_simp
            (try with_reducible rfl)
          (try simp only [Act.put, List.setIfInBounds_toArray, List.set_cons_zero, List.set_cons_succ])
          refine wpAnyZ_take (i := 18) (oi := ⟨_, _, _, _, _, _⟩) (v := ?_) rfl (by kernel_rfl) (by kernel_rfl) (by kernel_rfl) (by kernel_rfl) (by kernel_rfl) (fun _ _ _ h => h) (Or.inl ⟨by rfl, ?_⟩) (by assumption) ?_
          rotate_left
          · intro W hSw
            (try dsimp only at hSw)
            go_simp
            (try with_reducible rfl)
          (try simp only [Act.put, List.setIfInBounds_toArray, List.set_cons_zero, List.set_cons_succ])
          have t0 := ((HA.out.keep HC3.out).cells HM.out).2.2.2.2.1
          have t1 := ((HA.out.keep HC3.out).cells HM.out).2.2.2.2.2.2 (i * 3 + 1)
          refine wpAnyZ_ready (rs := [19]) (by kernel_rfl) (by simp) ?_
          refine AllReadyZ.cons (o := ⟨_, _, _, _, _, _⟩) rfl (fun C hC => ?_) AllReadyZ.nil
          go_simp
          refine hC.out _ _ (zfree_no (by kernel_rfl)) (fun _ => ?_)
          clear hC C
          (try simp only [Act.put, List.setIfInBounds_toArray, List.set_cons_zero, List.set_cons_succ])
          refine wpAnyZ_done (by kernel_rfl) ?_ _
          refine NoPanic.normal ?_
          obtain ⟨wy, hwy⟩ : ∃ wy, wy = x3.setCell ⟨g, i * 3 + 1, none⟩ (.slice ad1 (m.f.b.length + blen) cap1) := ⟨_, rfl⟩
          have H7 := HA.out.keep HC3.out
          have HOY : Hid (FsOk wy kf (.slice (some ⟨g, 0, none⟩) len2 cap) d.left d.done (msa.set i ⟨{ m.f with b := m.f.b ++ bs }, ad1, cap1⟩)) := by
            show FsOk _ _ _ _ _ _
            rw [hwy]
            exact H7.stored HM.out 1 _ (by omega) (by simp [flK, HBA.out.length]) (by rw [hlt]; exact HRW.out) (fun x hx => (List.mem_append.1 hx).elim (HBR.out.2 x) (hball x)) fun a ha => ⟨by have := (HAD.out a ha).1; have := HA.out.box.lt; omega, (HAD.out a ha).2, fun e => by have := (HAD.out a ha).1; omega⟩
          have HKY : Hid (KeptFs wa wy kf (.slice (some ⟨g, 0, none⟩) len2 cap)) := by
            show KeptFs _ _ _ _
            rw [hwy]
            exact (kept_grown (grow_below (grow_refl wa _) HC3.out)).trans (newOr_refl _ _) (kept_store x3 kf g len2 cap _ _)
          try rw [← hwy]
          clear hwy t0 t1 hHeld H7
          go_wp2
          go_ret
          exact gives_fs HE.out HOY.out (fls_set _ _ _) (HKA.out.trans HNA.out HKY.out) HNA.out (lists_then HLS.out fun a ha => Nat.le_trans HKA.out.size (HAD.out a ha).1)
        · skip
          go_simp
          obtain ⟨u6, hu6⟩ : ∃ u, u = u1.alloc (.cells #[.string n, .slice none 0 0, .int .i64 0] 75) := ⟨_, rfl⟩
          have hbb : Below u1.heap.size u1 u6 := by rw [hu6]; exact (Below.refl _ _).alloc (Nat.le_refl _) _
          have HBu6 := Lib.hid (HBu1.out.trans (hbb.mono HBu1.out.size))
          obtain ⟨gx, hgx⟩ : ∃ G, G = u1.heap.size := ⟨_, rfl⟩
          have HXu6 : Hid (RowAt flK u6 (some ⟨gx, 0, none⟩) 1 1 [mx]) := by show RowAt _ _ _ _ _ _; rw [hu6, hgx, HMX.out]; exact rowAt_lit flK_ok u1 [⟨⟨n, [], 0⟩, none, 0⟩] (by simp) _ rfl 1 rfl
          have HOu6 := Lib.hid (HOu1.out.on hbb)
          have HNEu6 : ∀ a, (some (⟨gx, 0, none⟩ : Addr)) = some a → some a.block ≠ ((.slice (some ⟨gu1, 0, none⟩) 0 0) : Value).ownBlock := by
            intro a ha e
            cases ha
            have h1 : gx < u1.heap.size := (HOu1.out.lt _ e.symm).2
            omega
          rw [← hu6, ← hgx]
          clear hu6 hgx hbb
          have hHeld : (fun (W : World) => W.cell? ⟨kf, 0, none⟩ = some (.slice fad len fcap)) u6 := KS.out _ HBu6.out
          refine hC.out _ _ (fun _ => hHeld) (fun _ => ?_)
          clear hC C
          (try simp only [Act.put, List.setIfInBounds_toArray, List.set_cons_zero, List.set_cons_succ])
          refine wpAnyZ_ready (rs := [8]) (by kernel_rfl) (by simp) ?_
          refine AllReadyZ.cons (o := ⟨_, _, _, _, _, _⟩) rfl (fun C hC => ?_) AllReadyZ.nil
          refine held_row (by rfl) flK_ok (.tmp 34) (.tmp 40) rfl w3.heap.size [] (ms.take i) _ rfl HOu6.out HBu6.out.size fad i fcap rfl (HUR.out.keep HBu6.out) (by rw [List.length_nil]; omega) ?_
          rintro vu7 u7 hap
          have HBu7 : Hid (Below w3.heap.size w3 u7) := HBu6.out.grown hap.2.1 HBu6.out.size fun q hq => (HOu6.out.lt q hq).1
          have HOu7 : Hid (OwnRow flK u7 w3.heap.size vu7 (ms.take i)) := hap.1
          have HXu7 := Lib.hid (HXu6.out.grown hap.2.1 HNEu6)
          clear hap
          have hHeld : (fun (W : World) => W.cell? ⟨kf, 0, none⟩ = some (.slice fad len fcap)) u7 := KS.out _ HBu7.out
          refine hC.out _ _ (fun _ => hHeld) (fun _ => ?_)
          clear hC C
          (try simp only [Act.put, List.setIfInBounds_toArray, List.set_cons_zero, List.set_cons_succ])
          refine wpAnyZ_ready (rs := [12]) (by kernel_rfl) (by simp) ?_
          refine AllReadyZ.cons (o := ⟨_, _, _, _, _, _⟩) rfl (fun C hC => ?_) AllReadyZ.nil
          refine held_row (by rfl) flK_ok (.tmp 41) (.tmp 44) rfl w3.heap.size (ms.take i) [mx] _ rfl HOu7.out HBu7.out.size (some ⟨gx, 0, none⟩) 1 1 rfl HXu7.out (by rw [List.length_take]; omega) ?_
          rintro vu8 u8 hap
          have HBu8 : Hid (Below w3.heap.size w3 u8) := HBu7.out.grown hap.2.1 HBu7.out.size fun q hq => (HOu7.out.lt q hq).1
          have HOu8 : Hid (OwnRow flK u8 w3.heap.size vu8 (ms.take i ++ [mx])) := hap.1
          clear hap
          have hHeld : (fun (W : World) => W.cell? ⟨kf, 0, none⟩ = some (.slice fad len fcap)) u8 := KS.out _ HBu8.out
          refine hC.out _ _ (fun _ => hHeld) (fun _ => ?_)
          clear hC C
          (try simp only [Act.put, List.setIfInBounds_toArray, List.set_cons_zero, List.set_cons_succ])
          refine wpAnyZ_ready (rs := [19]) (by kernel_rfl) (by simp) ?_
          refine AllReadyZ.cons (o := ⟨_, _, _, _, _, _⟩) rfl (fun C hC => ?_) AllReadyZ.nil
          refine held_row (by rfl) flK_ok (.tmp 45) (.tmp 51) rfl w3.heap.size (ms.take i ++ [mx]) (ms.drop i) _ rfl HOu8.out HBu8.out.size fd (len - i) fc rfl (HFR.out.keep HBu8.out) (by rw [List.length_append, List.length_take]; simp; omega) ?_
          rintro vu9 u9 hap
          obtain ⟨ad9, cap9, hv9, _, _⟩ := OwnRow.row2 flK_ok hap.1 (n := len + 1) (by simp; omega)
          subst hv9
          have HBu9 : Hid (Below w3.heap.size w3 u9) := HBu8.out.grown hap.2.1 HBu8.out.size fun q hq => (HOu8.out.lt q hq).1
          have HOu9 : Hid (OwnRow flK u9 w3.heap.size (.slice ad9 (len + 1) cap9) (ms.take i ++ [mx] ++ ms.drop i)) := hap.1
          clear hap
          have hHeld : (fun (W : World) => W.cell? ⟨kf, 0, none⟩ = some (.slice fad len fcap)) u9 := KS.out _ HBu9.out
          refine hC.out _ _ (fun _ => hHeld) (fun _ => ?_)
          clear hC C
          (try simp only [Act.put, List.setIfInBounds_toArray, List.set_cons_zero, List.set_cons_succ])
          refine wpAnyZ_take (i := 20) (oi := ⟨_, _, _, _, _, _⟩) (v := ?_) rfl (by kernel_rfl) (by kernel_rfl) (by kernel_rfl) (by kernel_rfl) (by kernel_rfl) (fun _ _ _ h => h) (Or.inl ⟨by rfl, ?_⟩) (by assumption) ?_
          rotate_left
          · intro W hSw
            (try dsimp only at hSw)
            go_simp
            (try with_reducible rfl)
          (try simp only [Act.put, List.setIfInBounds_toArray, List.set_cons_zero, List.set_cons_succ])
          refine wpAnyZ_take (i := 21) (oi := ⟨_, _, _, _, _, _⟩) (v := ?_) rfl (by kernel_rfl) (by kernel_rfl) (by kernel_rfl) (by kernel_rfl) (by kernel_rfl) (fun _ _ _ h => h) (Or.inl ⟨by rfl, ?_⟩) (by assumption) ?_
          rotate_left
          · intro W hSw
            (try dsimp only at hSw)
            go_simp
            (try with_reducible rfl)
          (try simp only [Act.put, List.setIfInBounds_toArray, List.set_cons_zero, List.set_cons_succ])
          have t0 := (H3.out.box.on HBu9.out).c0
          have t1 := (H3.out.box.on HBu9.out).free 0
          refine wpAnyZ_ready (rs := [22]) (by kernel_rfl) (by simp) ?_
          refine AllReadyZ.cons (o := ⟨_, _, _, _, _, _⟩) rfl (fun C hC => ?_) AllReadyZ.nil
          go_simp
          refine hC.out _ _ (zfree_no (by kernel_rfl)) (fun _ => ?_)
          clear hC C
          (try simp only [Act.put, List.setIfInBounds_toArray, List.set_cons_zero, List.set_cons_succ])
          refine wpAnyZ_done (by kernel_rfl) ?_ _
          refine NoPanic.normal ?_
          obtain ⟨wz, hwz⟩ : ∃ wz, wz = u9.setCell ⟨kf, 0, none⟩ (.slice ad9 (len + 1) cap9) := ⟨_, rfl⟩
          have hkf := H3.out.box.lt
          have HGz : Hid (w3.grownBy wz (some kf)) := by show World.grownBy _ _ _; rw [hwz]; exact grow_set (grow_below (grow_refl w3 _) HBu9.out) 0 _
          have HOz : Hid (OwnRow flK wz w3.heap.size (.slice ad9 (len + 1) cap9) (ms.take i ++ [mx] ++ ms.drop i)) := by show OwnRow _ _ _ _ _; rw [hwz]; exact HOu9.out.off hkf _ _
          have HBz : Hid (FsBox wz kf (.slice ad9 (len + 1) cap9) d.left d.done) := by show FsBox _ _ _ _ _; rw [hwz]; exact (H3.out.box.on HBu9.out).s0 _
          try rw [← hwz]
          clear hwz t0 t1 hHeld
          obtain ⟨msa, hmsa⟩ : ∃ x, x = ms.take i ++ [mx] ++ ms.drop i := ⟨_, rfl⟩
          have HLS : Hid (ListsFs w ms msa) := fun x hx a ha => by
            rw [hmsa] at hx
            rcases List.mem_append.1 hx with h1 | h1
            · rcases List.mem_append.1 h1 with h3 | h3
              · exact .inl ⟨x, List.mem_of_mem_take h3, ha⟩
              · rw [List.mem_singleton.1 h3] at ha
                rw [HMX.out] at ha
                cases ha
            · exact .inl ⟨x, List.mem_of_mem_drop h1, ha⟩
          have HA0 : FsOk wz kf (.slice ad9 (len + 1) cap9) d.left d.done msa := by
            rw [hmsa]
            refine H3.out.laid HGz.out HBz.out HOz.out fun x hx => ?_
            rcases List.mem_append.1 hx with h1 | h1
            · rcases List.mem_append.1 h1 with h2 | h2
              · exact .inl (List.mem_of_mem_take h2)
              · rw [List.mem_singleton.1 h2, HMX.out]
                exact .inr ⟨rowAt_nil _, (fun y hy => by simp at hy), rfl⟩
            · exact .inl (List.mem_of_mem_drop h1)
          have hm : msa[i]? = some mx := by rw [hmsa]; exact ins_at ms i (by omega) mx
          obtain ⟨g, len2, cap, m, hv, hlen2, hm2, _⟩ := fs_open HA0 (List.getElem?_eq_some_iff.1 hm).1
          rw [hm] at hm2
          cases hm2
          cases hv
          obtain ⟨cap, hcap⟩ : ∃ x : Nat, x = cap9 := ⟨_, rfl⟩
          subst hcap
          obtain ⟨wa, hwa⟩ : ∃ x : World, x = wz := ⟨_, rfl⟩
          subst hwa
          obtain ⟨m, hmm⟩ : ∃ x : FM, x = mx := ⟨_, rfl⟩
          subst hmm
          obtain ⟨len2, hl2⟩ : ∃ x, x = len + 1 := ⟨_, rfl⟩
          rw [← hl2] at HA0 ⊢
          have HA := Lib.hid HA0
          have HM := Lib.hid hm
          have hbl1 : m.f.b.length ≤ 1000000000 := by rw [HMX.out]; exact Nat.zero_le _
          have HKA : Hid (KeptFs w wa kf (.slice fad len fcap)) := kept_grown (grow_trans HGW.out HGz.out)
          have HNA : Hid (NewOr w (.slice fad len fcap) (.slice (some ⟨g, 0, none⟩) len2 cap)) := fun q hq => .inr (by rw [hl2] at hq; have := (HOz.out.lt q hq).1; have := HGW.out.size; omega)
          have HBA : Hid (RowAt byteK wa bad blen bcap bs) := row_grown0 HV3.out HGz.out fun a ha h0 e => hbk a ha h0 (Option.some.inj e)
          have HE : Hid (r = (0, ⟨(fls msa).set i { m.f with b := m.f.b ++ bs }, d.left, d.done⟩)) := by
            show r = _
            rw [HR3.out, if_neg (by decide)]
            have e : insF (fls ms) n = fls msa := by
              unfold insF
              rw [HH.out, if_neg (by decide), HI.out, hmsa, fls_ins, HMX.out]
            rw [e]
            unfold turnF
            rw [fls_at hm]
          clear HR3 hm HOz HBz HGz H3 HGW HV3 hup hfr HFR HUR KS HA0 hmsa hl2 hlen2
          have KS2 : Hid (∀ W, Below wa.heap.size wa W → (fun (W : World) => W.cell? ⟨kf, 0, none⟩ = some (.slice (some ⟨g, 0, none⟩) len2 cap) ∧ W.cell? ⟨g, i * 3 + 1, none⟩ = some (.slice m.ad m.f.b.length m.cap)) W) := fun W hW => ⟨((HA.out.keep hW).box).c0, ((HA.out.keep hW).cells HM.out).2.2.2.2.1⟩
          have hdrw : Below wa.heap.size wa wa.drew := (Below.refl _ wa).drew
          have hgw2 := (HA.out.cells HM.out).2.2.1
          have hil4 : i < len2 := by have := (HA.out.cells HM.out).1; have := (List.getElem?_eq_some_iff.1 HM.out).1; omega
          have hwi : (i : Int) < (len2 : Int) := by omega
          have HBR := Lib.hid (HA.out.ins m (List.mem_of_getElem? HM.out))
          go_upto_region 0 with fail
          refine wp_region_noPanic ?_
          refine wp_region_z [19] (fun (W : World) => W.cell? ⟨kf, 0, none⟩ = some (.slice (some ⟨g, 0, none⟩) len2 cap) ∧ W.cell? ⟨g, i * 3 + 1, none⟩ = some (.slice m.ad m.f.b.length m.cap)) (by kernel_rfl) ?_
          have hHeld : (fun (W : World) => W.cell? ⟨kf, 0, none⟩ = some (.slice (some ⟨g, 0, none⟩) len2 cap) ∧ W.cell? ⟨g, i * 3 + 1, none⟩ = some (.slice m.ad m.f.b.length m.cap)) _ := KS2.out _ hdrw
          obtain ⟨x0, hx0⟩ : ∃ u, u = wa.drew := ⟨_, rfl⟩
          rw [← hx0] at hHeld hdrw
          rw [← hx0]
          clear hx0
          have HC0 := Lib.hid hdrw
          clear hdrw
          refine wpAnyZ_take (i := 0) (oi := ⟨_, _, _, _, _, _⟩) (v := ?_) rfl (by kernel_rfl) (by kernel_rfl) (by kernel_rfl) (by kernel_rfl) (by kernel_rfl) (fun _ _ _ h => h) (Or.inl ⟨by rfl, ?_⟩) (by assumption) ?_
          rotate_left
          · intro W hSw
            (try dsimp only at hSw)
            go_simp
            (try with_reducible rfl)
          (try simp only [Act.put, List.setIfInBounds_toArray, List.set_cons_zero, List.set_cons_succ])
          refine wpAnyZ_take (i := 1) (oi := ⟨_, _, _, _, _, _⟩) (v := ?_) rfl (by kernel_rfl) (by kernel_rfl) (by kernel_rfl) (by kernel_rfl) (by kernel_rfl) (fun _ _ _ h => h) (Or.inl ⟨by rfl, ?_⟩) (by assumption) ?_
          rotate_left
          · intro W hSw
            (try dsimp only at hSw)
            go_simp
            (try with_reducible rfl)
          (try simp only [Act.put, List.setIfInBounds_toArray, List.set_cons_zero, List.set_cons_succ])
          refine wpAnyZ_take (i := 2) (oi := ⟨_, _, _, _, _, _⟩) (v := ?_) rfl (by kernel_rfl) (by kernel_rfl) (by kernel_rfl) (by kernel_rfl) (by kernel_rfl) (fun _ _ _ h => h) (Or.inl ⟨by rfl, ?_⟩) (by assumption) ?_
          rotate_left
          · intro W hSw
            (try dsimp only at hSw)
            go_simp
            (try with_reducible rfl)
          (try simp only [Act.put, List.setIfInBounds_toArray, List.set_cons_zero, List.set_cons_succ])
          refine wpAnyZ_take (i := 3) (oi := ⟨_, _, _, _, _, _⟩) (v := ?_) rfl (by kernel_rfl) (by kernel_rfl) (by kernel_rfl) (by kernel_rfl) (by kernel_rfl) (fun _ _ _ h => h) (Or.inl ⟨by rfl, ?_⟩) (by assumption) ?_
          rotate_left
          · intro W hSw
            (try dsimp only at hSw)
            go_simp
            (try with_reducible rfl)
          (try simp only [Act.put, List.setIfInBounds_toArray, List.set_cons_zero, List.set_cons_succ])
          refine wpAnyZ_take (i := 4) (oi := ⟨_, _, _, _, _, _⟩) (v := ?_) rfl (by kernel_rfl) (by kernel_rfl) (by kernel_rfl) (by kernel_rfl) (by kernel_rfl) (fun _ _ _ h => h) (Or.inl ⟨by rfl, ?_⟩) (by assumption) ?_
          rotate_left
          · intro W hSw
            (try dsimp only at hSw)
            go_simp
            (try with_reducible rfl)
          (try simp only [Act.put, List.setIfInBounds_toArray, List.set_cons_zero, List.set_cons_succ])
          refine wpAnyZ_take (i := 6) (oi := ⟨_, _, _, _, _, _⟩) (v := ?_) rfl (by kernel_rfl) (by kernel_rfl) (by kernel_rfl) (by kernel_rfl) (by kernel_rfl) (fun _ _ _ h => h) (Or.inl ⟨by rfl, ?_⟩) (by assumption) ?_
          rotate_left
          · intro W hSw
            (try dsimp only at hSw)
            go_simp
            (try with_reducible rfl)
          (try simp only [Act.put, List.setIfInBounds_toArray, List.set_cons_zero, List.set_cons_succ])
          refine wpAnyZ_take (i := 7) (oi := ⟨_, _, _, _, _, _⟩) (v := ?_) rfl (by kernel_rfl) (by kernel_rfl) (by kernel_rfl) (by kernel_rfl) (by kernel_rfl) (fun _ _ _ h => h) (Or.inl ⟨by rfl, ?_⟩) (by assumption) ?_
          rotate_left
          · intro W hSw
            (try dsimp only at hSw)
            go_simp
            (try with_reducible rfl)
          (try simp only [Act.put, List.setIfInBounds_toArray, List.set_cons_zero, List.set_cons_succ])
          refine wpAnyZ_take (i := 8) (oi := ⟨_, _, _, _, _, _⟩) (v := ?_) rfl (by kernel_rfl) (by kernel_rfl) (by kernel_rfl) (by kernel_rfl) (by kernel_rfl) (fun _ _ _ h => h) (Or.inl ⟨by rfl, ?_⟩) (by assumption) ?_
          rotate_left
          · intro W hSw
            (try dsimp only at hSw)
            go_simp
            (try with_reducible rfl)
          (try simp only [Act.put, List.setIfInBounds_toArray, List.set_cons_zero, List.set_cons_succ])
          refine wpAnyZ_take (i := 9) (oi := ⟨_, _, _, _, _, _⟩) (v := ?_) rfl (by kernel_rfl) (by kernel_rfl) (by kernel_rfl) (by kernel_rfl) (by kernel_rfl) (fun _ _ _ h => h) (Or.inl ⟨by rfl, ?_⟩) (by assumption) ?_
          rotate_left
          · intro W hSw
            (try dsimp only at hSw)
            go_simp
            (try with_reducible rfl)
          (try simp only [Act.put, List.setIfInBounds_toArray, List.set_cons_zero, List.set_cons_succ])
          refine wpAnyZ_take (i := 10) (oi := ⟨_, _, _, _, _, _⟩) (v := ?_) rfl (by kernel_rfl) (by kernel_rfl) (by kernel_rfl) (by kernel_rfl) (by kernel_rfl) (fun _ _ _ h => h) (Or.inl ⟨by rfl, ?_⟩) (by assumption) ?_
          rotate_left
          · intro W hSw
            (try dsimp only at hSw)
            go_simp
            (try with_reducible rfl)
          (try simp only [Act.put, List.setIfInBounds_toArray, List.set_cons_zero, List.set_cons_succ])
          refine wpAnyZ_take (i := 11) (oi := ⟨_, _, _, _, _, _⟩) (v := ?_) rfl (by kernel_rfl) (by kernel_rfl) (by kernel_rfl) (by kernel_rfl) (by kernel_rfl) (fun _ _ _ h => h) (Or.inl ⟨by rfl, ?_⟩) (by assumption) ?_
          rotate_left
          · intro W hSw
            (try dsimp only at hSw)
            go_simp
            (try with_reducible rfl)
          (try simp only [Act.put, List.setIfInBounds_toArray, List.set_cons_zero, List.set_cons_succ])
          refine wpAnyZ_take (i := 12) (oi := ⟨_, _, _, _, _, _⟩) (v := ?_) rfl (by kernel_rfl) (by kernel_rfl) (by kernel_rfl) (by kernel_rfl) (by kernel_rfl) (fun _ _ _ h => h) (Or.inl ⟨by rfl, ?_⟩) (by assumption) ?_
          rotate_left
          · intro W hSw
            (try dsimp only at hSw)
            go_simp
            (try with_reducible rfl)
          (try simp only [Act.put, List.setIfInBounds_toArray, List.set_cons_zero, List.set_cons_succ])
          refine wpAnyZ_take (i := 13) (oi := ⟨_, _, _, _, _, _⟩) (v := ?_) rfl (by kernel_rfl) (by kernel_rfl) (by kernel_rfl) (by kernel_rfl) (by kernel_rfl) (fun _ _ _ h => h) (Or.inl ⟨by rfl, ?_⟩) (by assumption) ?_
          rotate_left
          · intro W hSw
            (try dsimp only at hSw)
            go_simp
            (try with_reducible rfl)
          (try simp only [Act.put, List.setIfInBounds_toArray, List.set_cons_zero, List.set_cons_succ])
          refine wpAnyZ_take (i := 15) (oi := ⟨_, _, _, _, _, _⟩) (v := ?_) rfl (by kernel_rfl) (by kernel_rfl) (by kernel_rfl) (by kernel_rfl) (by kernel_rfl) (fun _ _ _ h => h) (Or.inl ⟨by rfl, ?_⟩) (by assumption) ?_
          rotate_left
          · intro W hSw
            (try dsimp only at hSw)
            go_simp
            (try with_reducible rfl)
          (try simp only [Act.put, List.setIfInBounds_toArray, List.set_cons_zero, List.set_cons_succ])
          refine wpAnyZ_ready (rs := [5]) (by kernel_rfl) (by simp) ?_
          refine AllReadyZ.cons (o := ⟨_, _, _, _, _, _⟩) rfl (fun C hC => ?_) AllReadyZ.nil
          go_simp
          obtain ⟨x1, hx1⟩ : ∃ u, u = x0.alloc (.cells #[] 5) := ⟨_, rfl⟩
          have hbb : Below x0.heap.size x0 x1 := by rw [hx1]; exact (Below.refl _ _).alloc (Nat.le_refl _) _
          have HC1 := Lib.hid (HC0.out.trans (hbb.mono HC0.out.size))
          obtain ⟨g1, hg1⟩ : ∃ G, G = x0.heap.size := ⟨_, rfl⟩
          have HY1 : Hid (OwnRow byteK x1 wa.heap.size (.slice (some ⟨g1, 0, none⟩) 0 0) []) := by show OwnRow _ _ _ _ _; rw [hx1, hg1]; exact ownRow_lit byteK_ok x0 _ [] HC0.out.size (by simp) _ rfl 0 rfl
          rw [← hx1, ← hg1]
          clear hx1 hg1 hbb
          have hHeld : (fun (W : World) => W.cell? ⟨kf, 0, none⟩ = some (.slice (some ⟨g, 0, none⟩) len2 cap) ∧ W.cell? ⟨g, i * 3 + 1, none⟩ = some (.slice m.ad m.f.b.length m.cap)) x1 := KS2.out _ HC1.out
          refine hC.out _ _ (fun _ => hHeld) (fun _ => ?_)
          clear hC C
          (try simp only [Act.put, List.setIfInBounds_toArray, List.set_cons_zero, List.set_cons_succ])
          refine wpAnyZ_ready (rs := [14]) (by kernel_rfl) (by simp) ?_
          refine AllReadyZ.cons (o := ⟨_, _, _, _, _, _⟩) rfl (fun C hC => ?_) AllReadyZ.nil
          refine held_row (by rfl) byteK_ok (.tmp 60) (.tmp 68) rfl wa.heap.size [] m.f.b _ rfl HY1.out HC1.out.size m.ad m.f.b.length m.cap rfl (HBR.out.1.keep HC1.out) (by rw [List.length_nil]; omega) ?_
          rintro vx2 x2 hap
          have HC2 : Hid (Below wa.heap.size wa x2) := HC1.out.grown hap.2.1 HC1.out.size fun q hq => (HY1.out.lt q hq).1
          have HY2 : Hid (OwnRow byteK x2 wa.heap.size vx2 m.f.b) := hap.1
          clear hap
          have hHeld : (fun (W : World) => W.cell? ⟨kf, 0, none⟩ = some (.slice (some ⟨g, 0, none⟩) len2 cap) ∧ W.cell? ⟨g, i * 3 + 1, none⟩ = some (.slice m.ad m.f.b.length m.cap)) x2 := KS2.out _ HC2.out
          refine hC.out _ _ (fun _ => hHeld) (fun _ => ?_)
          clear hC C
          (try simp only [Act.put, List.setIfInBounds_toArray, List.set_cons_zero, List.set_cons_succ])
          refine wpAnyZ_ready (rs := [16]) (by kernel_rfl) (by simp) ?_
          refine AllReadyZ.cons (o := ⟨_, _, _, _, _, _⟩) rfl (fun C hC => ?_) AllReadyZ.nil
          refine held_row (by rfl) byteK_ok (.tmp 69) (.tmp 70) rfl wa.heap.size m.f.b bs _ rfl HY2.out HC2.out.size bad blen bcap rfl (HBA.out.keep HC2.out) (by omega) ?_
          rintro vx3 x3 hap
          have hlt : (m.f.b ++ bs).length = m.f.b.length + blen := by rw [List.length_append, HBA.out.length]
          obtain ⟨ad1, cap1, hv3, hr1, hat1⟩ := OwnRow.row2 byteK_ok hap.1 hlt
          subst hv3
          have HC3 : Hid (Below wa.heap.size wa x3) := HC2.out.grown hap.2.1 HC2.out.size fun q hq => (HY2.out.lt q hq).1
          have HRW : Hid (RowAt byteK x3 ad1 (m.f.b.length + blen) cap1 (m.f.b ++ bs)) := hr1
          have HAD : Hid (∀ a, ad1 = some a → wa.heap.size ≤ a.block ∧ a.block < x3.heap.size) := hat1
          clear hap hr1 hat1
          have hHeld : (fun (W : World) => W.cell? ⟨kf, 0, none⟩ = some (.slice (some ⟨g, 0, none⟩) len2 cap) ∧ W.cell? ⟨g, i * 3 + 1, none⟩ = some (.slice m.ad m.f.b.length m.cap)) x3 := KS2.out _ HC3.out
          refine hC.out _ _ (fun _ => hHeld) (fun _ => ?_)
          clear hC C
          (try simp only [Act.put, List.setIfInBounds_toArray, List.set_cons_zero, List.set_cons_succ])
          refine wpAnyZ_take (i := 17) (oi := ⟨_, _, _, _, _, _⟩) (v := ?_) rfl (by kernel_rfl) (by kernel_rfl) (by kernel_rfl) (by kernel_rfl) (by kernel_rfl) (fun _ _ _ h => h) (Or.inl ⟨by rfl, ?_⟩) (by assumption) ?_
          rotate_left
          · intro W hSw
            (try dsimp only at hSw)
            go_simp
            (try with_reducible rfl)
          (try simp only [Act.put, List.setIfInBounds_toArray, List.set_cons_zero, List.set_cons_succ])
          refine wpAnyZ_take (i := 18) (oi := ⟨_, _, _, _, _, _⟩) (v := ?_) rfl (by kernel_rfl) (by kernel_rfl) (by kernel_rfl) (by kernel_rfl) (by kernel_rfl) (fun _ _ _ h => h) (Or.inl ⟨by rfl, ?_⟩) (by assumption) ?_
          rotate_left
          · intro W hSw
            (try dsimp only at hSw)
            go_simp
            (try with_reducible rfl)
          (try simp only [Act.put, List.setIfInBounds_toArray, List.set_cons_zero, List.set_cons_succ])
          have t0 := ((HA.out.keep HC3.out).cells HM.out).2.2.2.2.1
          have t1 := ((HA.out.keep HC3.out).cells HM.out).2.2.2.2.2.2 (i * 3 + 1)
          refine wpAnyZ_ready (rs := [19]) (by kernel_rfl) (by simp) ?_
          refine AllReadyZ.cons (o := ⟨_, _, _, _, _, _⟩) rfl (fun C hC => ?_) AllReadyZ.nil
          go_simp
          refine hC.out _ _ (zfree_no (by kernel_rfl)) (fun _ => ?_)
          clear hC C
          (try simp only [Act.put, List.setIfInBounds_toArray, List.set_cons_zero, List.set_cons_succ])
          refine wpAnyZ_done (by kernel_rfl) ?_ _
          refine NoPanic.normal ?_
          obtain ⟨wy, hwy⟩ : ∃ wy, wy = x3.setCell ⟨g, i * 3 + 1, none⟩ (.slice ad1 (m.f.b.length + blen) cap1) := ⟨_, rfl⟩
          have H7 := HA.out.keep HC3.out
          have HOY : Hid (FsOk wy kf (.slice (some ⟨g, 0, none⟩) len2 cap) d.left d.done (msa.set i ⟨{ m.f with b := m.f.b ++ bs }, ad1, cap1⟩)) := by
            show FsOk _ _ _ _ _ _
            rw [hwy]
            exact H7.stored HM.out 1 _ (by omega) (by simp [flK, HBA.out.length]) (by rw [hlt]; exact HRW.out) (fun x hx => (List.mem_append.1 hx).elim (HBR.out.2 x) (hball x)) fun a ha => ⟨by have := (HAD.out a ha).1; have := HA.out.box.lt; omega, (HAD.out a ha).2, fun e => by have := (HAD.out a ha).1; omega⟩
          have HKY : Hid (KeptFs wa wy kf (.slice (some ⟨g, 0, none⟩) len2 cap)) := by
            show KeptFs _ _ _ _
            rw [hwy]
            exact (kept_grown (grow_below (grow_refl wa _) HC3.out)).trans (newOr_refl _ _) (kept_store x3 kf g len2 cap _ _)
          try rw [← hwy]
          clear hwy t0 t1 hHeld H7
          go_wp2
          go_ret
          exact gives_fs HE.out HOY.out (fls_set _ _ _) (HKA.out.trans HNA.out HKY.out) HNA.out (lists_then HLS.out fun a ha => Nat.le_trans HKA.out.size (HAD.out a ha).1)
      · skip
        go_simp
        obtain ⟨u10, hu10⟩ : ∃ u, u = u0.alloc (.cells #[.string n, .slice none 0 0, .int .i64 0] 75) := ⟨_, rfl⟩
        have hbb : Below u0.heap.size u0 u10 := by rw [hu10]; exact (Below.refl _ _).alloc (Nat.le_refl _) _
        have HBu10 := Lib.hid (HBu0.out.trans (hbb.mono HBu0.out.size))
        obtain ⟨gx, hgx⟩ : ∃ G, G = u0.heap.size := ⟨_, rfl⟩
        have HXu10 : Hid (RowAt flK u10 (some ⟨gx, 0, none⟩) 1 1 [mx]) := by show RowAt _ _ _ _ _ _; rw [hu10, hgx, HMX.out]; exact rowAt_lit flK_ok u0 [⟨⟨n, [], 0⟩, none, 0⟩] (by simp) _ rfl 1 rfl
        rw [← hu10, ← hgx]
        clear hu10 hgx hbb
        have hHeld : (fun (W : World) => W.cell? ⟨kf, 0, none⟩ = some (.slice fad len fcap)) u10 := KS.out _ HBu10.out
        refine hC.out _ _ (fun _ => hHeld) (fun _ => ?_)
        clear hC C
        (try simp only [Act.put, List.setIfInBounds_toArray, List.set_cons_zero, List.set_cons_succ])
        refine wpAnyZ_ready (rs := [1]) (by kernel_rfl) (by simp) ?_
        refine AllReadyZ.cons (o := ⟨_, _, _, _, _, _⟩) rfl (fun C hC => ?_) AllReadyZ.nil
        go_simp
        obtain ⟨u11, hu11⟩ : ∃ u, u = u10.alloc (.cells #[] 75) := ⟨_, rfl⟩
        have hbb : Below u10.heap.size u10 u11 := by rw [hu11]; exact (Below.refl _ _).alloc (Nat.le_refl _) _
        have HBu11 := Lib.hid (HBu10.out.trans (hbb.mono HBu10.out.size))
        obtain ⟨gu11, hgu11⟩ : ∃ G, G = u10.heap.size := ⟨_, rfl⟩
        have HOu11 : Hid (OwnRow flK u11 w3.heap.size (.slice (some ⟨gu11, 0, none⟩) 0 0) []) := by show OwnRow _ _ _ _ _; rw [hu11, hgu11]; exact ownRow_lit flK_ok u10 _ [] HBu10.out.size (by simp) _ rfl 0 rfl
        have HXu11 := Lib.hid (HXu10.out.keep hbb)
        have HNEu11 : ∀ a, (some (⟨gx, 0, none⟩ : Addr)) = some a → some a.block ≠ (Value.slice (some ⟨gu11, 0, none⟩) 0 0).ownBlock := by
          intro a ha e
          cases ha
          have h1 := HXu10.out.lt (by omega) _ rfl
          simp [Value.ownBlock] at e
          simp at h1
          omega
        rw [← hu11, ← hgu11]
        clear hu11 hgu11 hbb
        have hHeld : (fun (W : World) => W.cell? ⟨kf, 0, none⟩ = some (.slice fad len fcap)) u11 := KS.out _ HBu11.out
        refine hC.out _ _ (fun _ => hHeld) (fun _ => ?_)
        clear hC C
        (try simp only [Act.put, List.setIfInBounds_toArray, List.set_cons_zero, List.set_cons_succ])
        refine wpAnyZ_ready (rs := [8]) (by kernel_rfl) (by simp) ?_
        refine AllReadyZ.cons (o := ⟨_, _, _, _, _, _⟩) rfl (fun C hC => ?_) AllReadyZ.nil
        refine held_row (by rfl) flK_ok (.tmp 34) (.tmp 40) rfl w3.heap.size [] (ms.take i) _ rfl HOu11.out HBu11.out.size fad i fcap rfl (HUR.out.keep HBu11.out) (by rw [List.length_nil]; omega) ?_
        rintro vu12 u12 hap
        have HBu12 : Hid (Below w3.heap.size w3 u12) := HBu11.out.grown hap.2.1 HBu11.out.size fun q hq => (HOu11.out.lt q hq).1
        have HOu12 : Hid (OwnRow flK u12 w3.heap.size vu12 (ms.take i)) := hap.1
        have HXu12 := Lib.hid (HXu11.out.grown hap.2.1 HNEu11)
        clear hap
        have hHeld : (fun (W : World) => W.cell? ⟨kf, 0, none⟩ = some (.slice fad len fcap)) u12 := KS.out _ HBu12.out
        refine hC.out _ _ (fun _ => hHeld) (fun _ => ?_)
        clear hC C
        (try simp only [Act.put, List.setIfInBounds_toArray, List.set_cons_zero, List.set_cons_succ])
        refine wpAnyZ_ready (rs := [12]) (by kernel_rfl) (by simp) ?_
        refine AllReadyZ.cons (o := ⟨_, _, _, _, _, _⟩) rfl (fun C hC => ?_) AllReadyZ.nil
        refine held_row (by rfl) flK_ok (.tmp 41) (.tmp 44) rfl w3.heap.size (ms.take i) [mx] _ rfl HOu12.out HBu12.out.size (some ⟨gx, 0, none⟩) 1 1 rfl HXu12.out (by rw [List.length_take]; omega) ?_
        rintro vu13 u13 hap
        have HBu13 : Hid (Below w3.heap.size w3 u13) := HBu12.out.grown hap.2.1 HBu12.out.size fun q hq => (HOu12.out.lt q hq).1
        have HOu13 : Hid (OwnRow flK u13 w3.heap.size vu13 (ms.take i ++ [mx])) := hap.1
        clear hap
        have hHeld : (fun (W : World) => W.cell? ⟨kf, 0, none⟩ = some (.slice fad len fcap)) u13 := KS.out _ HBu13.out
        refine hC.out _ _ (fun _ => hHeld) (fun _ => ?_)
        clear hC C
        (try simp only [Act.put, List.setIfInBounds_toArray, List.set_cons_zero, List.set_cons_succ])
        refine wpAnyZ_ready (rs := [19]) (by kernel_rfl) (by simp) ?_
        refine AllReadyZ.cons (o := ⟨_, _, _, _, _, _⟩) rfl (fun C hC => ?_) AllReadyZ.nil
        refine held_row (by rfl) flK_ok (.tmp 45) (.tmp 51) rfl w3.heap.size (ms.take i ++ [mx]) (ms.drop i) _ rfl HOu13.out HBu13.out.size fd (len - i) fc rfl (HFR.out.keep HBu13.out) (by rw [List.length_append, List.length_take]; simp; omega) ?_
        rintro vu14 u14 hap
        obtain ⟨ad9, cap9, hv9, _, _⟩ := OwnRow.row2 flK_ok hap.1 (n := len + 1) (by simp; omega)
        subst hv9
        have HBu14 : Hid (Below w3.heap.size w3 u14) := HBu13.out.grown hap.2.1 HBu13.out.size fun q hq => (HOu13.out.lt q hq).1
        have HOu14 : Hid (OwnRow flK u14 w3.heap.size (.slice ad9 (len + 1) cap9) (ms.take i ++ [mx] ++ ms.drop i)) := hap.1
        clear hap
        have hHeld : (fun (W : World) => W.cell? ⟨kf, 0, none⟩ = some (.slice fad len fcap)) u14 := KS.out _ HBu14.out
        refine hC.out _ _ (fun _ => hHeld) (fun _ => ?_)
        clear hC C
        (try simp only [Act.put, List.setIfInBounds_toArray, List.set_cons_zero, List.set_cons_succ])
        refine wpAnyZ_take (i := 20) (oi := ⟨_, _, _, _, _, _⟩) (v := ?_) rfl (by kernel_rfl) (by kernel_rfl) (by kernel_rfl) (by kernel_rfl) (by kernel_rfl) (fun _ _ _ h => h) (Or.inl ⟨by rfl, ?_⟩) (by assumption) ?_
        rotate_left
        · intro W hSw
          (try dsimp only at hSw)
          go_simp
          (try with_reducible rfl)
        (try simp only [Act.put, List.setIfInBounds_toArray, List.set_cons_zero, List.set_cons_succ])
        refine wpAnyZ_take (i := 21) (oi := ⟨_, _, _, _, _, _⟩) (v := ?_) rfl (by kernel_rfl) (by kernel_rfl) (by kernel_rfl) (by kernel_rfl) (by kernel_rfl) (fun _ _ _ h => h) (Or.inl ⟨by rfl, ?_⟩) (by assumption) ?_
        rotate_left
        · intro W hSw
          (try dsimp only at hSw)
          go_simp
          (try with_reducible rfl)
        (try simp only [Act.put, List.setIfInBounds_toArray, List.set_cons_zero, List.set_cons_succ])
        have t0 := (H3.out.box.on HBu14.out).c0
        have t1 := (H3.out.box.on HBu14.out).free 0
        refine wpAnyZ_ready (rs := [22]) (by kernel_rfl) (by simp) ?_
        refine AllReadyZ.cons (o := ⟨_, _, _, _, _, _⟩) rfl (fun C hC => ?_) AllReadyZ.nil
        go_simp
        refine hC.out _ _ (zfree_no (by kernel_rfl)) (fun _ => ?_)
        clear hC C
        (try simp only [Act.put, List.setIfInBounds_toArray, List.set_cons_zero, List.set_cons_succ])
        refine wpAnyZ_done (by kernel_rfl) ?_ _
        refine NoPanic.normal ?_
        obtain ⟨wz, hwz⟩ : ∃ wz, wz = u14.setCell ⟨kf, 0, none⟩ (.slice ad9 (len + 1) cap9) := ⟨_, rfl⟩
        have hkf := H3.out.box.lt
        have HGz : Hid (w3.grownBy wz (some kf)) := by show World.grownBy _ _ _; rw [hwz]; exact grow_set (grow_below (grow_refl w3 _) HBu14.out) 0 _
        have HOz : Hid (OwnRow flK wz w3.heap.size (.slice ad9 (len + 1) cap9) (ms.take i ++ [mx] ++ ms.drop i)) := by show OwnRow _ _ _ _ _; rw [hwz]; exact HOu14.out.off hkf _ _
        have HBz : Hid (FsBox wz kf (.slice ad9 (len + 1) cap9) d.left d.done) := by show FsBox _ _ _ _ _; rw [hwz]; exact (H3.out.box.on HBu14.out).s0 _
        try rw [← hwz]
        clear hwz t0 t1 hHeld
        obtain ⟨msa, hmsa⟩ : ∃ x, x = ms.take i ++ [mx] ++ ms.drop i := ⟨_, rfl⟩
        have HLS : Hid (ListsFs w ms msa) := fun x hx a ha => by
          rw [hmsa] at hx
          rcases List.mem_append.1 hx with h1 | h1
          · rcases List.mem_append.1 h1 with h3 | h3
            · exact .inl ⟨x, List.mem_of_mem_take h3, ha⟩
            · rw [List.mem_singleton.1 h3] at ha
              rw [HMX.out] at ha
              cases ha
          · exact .inl ⟨x, List.mem_of_mem_drop h1, ha⟩
        have HA0 : FsOk wz kf (.slice ad9 (len + 1) cap9) d.left d.done msa := by
          rw [hmsa]
          refine H3.out.laid HGz.out HBz.out HOz.out fun x hx => ?_
          rcases List.mem_append.1 hx with h1 | h1
          · rcases List.mem_append.1 h1 with h2 | h2
            · exact .inl (List.mem_of_mem_take h2)
            · rw [List.mem_singleton.1 h2, HMX.out]
              exact .inr ⟨rowAt_nil _, (fun y hy => by simp at hy), rfl⟩
          · exact .inl (List.mem_of_mem_drop h1)
        have hm : msa[i]? = some mx := by rw [hmsa]; exact ins_at ms i (by omega) mx
        obtain ⟨g, len2, cap, m, hv, hlen2, hm2, _⟩ := fs_open HA0 (List.getElem?_eq_some_iff.1 hm).1
        rw [hm] at hm2
        cases hm2
        cases hv
        obtain ⟨cap, hcap⟩ : ∃ x : Nat, x = cap9 := ⟨_, rfl⟩
        subst hcap
        obtain ⟨wa, hwa⟩ : ∃ x : World, x = wz := ⟨_, rfl⟩
        subst hwa
        obtain ⟨m, hmm⟩ : ∃ x : FM, x = mx := ⟨_, rfl⟩
        subst hmm
        obtain ⟨len2, hl2⟩ : ∃ x, x = len + 1 := ⟨_, rfl⟩
        rw [← hl2] at HA0 ⊢
        have HA := Lib.hid HA0
        have HM := Lib.hid hm
        have hbl1 : m.f.b.length ≤ 1000000000 := by rw [HMX.out]; exact Nat.zero_le _
        have HKA : Hid (KeptFs w wa kf (.slice fad len fcap)) := kept_grown (grow_trans HGW.out HGz.out)
        have HNA : Hid (NewOr w (.slice fad len fcap) (.slice (some ⟨g, 0, none⟩) len2 cap)) := fun q hq => .inr (by rw [hl2] at hq; have := (HOz.out.lt q hq).1; have := HGW.out.size; omega)
        have HBA : Hid (RowAt byteK wa bad blen bcap bs) := row_grown0 HV3.out HGz.out fun a ha h0 e => hbk a ha h0 (Option.some.inj e)
        have HE : Hid (r = (0, ⟨(fls msa).set i { m.f with b := m.f.b ++ bs }, d.left, d.done⟩)) := by
          show r = _
          rw [HR3.out, if_neg (by decide)]
          have e : insF (fls ms) n = fls msa := by
            unfold insF
            rw [HH.out, if_neg (by decide), HI.out, hmsa, fls_ins, HMX.out]
          rw [e]
          unfold turnF
          rw [fls_at hm]
        clear HR3 hm HOz HBz HGz H3 HGW HV3 hup hfr HFR HUR KS HA0 hmsa hl2 hlen2
        have KS2 : Hid (∀ W, Below wa.heap.size wa W → (fun (W : World) => W.cell? ⟨kf, 0, none⟩ = some (.slice (some ⟨g, 0, none⟩) len2 cap) ∧ W.cell? ⟨g, i * 3 + 1, none⟩ = some (.slice m.ad m.f.b.length m.cap)) W) := fun W hW => ⟨((HA.out.keep hW).box).c0, ((HA.out.keep hW).cells HM.out).2.2.2.2.1⟩
        have hdrw : Below wa.heap.size wa wa.drew := (Below.refl _ wa).drew
        have hgw2 := (HA.out.cells HM.out).2.2.1
        have hil4 : i < len2 := by have := (HA.out.cells HM.out).1; have := (List.getElem?_eq_some_iff.1 HM.out).1; omega
        have hwi : (i : Int) < (len2 : Int) := by omega
        have HBR := Lib.hid (HA.out.ins m (List.mem_of_getElem? HM.out))
        go_upto_region 0 with fail
        refine wp_region_noPanic ?_
        refine wp_region_z [19] (fun (W : World) => W.cell? ⟨kf, 0, none⟩ = some (.slice (some ⟨g, 0, none⟩) len2 cap) ∧ W.cell? ⟨g, i * 3 + 1, none⟩ = some (.slice m.ad m.f.b.length m.cap)) (by kernel_rfl) ?_
        have hHeld : (fun (W : World) => W.cell? ⟨kf, 0, none⟩ = some (.slice (some ⟨g, 0, none⟩) len2 cap) ∧ W.cell? ⟨g, i * 3 + 1, none⟩ = some (.slice m.ad m.f.b.length m.cap)) _ := KS2.out _ hdrw
        obtain ⟨x0, hx0⟩ : ∃ u, u = wa.drew := ⟨_, rfl⟩
        rw [← hx0] at hHeld hdrw
        rw [← hx0]
        clear hx0
        have HC0 := Lib.hid hdrw
        clear hdrw
        refine wpAnyZ_take (i := 0) (oi := ⟨_, _, _, _, _, _⟩) (v := ?_) rfl (by kernel_rfl) (by kernel_rfl) (by kernel_rfl) (by kernel_rfl) (by kernel_rfl) (fun _ _ _ h => h) (Or.inl ⟨by rfl, ?_⟩) (by assumption) ?_
        rotate_left
        · intro W hSw
          (try dsimp only at hSw)
          go_simp
          (try with_reducible rfl)
        (try simp only [Act.put, List.setIfInBounds_toArray, List.set_cons_zero, List.set_cons_succ])
        refine wpAnyZ_take (i := 1) (oi := ⟨_, _, _, _, _, _⟩) (v := ?_) rfl (by kernel_rfl) (by kernel_rfl) (by kernel_rfl) (by kernel_rfl) (by kernel_rfl) (fun _ _ _ h => h) (Or.inl ⟨by rfl, ?_⟩) (by assumption) ?_
        rotate_left
        · intro W hSw
          (try dsimp only at hSw)
          go_simp
          (try with_reducible rfl)
        (try simp only [Act.put, List.setIfInBounds_toArray, List.set_cons_zero, List.set_cons_succ])
        refine wpAnyZ_take (i := 2) (oi := ⟨_, _, _, _, _, _⟩) (v := ?_) rfl (by kernel_rfl) (by kernel_rfl) (by kernel_rfl) (by kernel_rfl) (by kernel_rfl) (fun _ _ _ h => h) (Or.inl ⟨by rfl, ?_⟩) (by assumption) ?_
        rotate_left
        · intro W hSw
          (try dsimp only at hSw)
          go_simp
          (try with_reducible rfl)
        (try simp only [Act.put, List.setIfInBounds_toArray, List.set_cons_zero, List.set_cons_succ])
        refine wpAnyZ_take (i := 3) (oi := ⟨_, _, _, _, _, _⟩) (v := ?_) rfl (by kernel_rfl) (by kernel_rfl) (by kernel_rfl) (by kernel_rfl) (by kernel_rfl) (fun _ _ _ h => h) (Or.inl ⟨by rfl, ?_⟩) (by assumption) ?_
        rotate_left
        · intro W hSw
          (try dsimp only at hSw)
          go_simp
          (try with_reducible rfl)
        (try simp only [Act.put, List.setIfInBounds_toArray, List.set_cons_zero, List.set_cons_succ])
        refine wpAnyZ_take (i := 4) (oi := ⟨_, _, _, _, _, _⟩) (v := ?_) rfl (by kernel_rfl) (by kernel_rfl) (by kernel_rfl) (by kernel_rfl) (by kernel_rfl) (fun _ _ _ h => h) (Or.inl ⟨by rfl, ?_⟩) (by assumption) ?_
        rotate_left
        · intro W hSw
          (try dsimp only at hSw)
          go_simp
          (try with_reducible rfl)
        (try simp only [Act.put, List.setIfInBounds_toArray, List.set_cons_zero, List.set_cons_succ])
        refine wpAnyZ_take (i := 6) (oi := ⟨_, _, _, _, _, _⟩) (v := ?_) rfl (by kernel_rfl) (by kernel_rfl) (by kernel_rfl) (by kernel_rfl) (by kernel_rfl) (fun _ _ _ h => h) (Or.inl ⟨by rfl, ?_⟩) (by assumption) ?_
        rotate_left
        · intro W hSw
          (try dsimp only at hSw)
          go_simp
          (try with_reducible rfl)
        (try simp only [Act.put, List.setIfInBounds_toArray, List.set_cons_zero, List.set_cons_succ])
        refine wpAnyZ_take (i := 7) (oi := ⟨_, _, _, _, _, _⟩) (v := ?_) rfl (by kernel_rfl) (by kernel_rfl) (by kernel_rfl) (by kernel_rfl) (by kernel_rfl) (fun _ _ _ h => h) (Or.inl ⟨by rfl, ?_⟩) (by assumption) ?_
        rotate_left
        · intro W hSw
          (try dsimp only at hSw)
          go_simp
          (try with_reducible rfl)
        (try simp only [Act.put, List.setIfInBounds_toArray, List.set_cons_zero, List.set_cons_succ])
        refine wpAnyZ_take (i := 8) (oi := ⟨_, _, _, _, _, _⟩) (v := ?_) rfl (by kernel_rfl) (by kernel_rfl) (by kernel_rfl) (by kernel_rfl) (by kernel_rfl) (fun _ _ _ h => h) (Or.inl ⟨by rfl, ?_⟩) (by assumption) ?_
        rotate_left
        · intro W hSw
          (try dsimp only at hSw)
          go_simp
          (try with_reducible rfl)
        (try simp only [Act.put, List.setIfInBounds_toArray, List.set_cons_zero, List.set_cons_succ])
        refine wpAnyZ_take (i := 9) (oi := ⟨_, _, _, _, _, _⟩) (v := ?_) rfl (by kernel_rfl) (by kernel_rfl) (by kernel_rfl) (by kernel_rfl) (by kernel_rfl) (fun _ _ _ h => h) (Or.inl ⟨by rfl, ?_⟩) (by assumption) ?_
        rotate_left
        · intro W hSw
          (try dsimp only at hSw)
          go_simp
          (try with_reducible rfl)
        (try simp only [Act.put, List.setIfInBounds_toArray, List.set_cons_zero, List.set_cons_succ])
        refine wpAnyZ_take (i := 10) (oi := ⟨_, _, _, _, _, _⟩) (v := ?_) rfl (by kernel_rfl) (by kernel_rfl) (by kernel_rfl) (by kernel_rfl) (by kernel_rfl) (fun _ _ _ h => h) (Or.inl ⟨by rfl, ?_⟩) (by assumption) ?_
        rotate_left
        · intro W hSw
          (try dsimp only at hSw)
          go_simp
          (try with_reducible rfl)
        (try simp only [Act.put, List.setIfInBounds_toArray, List.set_cons_zero, List.set_cons_succ])
        refine wpAnyZ_take (i := 11) (oi := ⟨_, _, _, _, _, _⟩) (v := ?_) rfl (by kernel_rfl) (by kernel_rfl) (by kernel_rfl) (by kernel_rfl) (by kernel_rfl) (fun _ _ _ h => h) (Or.inl ⟨by rfl, ?_⟩) (by assumption) ?_
        rotate_left
        · intro W hSw
          (try dsimp only at hSw)
          go_simp
          (try with_reducible rfl)
        (try simp only [Act.put, List.setIfInBounds_toArray, List.set_cons_zero, List.set_cons_succ])
        refine wpAnyZ_take (i := 12) (oi := ⟨_, _, _, _, _, _⟩) (v := ?_) rfl (by kernel_rfl) (by kernel_rfl) (by kernel_rfl) (by kernel_rfl) (by kernel_rfl) (fun _ _ _ h => h) (Or.inl ⟨by rfl, ?_⟩) (by assumption) ?_
        rotate_left
        · intro W hSw
          (try dsimp only at hSw)
          go_simp
          (try with_reducible rfl)
        (try simp only [Act.put, List.setIfInBounds_toArray, List.set_cons_zero, List.set_cons_succ])
        refine wpAnyZ_take (i := 13) (oi := ⟨_, _, _, _, _, _⟩) (v := ?_) rfl (by kernel_rfl) (by kernel_rfl) (by kernel_rfl) (by kernel_rfl) (by kernel_rfl) (fun _ _ _ h => h) (Or.inl ⟨by rfl, ?_⟩) (by assumption) ?_
        rotate_left
        · intro W hSw
          (try dsimp only at hSw)
          go_simp
          (try with_reducible rfl)
        (try simp only [Act.put, List.setIfInBounds_toArray, List.set_cons_zero, List.set_cons_succ])
        refine wpAnyZ_take (i := 15) (oi := ⟨_, _, _, _, _, _⟩) (v := ?_) rfl (by kernel_rfl) (by kernel_rfl) (by kernel_rfl) (by kernel_rfl) (by kernel_rfl) (fun _ _ _ h => h) (Or.inl ⟨by rfl, ?_⟩) (by assumption) ?_
        rotate_left
        · intro W hSw
          (try dsimp only at hSw)
          go_simp
          (try with_reducible rfl)
        (try simp only [Act.put, List.setIfInBounds_toArray, List.set_cons_zero, List.set_cons_succ])
        refine wpAnyZ_ready (rs := [5]) (by kernel_rfl) (by simp) ?_
        refine AllReadyZ.cons (o := ⟨_, _, _, _, _, _⟩) rfl (fun C hC => ?_) AllReadyZ.nil
        go_simp
        obtain ⟨x1, hx1⟩ : ∃ u, u = x0.alloc (.cells #[] 5) := ⟨_, rfl⟩
        have hbb : Below x0.heap.size x0 x1 := by rw [hx1]; exact (Below.refl _ _).alloc (Nat.le_refl _) _
        have HC1 := Lib.hid (HC0.out.trans (hbb.mono HC0.out.size))
        obtain ⟨g1, hg1⟩ : ∃ G, G = x0.heap.size := ⟨_, rfl⟩
        have HY1 : Hid (OwnRow byteK x1 wa.heap.size (.slice (some ⟨g1, 0, none⟩) 0 0) []) := by show OwnRow _ _ _ _ _; rw [hx1, hg1]; exact ownRow_lit byteK_ok x0 _ [] HC0.out.size (by simp) _ rfl 0 rfl
        rw [← hx1, ← hg1]
        clear hx1 hg1 hbb
        have hHeld : (fun (W : World) => W.cell? ⟨kf, 0, none⟩ = some (.slice (some ⟨g, 0, none⟩) len2 cap) ∧ W.cell? ⟨g, i * 3 + 1, none⟩ = some (.slice m.ad m.f.b.length m.cap)) x1 := KS2.out _ HC1.out
        refine hC.out _ _ (fun _ => hHeld) (fun _ => ?_)
        clear hC C
        (try simp only [Act.put, List.setIfInBounds_toArray, List.set_cons_zero, List.set_cons_succ])
        refine wpAnyZ_ready (rs := [14]) (by kernel_rfl) (by simp) ?_
        refine AllReadyZ.cons (o := ⟨_, _, _, _, _, _⟩) rfl (fun C hC => ?_) AllReadyZ.nil
        refine held_row (by rfl) byteK_ok (.tmp 60) (.tmp 68) rfl wa.heap.size [] m.f.b _ rfl HY1.out HC1.out.size m.ad m.f.b.length m.cap rfl (HBR.out.1.keep HC1.out) (by rw [List.length_nil]; omega) ?_
        rintro vx2 x2 hap
        have HC2 : Hid (Below wa.heap.size wa x2) := HC1.out.grown hap.2.1 HC1.out.size fun q hq => (HY1.out.lt q hq).1
        have HY2 : Hid (OwnRow byteK x2 wa.heap.size vx2 m.f.b) := hap.1
        clear hap
        have hHeld : (fun (W : World) => W.cell? ⟨kf, 0, none⟩ = some (.slice (some ⟨g, 0, none⟩) len2 cap) ∧ W.cell? ⟨g, i * 3 + 1, none⟩ = some (.slice m.ad m.f.b.length m.cap)) x2 := KS2.out _ HC2.out
        refine hC.out _ _ (fun _ => hHeld) (fun _ => ?_)
        clear hC C
        (try simp only [Act.put, List.setIfInBounds_toArray, List.set_cons_zero, List.set_cons_succ])
        refine wpAnyZ_ready (rs := [16]) (by kernel_rfl) (by simp) ?_
        refine AllReadyZ.cons (o := ⟨_, _, _, _, _, _⟩) rfl (fun C hC => ?_) AllReadyZ.nil
        refine held_row (by rfl) byteK_ok (.tmp 69) (.tmp 70) rfl wa.heap.size m.f.b bs _ rfl HY2.out HC2.out.size bad blen bcap rfl (HBA.out.keep HC2.out) (by omega) ?_
        rintro vx3 x3 hap
        have hlt : (m.f.b ++ bs).length = m.f.b.length + blen := by rw [List.length_append, HBA.out.length]
        obtain ⟨ad1, cap1, hv3, hr1, hat1⟩ := OwnRow.row2 byteK_ok hap.1 hlt
        subst hv3
        have HC3 : Hid (Below wa.heap.size wa x3) := HC2.out.grown hap.2.1 HC2.out.size fun q hq => (HY2.out.lt q hq).1
        have HRW : Hid (RowAt byteK x3 ad1 (m.f.b.length + blen) cap1 (m.f.b ++ bs)) := hr1
        have HAD : Hid (∀ a, ad1 = some a → wa.heap.size ≤ a.block ∧ a.block < x3.heap.size) := hat1
        clear hap hr1 hat1
        have hHeld : (fun (W : World) => W.cell? ⟨kf, 0, none⟩ = some (.slice (some ⟨g, 0, none⟩) len2 cap) ∧ W.cell? ⟨g, i * 3 + 1, none⟩ = some (.slice m.ad m.f.b.length m.cap)) x3 := KS2.out _ HC3.out
        refine hC.out _ _ (fun _ => hHeld) (fun _ => ?_)
        clear hC C
        (try simp only [Act.put, List.setIfInBounds_toArray, List.set_cons_zero, List.set_cons_succ])
        refine wpAnyZ_take (i := 17) (oi := ⟨_, _, _, _, _, _⟩) (v := ?_) rfl (by kernel_rfl) (by kernel_rfl) (by kernel_rfl) (by kernel_rfl) (by kernel_rfl) (fun _ _ _ h => h) (Or.inl ⟨by rfl, ?_⟩) (by assumption) ?_
        rotate_left
        · intro W hSw
          (try dsimp only at hSw)
          go_simp
          (try with_reducible rfl)
        (try simp only [Act.put, List.setIfInBounds_toArray, List.set_cons_zero, List.set_cons_succ])
        refine wpAnyZ_take (i := 18) (oi := ⟨_, _, _, _, _, _⟩) (v := ?_) rfl (by kernel_rfl) (by kernel_rfl) (by kernel_rfl) (by kernel_rfl) (by kernel_rfl) (fun _ _ _ h => h) (Or.inl ⟨by rfl, ?_⟩) (by assumption) ?_
        rotate_left
        · intro W hSw
          (try dsimp only at hSw)
          go_simp
          (try with_reducible rfl)
        (try simp only [Act.put, List.setIfInBounds_toArray, List.set_cons_zero, List.set_cons_succ])
        have t0 := ((HA.out.keep HC3.out).cells HM.out).2.2.2.2.1
        have t1 := ((HA.out.keep HC3.out).cells HM.out).2.2.2.2.2.2 (i * 3 + 1)
        refine wpAnyZ_ready (rs := [19]) (by kernel_rfl) (by simp) ?_
        refine AllReadyZ.cons (o := ⟨_, _, _, _, _, _⟩) rfl (fun C hC => ?_) AllReadyZ.nil
        go_simp
        refine hC.out _ _ (zfree_no (by kernel_rfl)) (fun _ => ?_)
        clear hC C
        (try simp only [Act.put, List.setIfInBounds_toArray, List.set_cons_zero, List.set_cons_succ])
        refine wpAnyZ_done (by kernel_rfl) ?_ _
        refine NoPanic.normal ?_
        obtain ⟨wy, hwy⟩ : ∃ wy, wy = x3.setCell ⟨g, i * 3 + 1, none⟩ (.slice ad1 (m.f.b.length + blen) cap1) := ⟨_, rfl⟩
        have H7 := HA.out.keep HC3.out
        have HOY : Hid (FsOk wy kf (.slice (some ⟨g, 0, none⟩) len2 cap) d.left d.done (msa.set i ⟨{ m.f with b := m.f.b ++ bs }, ad1, cap1⟩)) := by
          show FsOk _ _ _ _ _ _
          rw [hwy]
          exact H7.stored HM.out 1 _ (by omega) (by simp [flK, HBA.out.length]) (by rw [hlt]; exact HRW.out) (fun x hx => (List.mem_append.1 hx).elim (HBR.out.2 x) (hball x)) fun a ha => ⟨by have := (HAD.out a ha).1; have := HA.out.box.lt; omega, (HAD.out a ha).2, fun e => by have := (HAD.out a ha).1; omega⟩
        have HKY : Hid (KeptFs wa wy kf (.slice (some ⟨g, 0, none⟩) len2 cap)) := by
          show KeptFs _ _ _ _
          rw [hwy]
          exact (kept_grown (grow_below (grow_refl wa _) HC3.out)).trans (newOr_refl _ _) (kept_store x3 kf g len2 cap _ _)
        try rw [← hwy]
        clear hwy t0 t1 hHeld H7
        go_wp2
        go_ret
        exact gives_fs HE.out HOY.out (fls_set _ _ _) (HKA.out.trans HNA.out HKY.out) HNA.out (lists_then HLS.out fun a ha => Nat.le_trans HKA.out.size (HAD.out a ha).1)
  · clear hful
    go_wp2_with fail
    refine (deed_any w1 kf _ left done H1.out.box hd0 hd1 hl0 hl1 (fls ms)).mono ?_
    rintro e w3 ⟨rfl, HBX2, HG2⟩
    have H3 := Lib.hid (H1.out.turned HG2.out HBX2.out)
    have HGW := Lib.hid (grow_trans (grow_below (grow_refl w (some kf)) HB1.out) HG2.out)
    have HV3 : Hid (RowAt byteK w3 bad blen bcap bs) := row_grown0 HV1.out HG2.out fun a ha h0 e => hbk a ha h0 (Option.some.inj e)
    obtain ⟨d, hdd⟩ : ∃ d, deedF ⟨fls ms, left, done⟩ = d := ⟨_, rfl⟩
    obtain ⟨q, hq⟩ : ∃ q, mayF ⟨fls ms, left, done⟩ = q := ⟨_, rfl⟩
    have hqd : q = false → d = ⟨fls ms, left, done⟩ := fun h => by
      rw [← hdd]
      rw [h] at hq
      unfold mayF at hq
      unfold deedF
      rw [if_pos (by simpa using hq)]
    have HRR := HR2.out
    rw [hdd, hq] at HRR
    have HR3 := Lib.hid HRR
    have HQD := Lib.hid hqd
    rw [hdd] at H3
    rw [hq]
    clear HRR HR2 hqd hdd hq HBX2 HG2 H1 t0 HV1 HB1
    cases q
    · have HE : Hid (r = (0, ⟨fls ms, left, done⟩)) := by show r = _; rw [HR3.out, if_pos rfl]
      have hd := HQD.out rfl
      have H4 : Hid (FsOk w3 kf (.slice fad len fcap) left done ms) := by have := H3.out; rw [hd] at this; exact this
      clear HR3 HQD hd H3
      go_wp2
      go_ret
      exact gives_fs HE.out H4.out rfl (kept_grown HGW.out) (newOr_refl _ _) (lists_refl _ _)
    · obtain ⟨g, len2, cap, m, hv, hlen2, hm, _⟩ := fs_open H3.out (by
        have h1 := HH.out
        obtain ⟨m, hm, _⟩ := has_len h1
        rw [HI.out] at hm
        exact (List.getElem?_eq_some_iff.1 hm).1)
      cases hv
      obtain ⟨cap, hcap⟩ : ∃ x : Nat, x = fcap := ⟨_, rfl⟩
      subst hcap
      obtain ⟨wa, hwa⟩ : ∃ x : World, x = w3 := ⟨_, rfl⟩
      subst hwa
      obtain ⟨msa, hmsa⟩ : ∃ x, x = ms := ⟨_, rfl⟩
      have HLS : Hid (ListsFs w ms msa) := by show ListsFs _ _ _; rw [hmsa]; exact lists_refl _ _
      subst hmsa
      have HA := H3
      have HM := Lib.hid hm
      have hbl1 := HBB.out m (List.mem_of_getElem? hm)
      have HKA : Hid (KeptFs w wa kf (.slice (some ⟨g, 0, none⟩) len cap)) := kept_grown HGW.out
      have HNA : Hid (NewOr w (.slice (some ⟨g, 0, none⟩) len cap) (.slice (some ⟨g, 0, none⟩) len cap)) := newOr_refl _ _
      have HBA := HV3
      have HE : Hid (r = (0, ⟨(fls msa).set i { m.f with b := m.f.b ++ bs }, d.left, d.done⟩)) := by
        show r = _
        rw [HR3.out, if_neg (by decide)]
        unfold insF
        rw [HH.out, if_pos rfl]
        unfold turnF
        rw [fls_at hm]
      clear HR3 hm hlen2
      have KS2 : Hid (∀ W, Below wa.heap.size wa W → (fun (W : World) => W.cell? ⟨kf, 0, none⟩ = some (.slice (some ⟨g, 0, none⟩) len cap) ∧ W.cell? ⟨g, i * 3 + 1, none⟩ = some (.slice m.ad m.f.b.length m.cap)) W) := fun W hW => ⟨((HA.out.keep hW).box).c0, ((HA.out.keep hW).cells HM.out).2.2.2.2.1⟩
      have hdrw : Below wa.heap.size wa wa.drew := (Below.refl _ wa).drew
      have hgw2 := (HA.out.cells HM.out).2.2.1
      have hil4 : i < len := by have := (HA.out.cells HM.out).1; have := (List.getElem?_eq_some_iff.1 HM.out).1; omega
      have hwi : (i : Int) < (len : Int) := by omega
      have HBR := Lib.hid (HA.out.ins m (List.mem_of_getElem? HM.out))
      go_upto_region 0 with fail
      refine wp_region_noPanic ?_
      refine wp_region_z [19] (fun (W : World) => W.cell? ⟨kf, 0, none⟩ = some (.slice (some ⟨g, 0, none⟩) len cap) ∧ W.cell? ⟨g, i * 3 + 1, none⟩ = some (.slice m.ad m.f.b.length m.cap)) (by kernel_rfl) ?_
      have hHeld : (fun (W : World) => W.cell? ⟨kf, 0, none⟩ = some (.slice (some ⟨g, 0, none⟩) len cap) ∧ W.cell? ⟨g, i * 3 + 1, none⟩ = some (.slice m.ad m.f.b.length m.cap)) _ := KS2.out _ hdrw
      obtain ⟨x0, hx0⟩ : ∃ u, u = wa.drew := ⟨_, rfl⟩
      rw [← hx0] at hHeld hdrw
      rw [← hx0]
      clear hx0
      have HC0 := Lib.hid hdrw
      clear hdrw
      refine wpAnyZ_take (i := 0) (oi := ⟨_, _, _, _, _, _⟩) (v := ?_) rfl (by kernel_rfl) (by kernel_rfl) (by kernel_rfl) (by kernel_rfl) (by kernel_rfl) (fun _ _ _ h => h) (Or.inl ⟨by rfl, ?_⟩) (by assumption) ?_
      rotate_left
      · intro W hSw
        (try dsimp only at hSw)
        go_simp
        (try with_reducible rfl)
      (try simp only [Act.put, List.setIfInBounds_toArray, List.set_cons_zero, List.set_cons_succ])
      refine wpAnyZ_take (i := 1) (oi := ⟨_, _, _, _, _, _⟩) (v := ?_) rfl (by kernel_rfl) (by kernel_rfl) (by kernel_rfl) (by kernel_rfl) (by kernel_rfl) (fun _ _ _ h => h) (Or.inl ⟨by rfl, ?_⟩) (by assumption) ?_
      rotate_left
      · intro W hSw
        (try dsimp only at hSw)
        go_simp
        (try with_reducible rfl)
      (try simp only [Act.put, List.setIfInBounds_toArray, List.set_cons_zero, List.set_cons_succ])
      refine wpAnyZ_take (i := 2) (oi := ⟨_, _, _, _, _, _⟩) (v := ?_) rfl (by kernel_rfl) (by kernel_rfl) (by kernel_rfl) (by kernel_rfl) (by kernel_rfl) (fun _ _ _ h => h) (Or.inl ⟨by rfl, ?_⟩) (by assumption) ?_
      rotate_left
      · intro W hSw
        (try dsimp only at hSw)
        go_simp
        (try with_reducible rfl)
      (try simp only [Act.put, List.setIfInBounds_toArray, List.set_cons_zero, List.set_cons_succ])
      refine wpAnyZ_take (i := 3) (oi := ⟨_, _, _, _, _, _⟩) (v := ?_) rfl (by kernel_rfl) (by kernel_rfl) (by kernel_rfl) (by kernel_rfl) (by kernel_rfl) (fun _ _ _ h => h) (Or.inl ⟨by rfl, ?_⟩) (by assumption) ?_
      rotate_left
      · intro W hSw
        (try dsimp only at hSw)
        go_simp
        (try with_reducible rfl)
      (try simp only [Act.put, List.setIfInBounds_toArray, List.set_cons_zero, List.set_cons_succ])
      refine wpAnyZ_take (i := 4) (oi := ⟨_, _, _, _, _, _⟩) (v := ?_) rfl (by kernel_rfl) (by kernel_rfl) (by kernel_rfl) (by kernel_rfl) (by kernel_rfl) (fun _ _ _ h => h) (Or.inl ⟨by rfl, ?_⟩) (by assumption) ?_
      rotate_left
      · intro W hSw
        (try dsimp only at hSw)
        go_simp
        (try with_reducible rfl)
      (try simp only [Act.put, List.setIfInBounds_toArray, List.set_cons_zero, List.set_cons_succ])
      refine wpAnyZ_take (i := 6) (oi := ⟨_, _, _, _, _, _⟩) (v := ?_) rfl (by kernel_rfl) (by kernel_rfl) (by kernel_rfl) (by kernel_rfl) (by kernel_rfl) (fun _ _ _ h => h) (Or.inl ⟨by rfl, ?_⟩) (by assumption) ?_
      rotate_left
      · intro W hSw
        (try dsimp only at hSw)
        go_simp
        (try with_reducible rfl)
      (try simp only [Act.put, List.setIfInBounds_toArray, List.set_cons_zero, List.set_cons_succ])
      refine wpAnyZ_take (i := 7) (oi := ⟨_, _, _, _, _, _⟩) (v := ?_) rfl (by kernel_rfl) (by kernel_rfl) (by kernel_rfl) (by kernel_rfl) (by kernel_rfl) (fun _ _ _ h => h) (Or.inl ⟨by rfl, ?_⟩) (by assumption) ?_
      rotate_left
      · intro W hSw
        (try dsimp only at hSw)
        go_simp
        (try with_reducible rfl)
      (try simp only [Act.put, List.setIfInBounds_toArray, List.set_cons_zero, List.set_cons_succ])
      refine wpAnyZ_take (i := 8) (oi := ⟨_, _, _, _, _, _⟩) (v := ?_) rfl (by kernel_rfl) (by kernel_rfl) (by kernel_rfl) (by kernel_rfl) (by kernel_rfl) (fun _ _ _ h => h) (Or.inl ⟨by rfl, ?_⟩) (by assumption) ?_
      rotate_left
      · intro W hSw
        (try dsimp only at hSw)
        go_simp
        (try with_reducible rfl)
      (try simp only [Act.put, List.setIfInBounds_toArray, List.set_cons_zero, List.set_cons_succ])
      refine wpAnyZ_take (i := 9) (oi := ⟨_, _, _, _, _, _⟩) (v := ?_) rfl (by kernel_rfl) (by kernel_rfl) (by kernel_rfl) (by kernel_rfl) (by kernel_rfl) (fun _ _ _ h => h) (Or.inl ⟨by rfl, ?_⟩) (by assumption) ?_
      rotate_left
      · intro W hSw
        (try dsimp only at hSw)
        go_simp
        (try with_reducible rfl)
      (try simp only [Act.put, List.setIfInBounds_toArray, List.set_cons_zero, List.set_cons_succ])
      refine wpAnyZ_take (i := 10) (oi := ⟨_, _, _, _, _, _⟩) (v := ?_) rfl (by kernel_rfl) (by kernel_rfl) (by kernel_rfl) (by kernel_rfl) (by kernel_rfl) (fun _ _ _ h => h) (Or.inl ⟨by rfl, ?_⟩) (by assumption) ?_
      rotate_left
      · intro W hSw
        (try dsimp only at hSw)
        go_simp
        (try with_reducible rfl)
      (try simp only [Act.put, List.setIfInBounds_toArray, List.set_cons_zero, List.set_cons_succ])
      refine wpAnyZ_take (i := 11) (oi := ⟨_, _, _, _, _, _⟩) (v := ?_) rfl (by kernel_rfl) (by kernel_rfl) (by kernel_rfl) (by kernel_rfl) (by kernel_rfl) (fun _ _ _ h => h) (Or.inl ⟨by rfl, ?_⟩) (by assumption) ?_
      rotate_left
      · intro W hSw
        (try dsimp only at hSw)
        go_simp
        (try with_reducible rfl)
      (try simp only [Act.put, List.setIfInBounds_toArray, List.set_cons_zero, List.set_cons_succ])
      refine wpAnyZ_take (i := 12) (oi := ⟨_, _, _, _, _, _⟩) (v := ?_) rfl (by kernel_rfl) (by kernel_rfl) (by kernel_rfl) (by kernel_rfl) (by kernel_rfl) (fun _ _ _ h => h) (Or.inl ⟨by rfl, ?_⟩) (by assumption) ?_
      rotate_left
      · intro W hSw
        (try dsimp only at hSw)
        go_simp
        (try with_reducible rfl)
      (try simp only [Act.put, List.setIfInBounds_toArray, List.set_cons_zero, List.set_cons_succ])
      refine wpAnyZ_take (i := 13) (oi := ⟨_, _, _, _, _, _⟩) (v := ?_) rfl (by kernel_rfl) (by kernel_rfl) (by kernel_rfl) (by kernel_rfl) (by kernel_rfl) (fun _ _ _ h => h) (Or.inl ⟨by rfl, ?_⟩) (by assumption) ?_
      rotate_left
      · intro W hSw
        (try dsimp only at hSw)
        go_simp
        (try with_reducible rfl)
      (try simp only [Act.put, List.setIfInBounds_toArray, List.set_cons_zero, List.set_cons_succ])
      refine wpAnyZ_take (i := 15) (oi := ⟨_, _, _, _, _, _⟩) (v := ?_) rfl (by kernel_rfl) (by kernel_rfl) (by kernel_rfl) (by kernel_rfl) (by kernel_rfl) (fun _ _ _ h => h) (Or.inl ⟨by rfl, ?_⟩) (by assumption) ?_
      rotate_left
      · intro W hSw
        (try dsimp only at hSw)
        go_simp
        (try with_reducible rfl)
      (try simp only [Act.put, List.setIfInBounds_toArray, List.set_cons_zero, List.set_cons_succ])
      refine wpAnyZ_ready (rs := [5]) (by kernel_rfl) (by simp) ?_
      refine AllReadyZ.cons (o := ⟨_, _, _, _, _, _⟩) rfl (fun C hC => ?_) AllReadyZ.nil
      go_simp
      obtain ⟨x1, hx1⟩ : ∃ u, u = x0.alloc (.cells #[] 5) := ⟨_, rfl⟩
      have hbb : Below x0.heap.size x0 x1 := by rw [hx1]; exact (Below.refl _ _).alloc (Nat.le_refl _) _
      have HC1 := Lib.hid (HC0.out.trans (hbb.mono HC0.out.size))
      obtain ⟨g1, hg1⟩ : ∃ G, G = x0.heap.size := ⟨_, rfl⟩
      have HY1 : Hid (OwnRow byteK x1 wa.heap.size (.slice (some ⟨g1, 0, none⟩) 0 0) []) := by show OwnRow _ _ _ _ _; rw [hx1, hg1]; exact ownRow_lit byteK_ok x0 _ [] HC0.out.size (by simp) _ rfl 0 rfl
      rw [← hx1, ← hg1]
      clear hx1 hg1 hbb
      have hHeld : (fun (W : World) => W.cell? ⟨kf, 0, none⟩ = some (.slice (some ⟨g, 0, none⟩) len cap) ∧ W.cell? ⟨g, i * 3 + 1, none⟩ = some (.slice m.ad m.f.b.length m.cap)) x1 := KS2.out _ HC1.out
      refine hC.out _ _ (fun _ => hHeld) (fun _ => ?_)
      clear hC C
      (try simp only [Act.put, List.setIfInBounds_toArray, List.set_cons_zero, List.set_cons_succ])
      refine wpAnyZ_ready (rs := [14]) (by kernel_rfl) (by simp) ?_
      refine AllReadyZ.cons (o := ⟨_, _, _, _, _, _⟩) rfl (fun C hC => ?_) AllReadyZ.nil
      refine held_row (by rfl) byteK_ok (.tmp 60) (.tmp 68) rfl wa.heap.size [] m.f.b _ rfl HY1.out HC1.out.size m.ad m.f.b.length m.cap rfl (HBR.out.1.keep HC1.out) (by rw [List.length_nil]; omega) ?_
      rintro vx2 x2 hap
      have HC2 : Hid (Below wa.heap.size wa x2) := HC1.out.grown hap.2.1 HC1.out.size fun q hq => (HY1.out.lt q hq).1
      have HY2 : Hid (OwnRow byteK x2 wa.heap.size vx2 m.f.b) := hap.1
      clear hap
      have hHeld : (fun (W : World) => W.cell? ⟨kf, 0, none⟩ = some (.slice (some ⟨g, 0, none⟩) len cap) ∧ W.cell? ⟨g, i * 3 + 1, none⟩ = some (.slice m.ad m.f.b.length m.cap)) x2 := KS2.out _ HC2.out
      refine hC.out _ _ (fun _ => hHeld) (fun _ => ?_)
      clear hC C
      (try simp only [Act.put, List.setIfInBounds_toArray, List.set_cons_zero, List.set_cons_succ])
      refine wpAnyZ_ready (rs := [16]) (by kernel_rfl) (by simp) ?_
      refine AllReadyZ.cons (o := ⟨_, _, _, _, _, _⟩) rfl (fun C hC => ?_) AllReadyZ.nil
      refine held_row (by rfl) byteK_ok (.tmp 69) (.tmp 70) rfl wa.heap.size m.f.b bs _ rfl HY2.out HC2.out.size bad blen bcap rfl (HBA.out.keep HC2.out) (by omega) ?_
      rintro vx3 x3 hap
      have hlt : (m.f.b ++ bs).length = m.f.b.length + blen := by rw [List.length_append, HBA.out.length]
      obtain ⟨ad1, cap1, hv3, hr1, hat1⟩ := OwnRow.row2 byteK_ok hap.1 hlt
      subst hv3
      have HC3 : Hid (Below wa.heap.size wa x3) := HC2.out.grown hap.2.1 HC2.out.size fun q hq => (HY2.out.lt q hq).1
      have HRW : Hid (RowAt byteK x3 ad1 (m.f.b.length + blen) cap1 (m.f.b ++ bs)) := hr1
      have HAD : Hid (∀ a, ad1 = some a → wa.heap.size ≤ a.block ∧ a.block < x3.heap.size) := hat1
      clear hap hr1 hat1
      have hHeld : (fun (W : World) => W.cell? ⟨kf, 0, none⟩ = some (.slice (some ⟨g, 0, none⟩) len cap) ∧ W.cell? ⟨g, i * 3 + 1, none⟩ = some (.slice m.ad m.f.b.length m.cap)) x3 := KS2.out _ HC3.out
      refine hC.out _ _ (fun _ => hHeld) (fun _ => ?_)
      clear hC C
      (try simp only [Act.put, List.setIfInBounds_toArray, List.set_cons_zero, List.set_cons_succ])
      refine wpAnyZ_take (i := 17) (oi := ⟨_, _, _, _, _, _⟩) (v := ?_) rfl (by kernel_rfl) (by kernel_rfl) (by kernel_rfl) (by kernel_rfl) (by kernel_rfl) (fun _ _ _ h => h) (Or.inl ⟨by rfl, ?_⟩) (by assumption) ?_
      rotate_left
      · intro W hSw
        (try dsimp only at hSw)
        go_simp
        (try with_reducible rfl)
      (try simp only [Act.put, List.setIfInBounds_toArray, List.set_cons_zero, List.set_cons_succ])
      refine wpAnyZ_take (i := 18) (oi := ⟨_, _, _, _, _, _⟩) (v := ?_) rfl (by kernel_rfl) (by kernel_rfl) (by kernel_rfl) (by kernel_rfl) (by kernel_rfl) (fun _ _ _ h => h) (Or.inl ⟨by rfl, ?_⟩) (by assumption) ?_
      rotate_left
      · intro W hSw
        (try dsimp only at hSw)
        go_simp
        (try with_reducible rfl)
      (try simp only [Act.put, List.setIfInBounds_toArray, List.set_cons_zero, List.set_cons_succ])
      have t0 := ((HA.out.keep HC3.out).cells HM.out).2.2.2.2.1
      have t1 := ((HA.out.keep HC3.out).cells HM.out).2.2.2.2.2.2 (i * 3 + 1)
      refine wpAnyZ_ready (rs := [19]) (by kernel_rfl) (by simp) ?_
      refine AllReadyZ.cons (o := ⟨_, _, _, _, _, _⟩) rfl (fun C hC => ?_) AllReadyZ.nil
      go_simp
      refine hC.out _ _ (zfree_no (by kernel_rfl)) (fun _ => ?_)
      clear hC C
      (try simp only [Act.put, List.setIfInBounds_toArray, List.set_cons_zero, List.set_cons_succ])
      refine wpAnyZ_done (by kernel_rfl) ?_ _
      refine NoPanic.normal ?_
      obtain ⟨wy, hwy⟩ : ∃ wy, wy = x3.setCell ⟨g, i * 3 + 1, none⟩ (.slice ad1 (m.f.b.length + blen) cap1) := ⟨_, rfl⟩
      have H7 := HA.out.keep HC3.out
      have HOY : Hid (FsOk wy kf (.slice (some ⟨g, 0, none⟩) len cap) d.left d.done (msa.set i ⟨{ m.f with b := m.f.b ++ bs }, ad1, cap1⟩)) := by
        show FsOk _ _ _ _ _ _
        rw [hwy]
        exact H7.stored HM.out 1 _ (by omega) (by simp [flK, HBA.out.length]) (by rw [hlt]; exact HRW.out) (fun x hx => (List.mem_append.1 hx).elim (HBR.out.2 x) (hball x)) fun a ha => ⟨by have := (HAD.out a ha).1; have := HA.out.box.lt; omega, (HAD.out a ha).2, fun e => by have := (HAD.out a ha).1; omega⟩
      have HKY : Hid (KeptFs wa wy kf (.slice (some ⟨g, 0, none⟩) len cap)) := by
        show KeptFs _ _ _ _
        rw [hwy]
        exact (kept_grown (grow_below (grow_refl wa _) HC3.out)).trans (newOr_refl _ _) (kept_store x3 kf g len cap _ _)
      try rw [← hwy]
      clear hwy t0 t1 hHeld H7
      go_wp2
      go_ret
      exact gives_fs HE.out HOY.out (fls_set _ _ _) (HKA.out.trans HNA.out HKY.out) HNA.out (lists_then HLS.out fun a ha => Nat.le_trans HKA.out.size (HAD.out a ha).1)
end Go.Proofs.YtjocfkkcnkpjdaaDoor
