/- Chapter 7's own files: a file system that holds together; drop, Remove. -/
import Derived.Test.YtjocfkkcnkpjdaaDoorFsAt
namespace Go.Proofs.YtjocfkkcnkpjdaaDoor
open Go.RowKit
open Go.RuneMath
open Go.FsMath
set_option linter.unusedVariables false

theorem OwnRow.row2 {α : Type} {K : Kind α} {bytes : Nat} {w : World} (hK : K.Ok bytes) {base n : Nat} {v : Value} {l : List α} (h : OwnRow K w base v l) (hn : l.length = n) : ∃ ad cap, v = .slice ad n cap ∧ RowAt K w ad n cap l ∧ (∀ a, ad = some a → base ≤ a.block ∧ a.block < w.heap.size) := OwnRow.row hK h hn
/-- A file system: its files in a row of its own, their bytes elsewhere. -/
structure FsOk (w : World) (kf : Nat) (v : Value) (left done : Int) (ms : List FM) : Prop where
  box : FsBox w kf v left done
  row : OwnRow flK w (kf + 1) v ms
  ins : ∀ m ∈ ms, RowAt byteK w m.ad m.f.b.length m.cap m.f.b ∧ AllB m.f.b
  apart : ∀ m ∈ ms, ∀ a, m.ad = some a → kf < a.block ∧ a.block < w.heap.size ∧ v.ownBlock ≠ some a.block
theorem FsOk.keep {w w' : World} {kf : Nat} {v : Value} {left done : Int} {ms : List FM} (h : FsOk w kf v left done ms) (hb : Below w.heap.size w w') : FsOk w' kf v left done ms :=
  ⟨h.box.on hb, h.row.on hb, fun m hm => ⟨(h.ins m hm).1.keep hb, (h.ins m hm).2⟩, fun m hm a ha => ⟨(h.apart m hm a ha).1, Nat.lt_of_lt_of_le (h.apart m hm a ha).2.1 hb.size, (h.apart m hm a ha).2.2⟩⟩
/-- The box alone has turned. -/
theorem FsOk.turned {w w' : World} {kf : Nat} {v : Value} {left done left' done' : Int} {ms : List FM} (h : FsOk w kf v left done ms) (hg : w.grownBy w' (some kf)) (hb : FsBox w' kf v left' done') : FsOk w' kf v left' done' ms :=
  ⟨hb, h.row.grown hg (fun q hq e => by have := (h.row.lt q hq).1; cases e; omega), fun m hm => ⟨(h.ins m hm).1.grown hg fun a ha e => by have := (h.apart m hm a ha).1; cases e; omega, (h.ins m hm).2⟩, fun m hm a ha => ⟨(h.apart m hm a ha).1, Nat.lt_of_lt_of_le (h.apart m hm a ha).2.1 hg.size, (h.apart m hm a ha).2.2⟩⟩
/-- A new row of files stands in the box. -/
theorem FsOk.laid {w w' : World} {kf : Nat} {v v' : Value} {left done left' done' : Int} {ms ms' : List FM} (h : FsOk w kf v left done ms) (hg : w.grownBy w' (some kf)) (hb : FsBox w' kf v' left' done') (hr : OwnRow flK w' w.heap.size v' ms') (hm : ∀ m ∈ ms', m ∈ ms ∨ (RowAt byteK w' m.ad m.f.b.length m.cap m.f.b ∧ AllB m.f.b ∧ m.ad = none)) : FsOk w' kf v' left' done' ms' := by
  have hlt := h.box.lt
  refine ⟨hb, hr.low (by omega), fun m hmm => ?_, fun m hmm a ha => ?_⟩
  · rcases hm m hmm with h1 | h1
    · exact ⟨(h.ins m h1).1.grown hg fun a ha e => by have := (h.apart m h1 a ha).1; cases e; omega, (h.ins m h1).2⟩
    · exact ⟨h1.1, h1.2.1⟩
  · rcases hm m hmm with h1 | h1
    · have h2 := h.apart m h1 a ha
      refine ⟨h2.1, Nat.lt_of_lt_of_le h2.2.1 hg.size, fun e => ?_⟩
      have := (hr.lt _ e).1
      omega
    · rw [h1.2.2] at ha; cases ha
def Drops (w : World) (kf : Nat) (left done : Int) (ms : List FM) (e : Ending) (w' : World) : Prop := e = .returned (.tuple #[]) ∧ ∃ v, FsOk w' kf v left done ms ∧ w.grownBy w' (some kf) ∧ ∀ q, v.ownBlock = some q → w.heap.size ≤ q
set_option maxRecDepth 100000 in
set_option maxHeartbeats 4000000 in
theorem drop_any (w : World) (kf : Nat) (v : Value) (left done : Int) (ms : List FM) (h : FsOk w kf v left done ms) (hL : ms.length ≤ 1000000) (i : Nat) (hi : i < ms.length) :
    Calls Tryd.prog 48 #[.pointer (some ⟨kf, 0, none⟩), .int .i64 (i : Int)] w (Drops w kf left done (ms.take i ++ ms.drop (i + 1))) := by
  have H := Lib.hid h
  obtain ⟨len, hlen⟩ : ∃ n, ms.length = n := ⟨_, rfl⟩
  obtain ⟨ad, cap, rfl, hr, _⟩ := OwnRow.row2 flK_ok h.row hlen
  rw [hlen] at hL hi
  have hfits := hr.fits
  have hup : ∀ W, (Instr.slice 52 (.slice ad len cap) none (some (.int .i64 (i : Int))) none).run Tryd.prog W = .ok (.slice ad i cap) W := row_upto flK_ok ad len cap i (by omega)
  obtain ⟨fd, fc, hfr, hfrow, _⟩ := row_from flK_ok hr (i + 1) (by omega)
  rw [show ((i + 1 : Nat) : Int) = (i : Int) + 1 by omega] at hfr
  have hfr : ∀ W, (Instr.slice 52 (.slice ad len cap) (some (.int .i64 ((i : Int) + 1))) none none).run Tryd.prog W = .ok (.slice fd (len - (i + 1)) fc) W := hfr
  have hw1 : IntKind.i64.wrap ((i : Int) + 1) = (i : Int) + 1 := IntWalk.i64_in _ (by omega)
  have HFR := Lib.hid hfrow
  have HUR := Lib.hid (hr.take i (by omega))
  have HLEN := Lib.hid hlen
  clear hr hfrow h hlen
  go_enter Tryd.func48, Tryd.ntmps48
  have KS : Hid (∀ W, Below w.heap.size w W → (fun (W : World) => W.cell? ⟨kf, 0, none⟩ = some (.slice ad len cap)) W) := fun W hW => (H.out.box.on hW).c0
  have hdrw : Below w.heap.size w w.drew := (Below.refl _ w).drew
  go_upto_region 0 with fail
  refine wp_region_noPanic ?_
  refine wp_region_z [19] (fun (W : World) => W.cell? ⟨kf, 0, none⟩ = some (.slice ad len cap)) (by kernel_rfl) ?_
  have hHeld : (fun (W : World) => W.cell? ⟨kf, 0, none⟩ = some (.slice ad len cap)) _ := KS.out _ hdrw
  obtain ⟨u0, hu0⟩ : ∃ u, u = w.drew := ⟨_, rfl⟩
  rw [← hu0] at hHeld hdrw
  rw [← hu0]
  clear hu0
  have HB0 := Lib.hid hdrw
  clear hdrw
  refine wpAnyZ_take (i := 0) (oi := ⟨_, _, _, _, _, _⟩) (v := ?_) rfl (by kernel_rfl) (by kernel_rfl) (by kernel_rfl) (by kernel_rfl) (by kernel_rfl) (fun _ _ _ h => h) (Or.inl ⟨by rfl, ?_⟩) (by assumption) ?_
  rotate_left
  · intro W hSw
    (try dsimp only at hSw)
    go_simp
    (try with_reducible rfl)
  (try simp only [Act.put, List.setIfInBounds_toArray, List.set_cons_zero, List.set_cons_succ])
  refine wpAnyZ_take (i := 2) (oi := ⟨_, _, _, _, _, _⟩) (v := ?_) rfl (by kernel_rfl) (by kernel_rfl) (by kernel_rfl) (by kernel_rfl) (by kernel_rfl) (fun _ _ _ h => h) (Or.inl ⟨by rfl, ?_⟩) (by assumption) ?_
  rotate_left
  · intro W hSw
    (try dsimp only at hSw)
    go_simp
    (try with_reducible rfl)
  (try simp only [Act.put, List.setIfInBounds_toArray, List.set_cons_zero, List.set_cons_succ])
  refine wpAnyZ_take (i := 3) (oi := ⟨_, _, _, _, _, _⟩) (v := ?_) rfl (by kernel_rfl) (by kernel_rfl) (by kernel_rfl) (by kernel_rfl) (by kernel_rfl) (fun _ _ _ h => h) (Or.inl ⟨by rfl, ?_⟩) (by assumption) ?_
  rotate_left
  · intro W hSw
    (try dsimp only at hSw)
    go_simp
    (try with_reducible rfl)
  (try simp only [Act.put, List.setIfInBounds_toArray, List.set_cons_zero, List.set_cons_succ])
  refine wpAnyZ_take (i := 4) (oi := ⟨_, _, _, _, _, _⟩) (v := ?_) rfl (by kernel_rfl) (by kernel_rfl) (by kernel_rfl) (by kernel_rfl) (by kernel_rfl) (fun _ _ _ h => h) (Or.inl ⟨by rfl, ?_⟩) (by assumption) ?_
  rotate_left
  · intro W hSw
    (try dsimp only at hSw)
    go_simp
    (try with_reducible rfl)
  (try simp only [Act.put, List.setIfInBounds_toArray, List.set_cons_zero, List.set_cons_succ])
  refine wpAnyZ_take (i := 5) (oi := ⟨_, _, _, _, _, _⟩) (v := ?_) rfl (by kernel_rfl) (by kernel_rfl) (by kernel_rfl) (by kernel_rfl) (by kernel_rfl) (fun _ _ _ h => h) (Or.inl ⟨by rfl, ?_⟩) (by assumption) ?_
  rotate_left
  · intro W hSw
    (try dsimp only at hSw)
    go_simp
    (try with_reducible rfl)
  (try simp only [Act.put, List.setIfInBounds_toArray, List.set_cons_zero, List.set_cons_succ])
  refine wpAnyZ_take (i := 6) (oi := ⟨_, _, _, _, _, _⟩) (v := ?_) rfl (by kernel_rfl) (by kernel_rfl) (by kernel_rfl) (by kernel_rfl) (by kernel_rfl) (fun _ _ _ h => h) (Or.inl ⟨by rfl, ?_⟩) (by assumption) ?_
  rotate_left
  · intro W hSw
    (try dsimp only at hSw)
    go_simp
    (try with_reducible rfl)
  (try simp only [Act.put, List.setIfInBounds_toArray, List.set_cons_zero, List.set_cons_succ])
  refine wpAnyZ_take (i := 7) (oi := ⟨_, _, _, _, _, _⟩) (v := ?_) rfl (by kernel_rfl) (by kernel_rfl) (by kernel_rfl) (by kernel_rfl) (by kernel_rfl) (fun _ _ _ h => h) (Or.inl ⟨by rfl, ?_⟩) (by assumption) ?_
  rotate_left
  · intro W hSw
    (try dsimp only at hSw)
    go_simp
    (try with_reducible rfl)
  (try simp only [Act.put, List.setIfInBounds_toArray, List.set_cons_zero, List.set_cons_succ])
  refine wpAnyZ_take (i := 9) (oi := ⟨_, _, _, _, _, _⟩) (v := ?_) rfl (by kernel_rfl) (by kernel_rfl) (by kernel_rfl) (by kernel_rfl) (by kernel_rfl) (fun _ _ _ h => h) (Or.inl ⟨by rfl, ?_⟩) (by assumption) ?_
  rotate_left
  · intro W hSw
    (try dsimp only at hSw)
    go_simp
    (try with_reducible rfl)
  (try simp only [Act.put, List.setIfInBounds_toArray, List.set_cons_zero, List.set_cons_succ])
  refine wpAnyZ_take (i := 10) (oi := ⟨_, _, _, _, _, _⟩) (v := ?_) rfl (by kernel_rfl) (by kernel_rfl) (by kernel_rfl) (by kernel_rfl) (by kernel_rfl) (fun _ _ _ h => h) (Or.inl ⟨by rfl, ?_⟩) (by assumption) ?_
  rotate_left
  · intro W hSw
    (try dsimp only at hSw)
    go_simp
    (try with_reducible rfl)
  (try simp only [Act.put, List.setIfInBounds_toArray, List.set_cons_zero, List.set_cons_succ])
  refine wpAnyZ_take (i := 11) (oi := ⟨_, _, _, _, _, _⟩) (v := ?_) rfl (by kernel_rfl) (by kernel_rfl) (by kernel_rfl) (by kernel_rfl) (by kernel_rfl) (fun _ _ _ h => h) (Or.inl ⟨by rfl, ?_⟩) (by assumption) ?_
  rotate_left
  · intro W hSw
    (try dsimp only at hSw)
    go_simp
    (try with_reducible rfl)
  (try simp only [Act.put, List.setIfInBounds_toArray, List.set_cons_zero, List.set_cons_succ])
  refine wpAnyZ_take (i := 12) (oi := ⟨_, _, _, _, _, _⟩) (v := ?_) rfl (by kernel_rfl) (by kernel_rfl) (by kernel_rfl) (by kernel_rfl) (by kernel_rfl) (fun _ _ _ h => h) (Or.inl ⟨by rfl, ?_⟩) (by assumption) ?_
  rotate_left
  · intro W hSw
    (try dsimp only at hSw)
    go_simp
    (try with_reducible rfl)
  (try simp only [Act.put, List.setIfInBounds_toArray, List.set_cons_zero, List.set_cons_succ])
  refine wpAnyZ_take (i := 13) (oi := ⟨_, _, _, _, _, _⟩) (v := ?_) rfl (by kernel_rfl) (by kernel_rfl) (by kernel_rfl) (by kernel_rfl) (by kernel_rfl) (fun _ _ _ h => h) (Or.inl ⟨by rfl, ?_⟩) (by assumption) ?_
  rotate_left
  · intro W hSw
    (try dsimp only at hSw)
    go_simp
    (try with_reducible rfl)
  (try simp only [Act.put, List.setIfInBounds_toArray, List.set_cons_zero, List.set_cons_succ])
  refine wpAnyZ_take (i := 14) (oi := ⟨_, _, _, _, _, _⟩) (v := ?_) rfl (by kernel_rfl) (by kernel_rfl) (by kernel_rfl) (by kernel_rfl) (by kernel_rfl) (fun _ _ _ h => h) (Or.inl ⟨by rfl, ?_⟩) (by assumption) ?_
  rotate_left
  · intro W hSw
    (try dsimp only at hSw)
    go_simp
    (try with_reducible rfl)
  (try simp only [Act.put, List.setIfInBounds_toArray, List.set_cons_zero, List.set_cons_succ])
  refine wpAnyZ_take (i := 15) (oi := ⟨_, _, _, _, _, _⟩) (v := ?_) rfl (by kernel_rfl) (by kernel_rfl) (by kernel_rfl) (by kernel_rfl) (by kernel_rfl) (fun _ _ _ h => h) (Or.inl ⟨by rfl, ?_⟩) (by assumption) ?_
  rotate_left
  · intro W hSw
    (try dsimp only at hSw)
    go_simp
    (try with_reducible rfl)
  (try simp only [Act.put, List.setIfInBounds_toArray, List.set_cons_zero, List.set_cons_succ])
  refine wpAnyZ_ready (rs := [1]) (by kernel_rfl) (by simp) ?_
  refine AllReadyZ.cons (o := ⟨_, _, _, _, _, _⟩) rfl (fun C hC => ?_) AllReadyZ.nil
  go_simp
  obtain ⟨u1, hu1⟩ : ∃ u, u = u0.alloc (.cells #[] 75) := ⟨_, rfl⟩
  have hbb : Below u0.heap.size u0 u1 := by rw [hu1]; exact (Below.refl _ _).alloc (Nat.le_refl _) _
  have HB1 := Lib.hid (HB0.out.trans (hbb.mono HB0.out.size))
  obtain ⟨g1, hg1⟩ : ∃ G, G = u0.heap.size := ⟨_, rfl⟩
  have HO1 : Hid (OwnRow flK u1 w.heap.size (.slice (some ⟨g1, 0, none⟩) 0 0) []) := by show OwnRow _ _ _ _ _; rw [hu1, hg1]; exact ownRow_lit flK_ok u0 _ [] HB0.out.size (by simp) _ rfl 0 rfl
  rw [← hu1, ← hg1]
  clear hu1 hg1 hbb
  have hHeld : (fun (W : World) => W.cell? ⟨kf, 0, none⟩ = some (.slice ad len cap)) u1 := KS.out _ HB1.out
  refine hC.out _ _ (fun _ => hHeld) (fun _ => ?_)
  clear hC C
  (try simp only [Act.put, List.setIfInBounds_toArray, List.set_cons_zero, List.set_cons_succ])
  refine wpAnyZ_ready (rs := [8]) (by kernel_rfl) (by simp) ?_
  refine AllReadyZ.cons (o := ⟨_, _, _, _, _, _⟩) rfl (fun C hC => ?_) AllReadyZ.nil
  refine held_row (by rfl) flK_ok (.tmp 5) (.tmp 11) rfl w.heap.size [] (ms.take i) _ rfl HO1.out HB1.out.size ad i cap rfl (HUR.out.keep HB1.out) (by rw [List.length_nil]; omega) ?_
  rintro v2 u2 hap
  have HB2 : Hid (Below w.heap.size w u2) := HB1.out.grown hap.2.1 HB1.out.size fun q hq => (HO1.out.lt q hq).1
  have HO2 : Hid (OwnRow flK u2 w.heap.size v2 (ms.take i)) := hap.1
  clear hap
  have hHeld : (fun (W : World) => W.cell? ⟨kf, 0, none⟩ = some (.slice ad len cap)) u2 := KS.out _ HB2.out
  refine hC.out _ _ (fun _ => hHeld) (fun _ => ?_)
  clear hC C
  (try simp only [Act.put, List.setIfInBounds_toArray, List.set_cons_zero, List.set_cons_succ])
  refine wpAnyZ_ready (rs := [16]) (by kernel_rfl) (by simp) ?_
  refine AllReadyZ.cons (o := ⟨_, _, _, _, _, _⟩) rfl (fun C hC => ?_) AllReadyZ.nil
  refine held_row (by rfl) flK_ok (.tmp 12) (.tmp 19) rfl w.heap.size (ms.take i) (ms.drop (i + 1)) _ rfl HO2.out HB2.out.size fd (len - (i + 1)) fc rfl (HFR.out.keep HB2.out) (by rw [List.length_take]; omega) ?_
  rintro v3 u3 hap
  obtain ⟨n3, hn3⟩ : ∃ n, (ms.take i ++ ms.drop (i + 1)).length = n := ⟨_, rfl⟩
  obtain ⟨ad3, cap3, hv3, _, _⟩ := OwnRow.row2 flK_ok hap.1 hn3
  subst hv3
  have HB3 : Hid (Below w.heap.size w u3) := HB2.out.grown hap.2.1 HB2.out.size fun q hq => (HO2.out.lt q hq).1
  have HO3 : Hid (OwnRow flK u3 w.heap.size (.slice ad3 n3 cap3) (ms.take i ++ ms.drop (i + 1))) := hap.1
  clear hap hn3
  have hHeld : (fun (W : World) => W.cell? ⟨kf, 0, none⟩ = some (.slice ad len cap)) u3 := KS.out _ HB3.out
  refine hC.out _ _ (fun _ => hHeld) (fun _ => ?_)
  clear hC C
  (try simp only [Act.put, List.setIfInBounds_toArray, List.set_cons_zero, List.set_cons_succ])
  refine wpAnyZ_take (i := 17) (oi := ⟨_, _, _, _, _, _⟩) (v := ?_) rfl (by kernel_rfl) (by kernel_rfl) (by kernel_rfl) (by kernel_rfl) (by kernel_rfl) (fun _ _ _ h => h) (Or.inl ⟨by rfl, ?_⟩) (by assumption) ?_
  rotate_left
  · intro W hSw
    (try dsimp only at hSw)
    go_simp
    (try with_reducible rfl)
  (try simp only [Act.put, List.setIfInBounds_toArray, List.set_cons_zero, List.set_cons_succ])
  refine wpAnyZ_take (i := 18) (oi := ⟨_, _, _, _, _, _⟩) (v := ?_) rfl (by kernel_rfl) (by kernel_rfl) (by kernel_rfl) (by kernel_rfl) (by kernel_rfl) (fun _ _ _ h => h) (Or.inl ⟨by rfl, ?_⟩) (by assumption) ?_
  rotate_left
  · intro W hSw
    (try dsimp only at hSw)
    go_simp
    (try with_reducible rfl)
  (try simp only [Act.put, List.setIfInBounds_toArray, List.set_cons_zero, List.set_cons_succ])
  have t0 := (H.out.box.on HB3.out).c0
  have t1 := (H.out.box.on HB3.out).free 0
  refine wpAnyZ_ready (rs := [19]) (by kernel_rfl) (by simp) ?_
  refine AllReadyZ.cons (o := ⟨_, _, _, _, _, _⟩) rfl (fun C hC => ?_) AllReadyZ.nil
  go_simp
  refine hC.out _ _ (zfree_no (by kernel_rfl)) (fun _ => ?_)
  clear hC C
  (try simp only [Act.put, List.setIfInBounds_toArray, List.set_cons_zero, List.set_cons_succ])
  refine wpAnyZ_done (by kernel_rfl) ?_ _
  refine NoPanic.normal ?_
  obtain ⟨wz, hwz⟩ : ∃ wz, wz = u3.setCell ⟨kf, 0, none⟩ (.slice ad3 n3 cap3) := ⟨_, rfl⟩
  have hkf := H.out.box.lt
  have HGz : Hid (w.grownBy wz (some kf)) := by show World.grownBy _ _ _; rw [hwz]; exact grow_set (grow_below (grow_refl w _) HB3.out) 0 _
  have HOz : Hid (OwnRow flK wz w.heap.size (.slice ad3 n3 cap3) (ms.take i ++ ms.drop (i + 1))) := by show OwnRow _ _ _ _ _; rw [hwz]; exact HO3.out.off hkf _ _
  have HBz : Hid (FsBox wz kf (.slice ad3 n3 cap3) left done) := by show FsBox _ _ _ _ _; rw [hwz]; exact (H.out.box.on HB3.out).s0 _
  try rw [← hwz]
  clear hwz t0 t1 hHeld
  go_wp2
  go_end0
  refine ⟨rfl, _, H.out.laid HGz.out HBz.out HOz.out (fun m hm => .inl ?_), HGz.out, fun q hq => (HOz.out.lt q hq).1⟩
  rcases List.mem_append.1 hm with h1 | h1
  · exact List.mem_of_mem_take h1
  · exact List.mem_of_mem_drop h1
end Go.Proofs.YtjocfkkcnkpjdaaDoor
