/- Chapter 7's own files in memory: a row of files, a box of a file system; at, deed. -/
import Derived.Test.YtjocfkkcnkpjdaaDoorFsMath
import Derived.Test.YtjocfkkcnkpjdaaDoorRowCut
import Derived.Test.YtjocfkkcnkpjdaaDoorKindBytes
import Derived.Test.YtjocfkkcnkpjdaaDoorRegionZ
import Derived.Test.YtjocfkkcnkpjdaaDoorNameRefLess
import Derived.Test.YtjocfkkcnkpjdaaDoorNameRefCount
import Derived.Deep.CutRange
namespace Go.Proofs.YtjocfkkcnkpjdaaDoor
open Go.RowKit
open Go.RuneMath
open Go.FsMath
set_option linter.unusedVariables false

/-- A file, and where its bytes lie. -/
structure FM where
  f : Fl
  ad : Option Addr
  cap : Nat
theorem infoFl : (Tryd.prog.info? 75).map (fun i => (i.zero, i.size, i.bytes)) = some (some (.agg #[.string ⟨#[]⟩, .slice none 0 0, .int .i64 0]), 3, 48) := by kernel_rfl
def flK : Kind FM := ⟨fun m => [.string m.f.name, .slice m.ad m.f.b.length m.cap, .int .i64 (m.f.lasts : Int)], 3, 75, 52⟩
theorem flK_ok : flK.Ok 48 where
  und := Tryd.underlying52
  info := by
    obtain ⟨i, hi, hz, hs, hb⟩ := info_parts infoFl
    exact ⟨i, _, hi, hz, hs, hb, rfl⟩
  len := fun _ => rfl
  pos := by decide
  one := fun r u hu => by
    simp only [flK, List.mem_cons, List.not_mem_nil, or_false] at hu
    rcases hu with rfl | rfl | rfl <;> rfl
  few := by decide
def fls (ms : List FM) : List Fl := ms.map (·.f)
/-- A block that is a file system. -/
def FsBox (w : World) (k : Nat) (v : Value) (left done : Int) : Prop := w.heap[k]? = some (.cells #[v, .int .i64 left, .int .i64 done] 54 (0, 0))
section
variable {w w' : World} {k : Nat} {v : Value} {left done : Int}
theorem FsBox.c0 (h : FsBox w k v left done) : w.cell? ⟨k, 0, none⟩ = some v := by rw [cell_of_row _ _ 0 _ _ _ h]; rfl
theorem FsBox.c1 (h : FsBox w k v left done) : w.cell? ⟨k, 1, none⟩ = some (.int .i64 left) := by rw [cell_of_row _ _ 1 _ _ _ h]; rfl
theorem FsBox.c2 (h : FsBox w k v left done) : w.cell? ⟨k, 2, none⟩ = some (.int .i64 done) := by rw [cell_of_row _ _ 2 _ _ _ h]; rfl
theorem FsBox.free (h : FsBox w k v left done) (j : Nat) : w.frozen? ⟨k, j, none⟩ = false := frozen_of_row w k j _ _ h
theorem FsBox.lt (h : FsBox w k v left done) : k < w.heap.size := lt_of_block h
theorem FsBox.on (h : FsBox w k v left done) (hb : Below w.heap.size w w') : FsBox w' k v left done := by
  have hlt := h.lt
  unfold FsBox at *
  rw [hb.block k hlt]
  exact h
theorem FsBox.s0 (h : FsBox w k v left done) (u : Value) : FsBox (w.setCell ⟨k, 0, none⟩ u) k u left done := box_set h 0 _
theorem FsBox.s1 (h : FsBox w k v left done) (n : Int) : FsBox (w.setCell ⟨k, 1, none⟩ (.int .i64 n)) k v n done := box_set h 1 _
theorem FsBox.s2 (h : FsBox w k v left done) (n : Int) : FsBox (w.setCell ⟨k, 2, none⟩ (.int .i64 n)) k v left n := box_set h 2 _
theorem FsBox.grown {r : Option Nat} (h : FsBox w k v left done) (hg : w.grownBy w' r) (hr : r ≠ some k) : FsBox w' k v left done := by
  have hlt := h.lt
  unfold FsBox at *
  rw [hg.block k hlt (fun e => hr e.symm)]
  exact h
end
theorem fl_get {w : World} {ad : Option Addr} {len cap : Nat} {ms : List FM} (h : RowAt flK w ad len cap ms) {i : Nat} (hi : i < len) :
    ∃ b off m, ad = some ⟨b, off, none⟩ ∧ b < w.heap.size ∧ ms[i]? = some m ∧ w.cell? ⟨b, off + i * 3, none⟩ = some (.string m.f.name) ∧ w.cell? ⟨b, off + i * 3 + 1, none⟩ = some (.slice m.ad m.f.b.length m.cap) ∧ w.cell? ⟨b, off + i * 3 + 2, none⟩ = some (.int .i64 (m.f.lasts : Int)) := by
  obtain ⟨b, off, m, e, hb, hm, hc⟩ := h.get hi
  exact ⟨b, off, m, e, hb, hm, hc 0 _ rfl, hc 1 _ rfl, hc 2 _ rfl⟩
theorem str_eq_eqS (a b : ByteArray) : (a.toList == b.toList) = eqS a b := by
  unfold eqS
  have e : ∀ x : ByteArray, x.toList = x.data.toList := fun x => by cases x; simp [ByteArray.toList_eq]
  rw [e, e]
  by_cases h : a.data.toList = b.data.toList
  · rw [decide_eq_true h, h]; simp
  · rw [decide_eq_false h]; exact beq_false_of_ne h
/-- No name is too long. -/
def NamesOk (ms : List FM) : Prop := ∀ m ∈ ms, m.f.name.size ≤ 1073741824
def GivesAt (w : World) (i : Nat) (b : Bool) (e : Ending) (w' : World) : Prop := e = .returned (.tuple #[.int .i64 (i : Int), .bool b]) ∧ Below w.heap.size w w'
theorem gives_at {w w' : World} {i j : Nat} {b c : Bool} (h1 : j = i) (h2 : c = b) (hb : Below w.heap.size w w') : GivesAt w i b (.returned (.tuple #[.int .i64 (j : Int), .bool c])) w' := ⟨by rw [h1, h2], hb⟩
set_option maxRecDepth 100000 in
set_option maxHeartbeats 4000000 in
theorem fsAt_any (w : World) (kf : Nat) (ad : Option Addr) (len cap : Nat) (left done : Int) (ms : List FM) (hf : FsBox w kf (.slice ad len cap) left done) (hr : RowAt flK w ad len cap ms) (hL : len ≤ 100000000000) (hN : NamesOk ms) (n : ByteArray) (hn : n.size ≤ 1073741824) :
    Calls Tryd.prog 45 #[.pointer (some ⟨kf, 0, none⟩), .string n] w (GivesAt w (atF (fls ms) n) (hasF (fls ms) n)) := by
  have HF := Lib.hid hf
  have HR := Lib.hid hr
  have HN := Lib.hid hN
  have hlen := hr.length
  obtain ⟨l, hl⟩ : ∃ l, l = fls ms := ⟨_, rfl⟩
  have hll : l.length = len := by rw [hl]; unfold fls; rw [List.length_map]; exact hlen
  have HGET : Hid (∀ (i : Nat) m, ms[i]? = some m → l[i]? = some m.f) := by
    intro i m hm
    rw [hl]; unfold fls
    rw [List.getElem?_map, hm]; rfl
  rw [← hl]
  clear hf hr hN hl hlen
  go_enter Tryd.func45, Tryd.ntmps45
  go_wp2
  go_loopw [6] (fun v6 wr => ∃ i : Nat, v6 = .int .i64 (i : Int) ∧ i ≤ atF l n ∧ Below w.heap.size w wr) (fun v6 _ => len - (intOf v6).toNat)
  case atStart => exact ⟨0, rfl, Nat.zero_le _, Below.refl _ _⟩
  case round =>
    obtain ⟨i, rfl, hi, hbel⟩ := hrel
    have HB := Lib.hid hbel
    have HI := Lib.hid hi
    have hil : i ≤ len := by have := atF_le l n; omega
    clear hbel hi
    obtain ⟨wo, hwo⟩ : ∃ wo : World, wo = wr := ⟨_, rfl⟩
    subst hwo
    have HT := Lib.hid (HF.out.on HB.out)
    have t0 := HT.out.c0
    by_cases hlt : i < len
    · have hd : decide (i < len) = true := decide_eq_true hlt
      have hij : (i : Int) < (len : Int) := by omega
      obtain ⟨bk, off, m, rfl, hbk, hm, c0, _, _⟩ := fl_get (HR.out.keep HB.out) hlt
      have hp := HGET.out i m hm
      have HZ := Lib.hid (HN.out m (List.mem_of_getElem? hm))
      obtain ⟨q, hq⟩ : ∃ q, lessS m.f.name n = q := ⟨_, rfl⟩
      have HQ : Hid (lessB m.f.name.data.toList n.data.toList = q) := hq
      have HSTEP := Lib.hid (atF_step l n i m.f HI.out hp)
      have HP := Lib.hid hp
      clear hp hm hbk
      go_wp2_with fail
      refine (ref_less_any wo m.f.name n HZ.out hn).mono ?_
      rintro e w1 ⟨rfl, hb1⟩
      rw [HQ.out]
      have HB1 := Lib.hid (HB.out.trans (hb1.mono HB.out.size))
      have HT1 := Lib.hid (HT.out.on hb1)
      have d0 := (hb1.cell (p := ⟨bk, off + i * 3, none⟩) (World.block_lt_of_cell? _ _ c0)).trans c0
      clear hb1 c0 t0
      cases q
      · have hat : atF l n = i := by
          have h1 := HI.out
          have h3 : ¬ (i + 1 ≤ atF l n) := fun h => by have := HSTEP.out.2 h; rw [hq] at this; cases this
          omega
        have HAT := Lib.hid hat
        have HHAS := Lib.hid (has_fl hat HP.out)
        clear hat hq
        obtain ⟨wr, hwr⟩ : ∃ wr : World, wr = w1 := ⟨_, rfl⟩
        subst hwr
        have KS : Hid (∀ W, Below wr.heap.size wr W → (fun (W : World) => W.cell? ⟨kf, 0, none⟩ = some (.slice (some ⟨bk, off, none⟩) len cap) ∧ W.cell? ⟨bk, off + i * 3, none⟩ = some (.string m.f.name)) W) := by
          intro W hW
          exact ⟨(HT1.out.on hW).c0, (hW.cell (p := ⟨bk, off + i * 3, none⟩) (World.block_lt_of_cell? _ _ d0)).trans d0⟩
        have hb1d : Below wr.heap.size wr wr.drew := (Below.refl _ wr).drew
        go_upto_region 4 with fail
        clear d0
        refine wp_region_noPanic ?_
        refine wp_region_z [] (fun (W : World) => W.cell? ⟨kf, 0, none⟩ = some (.slice (some ⟨bk, off, none⟩) len cap) ∧ W.cell? ⟨bk, off + i * 3, none⟩ = some (.string m.f.name)) (by kernel_rfl) ?_
        have hHeld : (fun (W : World) => W.cell? ⟨kf, 0, none⟩ = some (.slice (some ⟨bk, off, none⟩) len cap) ∧ W.cell? ⟨bk, off + i * 3, none⟩ = some (.string m.f.name)) _ := KS.out _ hb1d
        obtain ⟨u0, hu0⟩ : ∃ u, u = wr.drew := ⟨_, rfl⟩
        rw [← hu0] at hHeld hb1d
        rw [← hu0]
        clear hu0
        have HU := Lib.hid hb1d
        clear hb1d
        refine wpAnyZ_take (i := 0) (oi := ⟨_, _, _, _, _, _⟩) (v := ?_) rfl (by kernel_rfl) (by kernel_rfl) (by kernel_rfl) (by kernel_rfl) (by kernel_rfl) (fun _ _ _ h => h) (Or.inl ⟨by rfl, ?_⟩) (by assumption) ?_
        rotate_left
        · intro W hSw
          (try dsimp only at hSw)
          go_simp
          (try with_reducible rfl)
        (try simp only [Act.put, List.setIfInBounds_toArray, List.set_cons_zero, List.set_cons_succ])
        refine wpAnyZ_take (i := 1) (oi := ⟨_, _, _, _, _, _⟩) (v := ?_) rfl (by kernel_rfl) (by kernel_rfl) (by kernel_rfl) (by kernel_rfl) (by kernel_rfl) (fun _ _ _ h => h) (Or.inl ⟨by rfl, ?_⟩) (by assumption) ?_
        rotate_left
        · intro W hSw
          (try dsimp only at hSw)
          go_simp
          (try with_reducible rfl)
        (try simp only [Act.put, List.setIfInBounds_toArray, List.set_cons_zero, List.set_cons_succ])
        refine wpAnyZ_take (i := 2) (oi := ⟨_, _, _, _, _, _⟩) (v := ?_) rfl (by kernel_rfl) (by kernel_rfl) (by kernel_rfl) (by kernel_rfl) (by kernel_rfl) (fun _ _ _ h => h) (Or.inl ⟨by rfl, ?_⟩) (by assumption) ?_
        rotate_left
        · intro W hSw
          (try dsimp only at hSw)
          go_simp
          (try with_reducible rfl)
        (try simp only [Act.put, List.setIfInBounds_toArray, List.set_cons_zero, List.set_cons_succ])
        refine wpAnyZ_take (i := 3) (oi := ⟨_, _, _, _, _, _⟩) (v := ?_) rfl (by kernel_rfl) (by kernel_rfl) (by kernel_rfl) (by kernel_rfl) (by kernel_rfl) (fun _ _ _ h => h) (Or.inl ⟨by rfl, ?_⟩) (by assumption) ?_
        rotate_left
        · intro W hSw
          (try dsimp only at hSw)
          go_simp
          (try with_reducible rfl)
        (try simp only [Act.put, List.setIfInBounds_toArray, List.set_cons_zero, List.set_cons_succ])
        refine wpAnyZ_take (i := 4) (oi := ⟨_, _, _, _, _, _⟩) (v := ?_) rfl (by kernel_rfl) (by kernel_rfl) (by kernel_rfl) (by kernel_rfl) (by kernel_rfl) (fun _ _ _ h => h) (Or.inl ⟨by rfl, ?_⟩) (by assumption) ?_
        rotate_left
        · intro W hSw
          (try dsimp only at hSw)
          go_simp
          (try with_reducible rfl)
        (try simp only [Act.put, List.setIfInBounds_toArray, List.set_cons_zero, List.set_cons_succ])
        refine wpAnyZ_take (i := 5) (oi := ⟨_, _, _, _, _, _⟩) (v := ?_) rfl (by kernel_rfl) (by kernel_rfl) (by kernel_rfl) (by kernel_rfl) (by kernel_rfl) (fun _ _ _ h => h) (Or.inl ⟨by rfl, ?_⟩) (by assumption) ?_
        rotate_left
        · intro W hSw
          (try dsimp only at hSw)
          go_simp
          (try with_reducible rfl)
        (try simp only [Act.put, List.setIfInBounds_toArray, List.set_cons_zero, List.set_cons_succ])
        refine wpAnyZ_take (i := 6) (oi := ⟨_, _, _, _, _, _⟩) (v := ?_) rfl (by kernel_rfl) (by kernel_rfl) (by kernel_rfl) (by kernel_rfl) (by kernel_rfl) (fun _ _ _ h => h) (Or.inl ⟨by rfl, ?_⟩) (by assumption) ?_
        rotate_left
        · intro W hSw
          (try dsimp only at hSw)
          go_simp
          (try with_reducible rfl)
        (try simp only [Act.put, List.setIfInBounds_toArray, List.set_cons_zero, List.set_cons_succ])
        refine wpAnyZ_take (i := 7) (oi := ⟨_, _, _, _, _, _⟩) (v := ?_) rfl (by kernel_rfl) (by kernel_rfl) (by kernel_rfl) (by kernel_rfl) (by kernel_rfl) (fun _ _ _ h => h) (Or.inl ⟨by rfl, ?_⟩) (by assumption) ?_
        rotate_left
        · intro W hSw
          (try dsimp only at hSw)
          go_simp
          (try with_reducible rfl)
        (try simp only [Act.put, List.setIfInBounds_toArray, List.set_cons_zero, List.set_cons_succ])
        refine wpAnyZ_take (i := 8) (oi := ⟨_, _, _, _, _, _⟩) (v := ?_) rfl (by kernel_rfl) (by kernel_rfl) (by kernel_rfl) (by kernel_rfl) (by kernel_rfl) (fun _ _ _ h => h) (Or.inl ⟨by rfl, ?_⟩) (by assumption) ?_
        rotate_left
        · intro W hSw
          (try dsimp only at hSw)
          go_simp
          (try with_reducible rfl)
        (try simp only [Act.put, List.setIfInBounds_toArray, List.set_cons_zero, List.set_cons_succ])
        refine wpAnyZ_take (i := 9) (oi := ⟨_, _, _, _, _, _⟩) (v := ?_) rfl (by kernel_rfl) (by kernel_rfl) (by kernel_rfl) (by kernel_rfl) (by kernel_rfl) (fun _ _ _ h => h) (Or.inl ⟨by rfl, ?_⟩) (by assumption) ?_
        rotate_left
        · intro W hSw
          (try dsimp only at hSw)
          go_simp
          (try with_reducible rfl)
        (try simp only [Act.put, List.setIfInBounds_toArray, List.set_cons_zero, List.set_cons_succ])
        refine wpAnyZ_take (i := 10) (oi := ⟨_, _, _, _, _, _⟩) (v := ?_) rfl (by kernel_rfl) (by kernel_rfl) (by kernel_rfl) (by kernel_rfl) (by kernel_rfl) (fun _ _ _ h => h) (Or.inl ⟨by rfl, ?_⟩) (by assumption) ?_
        rotate_left
        · intro W hSw
          (try dsimp only at hSw)
          go_simp
          (try with_reducible rfl)
        (try simp only [Act.put, List.setIfInBounds_toArray, List.set_cons_zero, List.set_cons_succ])
        refine wpAnyZ_take (i := 11) (oi := ⟨_, _, _, _, _, _⟩) (v := ?_) rfl (by kernel_rfl) (by kernel_rfl) (by kernel_rfl) (by kernel_rfl) (by kernel_rfl) (fun _ _ _ h => h) (Or.inl ⟨by rfl, ?_⟩) (by assumption) ?_
        rotate_left
        · intro W hSw
          (try dsimp only at hSw)
          go_simp
          (try with_reducible rfl)
        (try simp only [Act.put, List.setIfInBounds_toArray, List.set_cons_zero, List.set_cons_succ])
        refine wpAnyZ_take (i := 12) (oi := ⟨_, _, _, _, _, _⟩) (v := ?_) rfl (by kernel_rfl) (by kernel_rfl) (by kernel_rfl) (by kernel_rfl) (by kernel_rfl) (fun _ _ _ h => h) (Or.inl ⟨by rfl, ?_⟩) (by assumption) ?_
        rotate_left
        · intro W hSw
          (try dsimp only at hSw)
          go_simp
          (try with_reducible rfl)
        (try simp only [Act.put, List.setIfInBounds_toArray, List.set_cons_zero, List.set_cons_succ])
        refine wpAnyZ_take (i := 13) (oi := ⟨_, _, _, _, _, _⟩) (v := ?_) rfl (by kernel_rfl) (by kernel_rfl) (by kernel_rfl) (by kernel_rfl) (by kernel_rfl) (fun _ _ _ h => h) (Or.inl ⟨by rfl, ?_⟩) (by assumption) ?_
        rotate_left
        · intro W hSw
          (try dsimp only at hSw)
          go_simp
          (try with_reducible rfl)
        (try simp only [Act.put, List.setIfInBounds_toArray, List.set_cons_zero, List.set_cons_succ])
        refine wpAnyZ_take (i := 14) (oi := ⟨_, _, _, _, _, _⟩) (v := ?_) rfl (by kernel_rfl) (by kernel_rfl) (by kernel_rfl) (by kernel_rfl) (by kernel_rfl) (fun _ _ _ h => h) (Or.inl ⟨by rfl, ?_⟩) (by assumption) ?_
        rotate_left
        · intro W hSw
          (try dsimp only at hSw)
          go_simp
          (try with_reducible rfl)
        (try simp only [Act.put, List.setIfInBounds_toArray, List.set_cons_zero, List.set_cons_succ])
        refine wpAnyZ_take (i := 15) (oi := ⟨_, _, _, _, _, _⟩) (v := ?_) rfl (by kernel_rfl) (by kernel_rfl) (by kernel_rfl) (by kernel_rfl) (by kernel_rfl) (fun _ _ _ h => h) (Or.inl ⟨by rfl, ?_⟩) (by assumption) ?_
        rotate_left
        · intro W hSw
          (try dsimp only at hSw)
          go_simp
          (try with_reducible rfl)
        (try simp only [Act.put, List.setIfInBounds_toArray, List.set_cons_zero, List.set_cons_succ])
        refine wpAnyZ_take (i := 16) (oi := ⟨_, _, _, _, _, _⟩) (v := ?_) rfl (by kernel_rfl) (by kernel_rfl) (by kernel_rfl) (by kernel_rfl) (by kernel_rfl) (fun _ _ _ h => h) (Or.inl ⟨by rfl, ?_⟩) (by assumption) ?_
        rotate_left
        · intro W hSw
          (try dsimp only at hSw)
          go_simp
          (try with_reducible rfl)
        (try simp only [Act.put, List.setIfInBounds_toArray, List.set_cons_zero, List.set_cons_succ])
        refine wpAnyZ_take (i := 17) (oi := ⟨_, _, _, _, _, _⟩) (v := ?_) rfl (by kernel_rfl) (by kernel_rfl) (by kernel_rfl) (by kernel_rfl) (by kernel_rfl) (fun _ _ _ h => h) (Or.inl ⟨by rfl, ?_⟩) (by assumption) ?_
        rotate_left
        · intro W hSw
          (try dsimp only at hSw)
          go_simp
          (try with_reducible rfl)
        (try simp only [Act.put, List.setIfInBounds_toArray, List.set_cons_zero, List.set_cons_succ])
        refine wpAnyZ_take (i := 18) (oi := ⟨_, _, _, _, _, _⟩) (v := ?_) rfl (by kernel_rfl) (by kernel_rfl) (by kernel_rfl) (by kernel_rfl) (by kernel_rfl) (fun _ _ _ h => h) (Or.inl ⟨by rfl, ?_⟩) (by assumption) ?_
        rotate_left
        · intro W hSw
          (try dsimp only at hSw)
          go_simp
          (try with_reducible rfl)
        (try simp only [Act.put, List.setIfInBounds_toArray, List.set_cons_zero, List.set_cons_succ])
        refine wpAnyZ_take (i := 19) (oi := ⟨_, _, _, _, _, _⟩) (v := ?_) rfl (by kernel_rfl) (by kernel_rfl) (by kernel_rfl) (by kernel_rfl) (by kernel_rfl) (fun _ _ _ h => h) (Or.inl ⟨by rfl, ?_⟩) (by assumption) ?_
        rotate_left
        · intro W hSw
          (try dsimp only at hSw)
          go_simp
          (try with_reducible rfl)
        (try simp only [Act.put, List.setIfInBounds_toArray, List.set_cons_zero, List.set_cons_succ])
        refine wpAnyZ_take (i := 20) (oi := ⟨_, _, _, _, _, _⟩) (v := ?_) rfl (by kernel_rfl) (by kernel_rfl) (by kernel_rfl) (by kernel_rfl) (by kernel_rfl) (fun _ _ _ h => h) (Or.inl ⟨by rfl, ?_⟩) (by assumption) ?_
        rotate_left
        · intro W hSw
          (try dsimp only at hSw)
          go_simp
          (try with_reducible rfl)
        (try simp only [Act.put, List.setIfInBounds_toArray, List.set_cons_zero, List.set_cons_succ])
        refine wpAnyZ_take (i := 21) (oi := ⟨_, _, _, _, _, _⟩) (v := ?_) rfl (by kernel_rfl) (by kernel_rfl) (by kernel_rfl) (by kernel_rfl) (by kernel_rfl) (fun _ _ _ h => h) (Or.inl ⟨by rfl, ?_⟩) (by assumption) ?_
        rotate_left
        · intro W hSw
          (try dsimp only at hSw)
          go_simp
          (try with_reducible rfl)
        (try simp only [Act.put, List.setIfInBounds_toArray, List.set_cons_zero, List.set_cons_succ])
        refine wpAnyZ_done (by kernel_rfl) ?_ _
        refine NoPanic.normal ?_
        clear hHeld
        go_wp2
        go_ret2
        exact gives_at HAT.out.symm (by rw [HHAS.out]; exact str_eq_eqS _ _) (HB1.out.trans (HU.out.mono HB1.out.size))
      · have HS : Hid (i + 1 ≤ atF l n) := HSTEP.out.1 hq
        clear hq d0
        go_wp2
        go_roundw
        case rel => exact ⟨i + 1, by go_num, HS.out, HB1.out⟩
        case measure => simp [intOf]; omega
    · have hd : decide (i < len) = false := decide_eq_false hlt
      have hat : atF l n = i := by have := atF_le l n; have := HI.out; omega
      have HAT := Lib.hid hat
      have HHAS := Lib.hid (has_out hat (by omega))
      obtain ⟨wr, hwr⟩ : ∃ wr : World, wr = wo := ⟨_, rfl⟩
      subst hwr
      have KS : Hid (∀ W, Below wr.heap.size wr W → (fun (W : World) => W.cell? ⟨kf, 0, none⟩ = some (.slice ad len cap)) W) := fun W hW => (HT.out.on hW).c0
      have hb1d : Below wr.heap.size wr wr.drew := (Below.refl _ wr).drew
      clear hat
      go_upto_region 4 with fail
      clear t0
      refine wp_region_noPanic ?_
      refine wp_region_z [] (fun (W : World) => W.cell? ⟨kf, 0, none⟩ = some (.slice ad len cap)) (by kernel_rfl) ?_
      have hHeld : (fun (W : World) => W.cell? ⟨kf, 0, none⟩ = some (.slice ad len cap)) _ := KS.out _ hb1d
      obtain ⟨u0, hu0⟩ : ∃ u, u = wr.drew := ⟨_, rfl⟩
      rw [← hu0] at hHeld hb1d
      rw [← hu0]
      clear hu0
      have HU := Lib.hid hb1d
      clear hb1d
      refine wpAnyZ_take (i := 0) (oi := ⟨_, _, _, _, _, _⟩) (v := ?_) rfl (by kernel_rfl) (by kernel_rfl) (by kernel_rfl) (by kernel_rfl) (by kernel_rfl) (fun _ _ _ h => h) (Or.inl ⟨by rfl, ?_⟩) (by assumption) ?_
      rotate_left
      · intro W hSw
        (try dsimp only at hSw)
        go_simp
        (try with_reducible rfl)
      (try simp only [Act.put, List.setIfInBounds_toArray, List.set_cons_zero, List.set_cons_succ])
      refine wpAnyZ_take (i := 1) (oi := ⟨_, _, _, _, _, _⟩) (v := ?_) rfl (by kernel_rfl) (by kernel_rfl) (by kernel_rfl) (by kernel_rfl) (by kernel_rfl) (fun _ _ _ h => h) (Or.inl ⟨by rfl, ?_⟩) (by assumption) ?_
      rotate_left
      · intro W hSw
        (try dsimp only at hSw)
        go_simp
        (try with_reducible rfl)
      (try simp only [Act.put, List.setIfInBounds_toArray, List.set_cons_zero, List.set_cons_succ])
      refine wpAnyZ_take (i := 2) (oi := ⟨_, _, _, _, _, _⟩) (v := ?_) rfl (by kernel_rfl) (by kernel_rfl) (by kernel_rfl) (by kernel_rfl) (by kernel_rfl) (fun _ _ _ h => h) (Or.inl ⟨by rfl, ?_⟩) (by assumption) ?_
      rotate_left
      · intro W hSw
        (try dsimp only at hSw)
        go_simp
        (try with_reducible rfl)
      (try simp only [Act.put, List.setIfInBounds_toArray, List.set_cons_zero, List.set_cons_succ])
      refine wpAnyZ_take (i := 3) (oi := ⟨_, _, _, _, _, _⟩) (v := ?_) rfl (by kernel_rfl) (by kernel_rfl) (by kernel_rfl) (by kernel_rfl) (by kernel_rfl) (fun _ _ _ h => h) (Or.inl ⟨by rfl, ?_⟩) (by assumption) ?_
      rotate_left
      · intro W hSw
        (try dsimp only at hSw)
        go_simp
        (try with_reducible rfl)
      (try simp only [Act.put, List.setIfInBounds_toArray, List.set_cons_zero, List.set_cons_succ])
      refine wpAnyZ_take (i := 4) (oi := ⟨_, _, _, _, _, _⟩) (v := ?_) rfl (by kernel_rfl) (by kernel_rfl) (by kernel_rfl) (by kernel_rfl) (by kernel_rfl) (fun _ _ _ h => h) (Or.inl ⟨by rfl, ?_⟩) (by assumption) ?_
      rotate_left
      · intro W hSw
        (try dsimp only at hSw)
        go_simp
        (try with_reducible rfl)
      (try simp only [Act.put, List.setIfInBounds_toArray, List.set_cons_zero, List.set_cons_succ])
      refine wpAnyZ_take (i := 5) (oi := ⟨_, _, _, _, _, _⟩) (v := ?_) rfl (by kernel_rfl) (by kernel_rfl) (by kernel_rfl) (by kernel_rfl) (by kernel_rfl) (fun _ _ _ h => h) (Or.inl ⟨by rfl, ?_⟩) (by assumption) ?_
      rotate_left
      · intro W hSw
        (try dsimp only at hSw)
        go_simp
        (try with_reducible rfl)
      (try simp only [Act.put, List.setIfInBounds_toArray, List.set_cons_zero, List.set_cons_succ])
      refine wpAnyZ_take (i := 6) (oi := ⟨_, _, _, _, _, _⟩) (v := ?_) rfl (by kernel_rfl) (by kernel_rfl) (by kernel_rfl) (by kernel_rfl) (by kernel_rfl) (fun _ _ _ h => h) (Or.inl ⟨by rfl, ?_⟩) (by assumption) ?_
      rotate_left
      · intro W hSw
        (try dsimp only at hSw)
        go_simp
        (try with_reducible rfl)
      (try simp only [Act.put, List.setIfInBounds_toArray, List.set_cons_zero, List.set_cons_succ])
      refine wpAnyZ_take (i := 7) (oi := ⟨_, _, _, _, _, _⟩) (v := ?_) rfl (by kernel_rfl) (by kernel_rfl) (by kernel_rfl) (by kernel_rfl) (by kernel_rfl) (fun _ _ _ h => h) (Or.inl ⟨by rfl, ?_⟩) (by assumption) ?_
      rotate_left
      · intro W hSw
        (try dsimp only at hSw)
        go_simp
        (try with_reducible rfl)
      (try simp only [Act.put, List.setIfInBounds_toArray, List.set_cons_zero, List.set_cons_succ])
      refine wpAnyZ_take (i := 8) (oi := ⟨_, _, _, _, _, _⟩) (v := ?_) rfl (by kernel_rfl) (by kernel_rfl) (by kernel_rfl) (by kernel_rfl) (by kernel_rfl) (fun _ _ _ h => h) (Or.inl ⟨by rfl, ?_⟩) (by assumption) ?_
      rotate_left
      · intro W hSw
        (try dsimp only at hSw)
        go_simp
        (try with_reducible rfl)
      (try simp only [Act.put, List.setIfInBounds_toArray, List.set_cons_zero, List.set_cons_succ])
      refine wpAnyZ_take (i := 9) (oi := ⟨_, _, _, _, _, _⟩) (v := undef) rfl (by kernel_rfl) (by kernel_rfl) (by kernel_rfl) (by kernel_rfl) (by kernel_rfl) (fun _ _ _ h => h) (Or.inr ⟨by rfl, rfl⟩) (by assumption) ?_
      (try simp only [Act.put, List.setIfInBounds_toArray, List.set_cons_zero, List.set_cons_succ])
      refine wpAnyZ_take (i := 10) (oi := ⟨_, _, _, _, _, _⟩) (v := undef) rfl (by kernel_rfl) (by kernel_rfl) (by kernel_rfl) (by kernel_rfl) (by kernel_rfl) (fun _ _ _ h => h) (Or.inr ⟨by rfl, rfl⟩) (by assumption) ?_
      (try simp only [Act.put, List.setIfInBounds_toArray, List.set_cons_zero, List.set_cons_succ])
      refine wpAnyZ_take (i := 11) (oi := ⟨_, _, _, _, _, _⟩) (v := undef) rfl (by kernel_rfl) (by kernel_rfl) (by kernel_rfl) (by kernel_rfl) (by kernel_rfl) (fun _ _ _ h => h) (Or.inr ⟨by rfl, rfl⟩) (by assumption) ?_
      (try simp only [Act.put, List.setIfInBounds_toArray, List.set_cons_zero, List.set_cons_succ])
      refine wpAnyZ_take (i := 12) (oi := ⟨_, _, _, _, _, _⟩) (v := undef) rfl (by kernel_rfl) (by kernel_rfl) (by kernel_rfl) (by kernel_rfl) (by kernel_rfl) (fun _ _ _ h => h) (Or.inr ⟨by rfl, rfl⟩) (by assumption) ?_
      (try simp only [Act.put, List.setIfInBounds_toArray, List.set_cons_zero, List.set_cons_succ])
      refine wpAnyZ_take (i := 13) (oi := ⟨_, _, _, _, _, _⟩) (v := undef) rfl (by kernel_rfl) (by kernel_rfl) (by kernel_rfl) (by kernel_rfl) (by kernel_rfl) (fun _ _ _ h => h) (Or.inr ⟨by rfl, rfl⟩) (by assumption) ?_
      (try simp only [Act.put, List.setIfInBounds_toArray, List.set_cons_zero, List.set_cons_succ])
      refine wpAnyZ_take (i := 14) (oi := ⟨_, _, _, _, _, _⟩) (v := undef) rfl (by kernel_rfl) (by kernel_rfl) (by kernel_rfl) (by kernel_rfl) (by kernel_rfl) (fun _ _ _ h => h) (Or.inr ⟨by rfl, rfl⟩) (by assumption) ?_
      (try simp only [Act.put, List.setIfInBounds_toArray, List.set_cons_zero, List.set_cons_succ])
      refine wpAnyZ_take (i := 15) (oi := ⟨_, _, _, _, _, _⟩) (v := undef) rfl (by kernel_rfl) (by kernel_rfl) (by kernel_rfl) (by kernel_rfl) (by kernel_rfl) (fun _ _ _ h => h) (Or.inr ⟨by rfl, rfl⟩) (by assumption) ?_
      (try simp only [Act.put, List.setIfInBounds_toArray, List.set_cons_zero, List.set_cons_succ])
      refine wpAnyZ_take (i := 16) (oi := ⟨_, _, _, _, _, _⟩) (v := undef) rfl (by kernel_rfl) (by kernel_rfl) (by kernel_rfl) (by kernel_rfl) (by kernel_rfl) (fun _ _ _ h => h) (Or.inr ⟨by rfl, rfl⟩) (by assumption) ?_
      (try simp only [Act.put, List.setIfInBounds_toArray, List.set_cons_zero, List.set_cons_succ])
      refine wpAnyZ_take (i := 17) (oi := ⟨_, _, _, _, _, _⟩) (v := undef) rfl (by kernel_rfl) (by kernel_rfl) (by kernel_rfl) (by kernel_rfl) (by kernel_rfl) (fun _ _ _ h => h) (Or.inr ⟨by rfl, rfl⟩) (by assumption) ?_
      (try simp only [Act.put, List.setIfInBounds_toArray, List.set_cons_zero, List.set_cons_succ])
      refine wpAnyZ_take (i := 18) (oi := ⟨_, _, _, _, _, _⟩) (v := undef) rfl (by kernel_rfl) (by kernel_rfl) (by kernel_rfl) (by kernel_rfl) (by kernel_rfl) (fun _ _ _ h => h) (Or.inr ⟨by rfl, rfl⟩) (by assumption) ?_
      (try simp only [Act.put, List.setIfInBounds_toArray, List.set_cons_zero, List.set_cons_succ])
      refine wpAnyZ_take (i := 19) (oi := ⟨_, _, _, _, _, _⟩) (v := ?_) rfl (by kernel_rfl) (by kernel_rfl) (by kernel_rfl) (by kernel_rfl) (by kernel_rfl) (fun _ _ _ h => h) (Or.inl ⟨by rfl, ?_⟩) (by assumption) ?_
      rotate_left
      · intro W hSw
        (try dsimp only at hSw)
        go_simp
        (try with_reducible rfl)
      (try simp only [Act.put, List.setIfInBounds_toArray, List.set_cons_zero, List.set_cons_succ])
      refine wpAnyZ_take (i := 20) (oi := ⟨_, _, _, _, _, _⟩) (v := ?_) rfl (by kernel_rfl) (by kernel_rfl) (by kernel_rfl) (by kernel_rfl) (by kernel_rfl) (fun _ _ _ h => h) (Or.inl ⟨by rfl, ?_⟩) (by assumption) ?_
      rotate_left
      · intro W hSw
        (try dsimp only at hSw)
        go_simp
        (try with_reducible rfl)
      (try simp only [Act.put, List.setIfInBounds_toArray, List.set_cons_zero, List.set_cons_succ])
      refine wpAnyZ_take (i := 21) (oi := ⟨_, _, _, _, _, _⟩) (v := ?_) rfl (by kernel_rfl) (by kernel_rfl) (by kernel_rfl) (by kernel_rfl) (by kernel_rfl) (fun _ _ _ h => h) (Or.inl ⟨by rfl, ?_⟩) (by assumption) ?_
      rotate_left
      · intro W hSw
        (try dsimp only at hSw)
        go_simp
        (try with_reducible rfl)
      (try simp only [Act.put, List.setIfInBounds_toArray, List.set_cons_zero, List.set_cons_succ])
      refine wpAnyZ_done (by kernel_rfl) ?_ _
      refine NoPanic.normal ?_
      clear hHeld
      go_wp2
      go_ret2
      exact gives_at HAT.out.symm HHAS.out.symm (HB.out.trans (HU.out.mono HB.out.size))
set_option maxRecDepth 100000 in
theorem deed_any (w : World) (kf : Nat) (v : Value) (left done : Int) (h : FsBox w kf v left done) (hd0 : 0 ≤ done) (hd1 : done ≤ 4611686018427387904) (hl0 : -1 ≤ left) (hl1 : left ≤ 9223372036854775807) (l : List Fl) :
    Calls Tryd.prog 46 #[.pointer (some ⟨kf, 0, none⟩)] w fun e w' => e = .returned (.bool (mayF ⟨l, left, done⟩)) ∧ Hid (FsBox w' kf v (deedF ⟨l, left, done⟩).left (deedF ⟨l, left, done⟩).done) ∧ Hid (w.grownBy w' (some kf)) := by
  have H := Lib.hid h
  have t1 := h.c1
  have t2 := h.c2
  have f1 := h.free 1
  have f2 := h.free 2
  clear h
  by_cases h0 : left = 0
  · have hd : (left == 0) = true := by rw [h0]; rfl
    have HM : Hid (mayF ⟨l, left, done⟩ = false) := by show _ = _; unfold mayF; simp [h0]
    have HD : Hid (deedF ⟨l, left, done⟩ = ⟨l, left, done⟩) := by show _ = _; unfold deedF; rw [if_pos h0]
    clear h0
    go_enter Tryd.func46, Tryd.ntmps46
    go_wp2
    go_ret
    exact ⟨by rw [HM.out]; rfl, by rw [HD.out]; exact H.out, grow_refl w _⟩
  · have hd : (left == 0) = false := beq_false_of_ne h0
    have HM : Hid (mayF ⟨l, left, done⟩ = true) := by show _ = _; unfold mayF; simp [h0]
    by_cases hp : 0 < left
    · have hd2 : decide (0 < left) = true := decide_eq_true hp
      have HD : Hid (deedF ⟨l, left, done⟩ = ⟨l, left - 1, done + 1⟩) := by show _ = _; unfold deedF; rw [if_neg h0, if_pos hp]
      clear h0
      go_enter Tryd.func46, Tryd.ntmps46
      go_wp2
      go_ret
      exact ⟨by rw [HM.out]; rfl, by rw [HD.out]; exact (H.out.s1 (left - 1)).s2 (done + 1), grow_set (grow_set (grow_refl w _) 1 _) 2 _⟩
    · have hd2 : decide (0 < left) = false := decide_eq_false hp
      have HD : Hid (deedF ⟨l, left, done⟩ = ⟨l, left, done + 1⟩) := by show _ = _; unfold deedF; rw [if_neg h0, if_neg hp]
      clear h0 hp
      go_enter Tryd.func46, Tryd.ntmps46
      go_wp2
      go_ret
      exact ⟨by rw [HM.out]; rfl, by rw [HD.out]; exact H.out.s2 (done + 1), grow_set (grow_refl w _) 2 _⟩
end Go.Proofs.YtjocfkkcnkpjdaaDoor
