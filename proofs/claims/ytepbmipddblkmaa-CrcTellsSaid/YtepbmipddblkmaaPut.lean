/- The contract of 'Put': four bytes of the sum, and the bytes behind them, in a new block. -/
import Derived.Test.YtepbmipddblkmaaStored
import Derived.Laws.CopyOwn
import Derived.Deep.DeepFit
namespace Go.Proofs.Ytepbmipddblkmaa
open Go.RowKit Go.CrcMath
set_option linter.unusedVariables false

def byte (b : Nat) : Value := .int .u8 (b : Int)
def vals (bs : List Nat) : List Value := bs.map byte
/-- Block g is known whole: the bytes bs. -/
def Own (w : World) (g : Nat) (bs : List Nat) : Prop := w.heap[g]? = some (.cells (vals bs).toArray 5 (0, 0))
theorem length_vals (bs : List Nat) : (vals bs).length = bs.length := by simp [vals]
theorem vals_append (a b : List Nat) : vals (a ++ b) = vals a ++ vals b := by simp [vals]
theorem Own.cell {w : World} {g : Nat} {bs : List Nat} (h : Own w g bs) (i : Nat) (hi : i < bs.length) : w.cell? ⟨g, i, none⟩ = some (.int .u8 (bs.getD i 0 : Nat)) := by
  rw [cell_of_row w g i _ _ _ h]
  simp [vals, hi, byte]
theorem Own.free {w : World} {g : Nat} {bs : List Nat} (h : Own w g bs) (i : Nat) : w.frozen? ⟨g, i, none⟩ = false := frozen_of_row w g i _ _ h
theorem Own.byt {w : World} {g : Nat} {bs : List Nat} (h : Own w g bs) (ha : AllB bs) (cap : Nat) (hc : bs.length ≤ cap) : Byt w (some ⟨g, 0, none⟩) bs.length cap bs :=
  ⟨rfl, hc, ha, .inr ⟨g, 0, rfl, fun i hi => by rw [Nat.zero_add]; exact h.cell i hi⟩⟩
theorem Own.keep {w w' : World} {g : Nat} {bs : List Nat} (h : Own w g bs) {B : Nat} (hb : Below B w w') (hg : g < B) : Own w' g bs := by
  show w'.heap[g]? = _
  rw [hb.block g hg]; exact h
theorem Own.lt {w : World} {g : Nat} {bs : List Nat} (h : Own w g bs) : g < w.heap.size := (Array.getElem?_eq_some_iff.1 h).1
theorem Own.set {w : World} {g : Nat} {bs : List Nat} (h : Own w g bs) (i : Nat) (x : Nat) : Own (w.setCell ⟨g, i, none⟩ (.int .u8 x)) g (bs.set i x) := by
  have := heap_setCell_same w g i _ _ (.int .u8 x) h
  show (w.setCell ⟨g, i, none⟩ (.int .u8 x)).heap[g]? = some (.cells (vals (bs.set i x)).toArray 5 (0, 0))
  rw [this]
  congr 2
  simp [vals, byte]
theorem Byt.keep {w w' : World} {ad : Option Addr} {len cap : Nat} {bs : List Nat} (h : Byt w ad len cap bs) {B : Nat} (hb : Below B w w') (hB : w.heap.size ≤ B) : Byt w' ad len cap bs := by
  refine ⟨h.length, h.fits, h.all, ?_⟩
  rcases h.cells with h0 | ⟨b, off, e, hc⟩
  · exact .inl h0
  · refine .inr ⟨b, off, e, fun i hi => ?_⟩
    have := hc i hi
    rw [hb.cell (p := ⟨b, off + i, none⟩) (by have := World.block_lt_of_cell? w _ this; exact Nat.lt_of_lt_of_le this hB)]
    exact this
theorem own_made {w : World} {base g n : Nat} {xs : List Value} (h : w.ownsRow base 5 1 (.slice (some ⟨g, 0, none⟩) n n) n xs) : w.heap[g]? = some (.cells xs.toArray 5 (0, 0)) := by
  rcases h.2 with ⟨h', _⟩ | ⟨g', cap', cur, h', _, hg, _, _, hs, htake⟩
  · simp at h'
  · simp only [Value.slice.injEq, Option.some.injEq, Addr.mk.injEq, and_true, true_and] at h'
    obtain ⟨rfl, rfl⟩ := h'
    rw [hg, ← htake, List.take_of_length_le (by simp [hs])]
theorem info5 : (Try.prog.info? 5).map (fun i => (i.zero, i.size, i.bytes)) = some (some (.int .u8 0), 1, 1) := by kernel_rfl

theorem own_zero {w : World} {g n : Nat} (h : w.heap[g]? = some (.cells (madeCells (Value.int .u8 0).cells (n * 1)).toList.toArray 5 (0, 0))) : Own w g (List.replicate n 0) := by
  show w.heap[g]? = _
  rw [h, Nat.mul_one]
  have : (madeCells (Value.int .u8 0).cells n).toList = vals (List.replicate n 0) := by
    have := toList_madeCells_one (.int .u8 0) n
    rw [show (Value.int .u8 0).cells = #[.int .u8 0] from rfl, this]
    simp [vals, byte]
  rw [this]
/-- The world behind the four stores. -/
def putW (w0 : World) (g c : Nat) : World :=
  (((w0.setCell ⟨g, 0, none⟩ (.int .u8 ((c : Int) % 256))).setCell ⟨g, 1, none⟩ (.int .u8 ((c : Int) / 256 % 256))).setCell ⟨g, 2, none⟩ (.int .u8 ((c : Int) / 65536 % 256))).setCell ⟨g, 3, none⟩ (.int .u8 ((c : Int) / 16777216))
theorem put_own (w0 : World) (g len c : Nat) (h : Own w0 g (List.replicate (len + 4) 0)) (hc : c < 4294967296) : Own (putW w0 g c) g (leB c ++ List.replicate len 0) := by
  have h4 := (((h.set 0 (c % 256)).set 1 (c / 256 % 256)).set 2 (c / 65536 % 256)).set 3 (c / 16777216 % 256)
  have e3 : (((c / 16777216 % 256 : Nat)) : Int) = (c : Int) / 16777216 := by omega
  rw [e3] at h4
  have e : ((((List.replicate (len + 4) 0).set 0 (c % 256)).set 1 (c / 256 % 256)).set 2 (c / 65536 % 256)).set 3 (c / 16777216 % 256) = leB c ++ List.replicate len 0 := by
    rw [show List.replicate (len + 4) 0 = 0 :: 0 :: 0 :: 0 :: List.replicate len 0 from rfl]
    rfl
  rw [e] at h4
  exact h4
theorem put_below {w w0 : World} {B : Nat} (hb : Below B w w0) (g c : Nat) (hg : B ≤ g) : Below B w (putW w0 g c) :=
  (((hb.setCell (p := ⟨g, 0, none⟩) hg _).setCell (p := ⟨g, 1, none⟩) hg _).setCell (p := ⟨g, 2, none⟩) hg _).setCell (p := ⟨g, 3, none⟩) hg _
theorem size5 : (Try.prog.info? 5).map (·.size) = some 1 := by kernel_rfl
theorem vals_one (bs : List Nat) : ∀ v ∈ vals bs, v.oneCell' = true := by
  intro v hv
  obtain ⟨b, _, rfl⟩ := List.mem_map.1 hv
  rfl
theorem Byt.source {w : World} {ad : Option Addr} {len cap : Nat} {bs : List Nat} (h : Byt w ad len cap bs) (hp : 0 < len) : ∃ a, ad = some a ∧ ∀ j v, (vals bs)[j]? = some v → w.cell? (a.add j) = some v := by
  rcases h.cells with h0 | ⟨b, off, e, hc⟩
  · omega
  · refine ⟨_, e, fun j v hj => ?_⟩
    have hjl : j < bs.length := by
      have := (List.getElem?_eq_some_iff.1 hj).1
      simpa [vals] using this
    have h1 := hc j (by rw [h.length] at hjl; exact hjl)
    have h2 : (⟨b, off, none⟩ : Addr).add j = ⟨b, off + j, none⟩ := by
      unfold Addr.add
      split
      · rename_i h3; subst h3; rfl
      · rfl
    rw [h2, h1]
    rw [← hj]
    simp [vals, byte, hjl]
theorem put_splice (c : Nat) (bs : List Nat) : splice (vals (leB c ++ List.replicate bs.length 0)) 4 (vals bs) = vals (leB c ++ bs) := by
  have h4 : (vals (leB c)).length = 4 := rfl
  rw [vals_append, splice, List.take_append_of_le_length (by rw [h4]; omega), List.take_of_length_le (by rw [h4]; omega), List.drop_eq_nil_of_le (by simp [vals, leB]; omega), List.append_nil, vals_append]
set_option maxHeartbeats 400000 in
theorem put_any (w : World) (ad : Option Addr) (len cap : Nat) (bs : List Nat) (h : Byt w ad len cap bs) (hL : len ≤ 140737488355300) :
    Calls Try.prog 11 #[.slice ad len cap] w fun e w' => ∃ g, e = .returned (.slice (some ⟨g, 0, none⟩) (len + 4) (len + 4)) ∧ w.heap.size ≤ g ∧ Own w' g (sealB bs) ∧ Below w.heap.size w w' := by
  obtain ⟨i0, hi, hz0, hz1, hz2⟩ := info_parts info5
  have HB := Lib.hid h
  clear h
  go_enter Try.func11, Try.ntmps11
  go_wp2_with (first | (at_make; refine wpList_make_full _ rfl _ _ 22 rfl w.heap.size 5 i0 (.int .u8 0) 1 Try.underlying22 hi hz0 hz1 .i64 .i64 _ _ (len + 4) rfl rfl (by omega) (by omega) (by rw [hz2]; omega) (by unfold maxLen; omega) (Nat.le_refl _) ?_; intro w0 hown0 hgrow0))
  have hb0 : Below w.heap.size w w0 := (Below.refl _ _).grown hgrow0 (Nat.le_refl _) (by simp)
  have O0 : Own w0 w.heap.size (List.replicate (len + 4) 0) := own_zero (own_made hown0)
  have hg0 : w.heap.size < w0.heap.size := (hown0.lt _ rfl).2
  clear hown0 hgrow0
  refine (of_any _ _ _ _ _ (HB.out.keep hb0 (Nat.le_refl _)) (by omega)).mono ?_
  rintro e w' ⟨rfl, rfl⟩
  have hsl := ofB_lt HB.out.all
  obtain ⟨c, hc⟩ : ∃ c, c = ofB bs := ⟨_, rfl⟩
  rw [← hc] at hsl ⊢
  have HCC := Lib.hid hc
  clear hc
  have hcell : ∀ i, i < 4 → w0.cell? ⟨w.heap.size, i, none⟩ = some (.int .u8 0) := fun i hi => by
    rw [O0.cell i (by simp; omega)]
    simp [List.getD_eq_getElem?_getD, show i < len + 4 by omega]
  have k0 := hcell 0 (by omega)
  have k1 := hcell 1 (by omega)
  have k2 := hcell 2 (by omega)
  have k3 := hcell 3 (by omega)
  have f0 := O0.free 0
  have f1 := O0.free 1
  have f2 := O0.free 2
  have f3 := O0.free 3
  have P1 : Own (putW w0 w.heap.size c) w.heap.size (leB c ++ List.replicate len 0) := put_own w0 w.heap.size len c O0 hsl
  have P2 : Below w.heap.size w (putW w0 w.heap.size c) := put_below hb0 _ _ (Nat.le_refl _)
  have P3 : Byt (putW w0 w.heap.size c) ad len cap bs := HB.out.keep P2 (Nat.le_refl _)
  have P4 : bs.length = len := HB.out.length
  have HP1 := Lib.hid P1
  have HP2 := Lib.hid P2
  have HP3 := Lib.hid P3
  have HP4 := Lib.hid P4
  clear O0 hcell P1 P2 P3 P4 hb0
  by_cases hz : len = 0
  · subst hz
    go_wp2
    refine wp_loop_rounds 5 ?_
    rw [rounds_succ]
    go_wp2
    rw [rounds_succ]
    go_wp2
    rw [rounds_succ]
    go_wp2
    rw [rounds_succ]
    go_wp2
    rw [rounds_succ]
    go_wp2_with (with_reducible refine wpList_copy_splice rfl (.tmp 25) (.tmp 26) 22 22 rfl 5 Try.underlying22 size5 _ _ _ _ _ _ rfl rfl w.heap.size 4 (vals (leB c ++ List.replicate 0 0)) 5 ?_ (vals bs) ?_ ?_ ?_ (vals_one bs) w.heap.size w ?_ (Nat.le_refl _) ?_)
    · exact HP1.out
    · rw [length_vals, HP4.out]; simp
    · intro hp
      rw [length_vals, HP4.out] at hp
      omega
    · rw [length_vals, length_vals, HP4.out]; simp [leB]
    · exact HP2.out
    · intro w2 HG2 hB2
      have R : Hid (Own w2 w.heap.size (sealB bs)) := by
        have h1 := HG2.out
        have h2 := put_splice c bs
        rw [HP4.out] at h2
        simp only [List.replicate_zero, List.append_nil] at h2
        rw [h2, HCC.out] at h1
        exact h1
      clear HG2
      go_wp2
      go_ret
      exact ⟨w.heap.size, rfl, Nat.le_refl _, R.out, hB2⟩
  · have hz' : ¬ len = 0 := hz
    go_wp2
    refine wp_loop_rounds 5 ?_
    rw [rounds_succ]
    go_wp2
    rw [rounds_succ]
    go_wp2
    rw [rounds_succ]
    go_wp2
    rw [rounds_succ]
    go_wp2
    rw [rounds_succ]
    go_wp2_with (with_reducible refine wpList_copy_splice rfl (.tmp 25) (.tmp 26) 22 22 rfl 5 Try.underlying22 size5 _ _ _ _ _ _ rfl rfl w.heap.size 4 (vals (leB c ++ List.replicate len 0)) 5 ?_ (vals bs) ?_ ?_ ?_ (vals_one bs) w.heap.size w ?_ (Nat.le_refl _) ?_)
    · exact HP1.out
    · rw [length_vals, HP4.out]; simp
    · intro hp
      rw [length_vals, HP4.out] at hp
      exact HP3.out.source hp
    · rw [length_vals, length_vals, HP4.out]; simp only [leB, List.length_append, List.length_cons, List.length_nil, List.length_replicate]; omega
    · exact HP2.out
    · intro w2 HG2 hB2
      have R : Hid (Own w2 w.heap.size (sealB bs)) := by
        have h1 := HG2.out
        have h2 := put_splice c bs
        rw [HP4.out] at h2
        rw [h2, HCC.out] at h1
        exact h1
      clear HG2
      go_wp2
      go_ret
      exact ⟨w.heap.size, rfl, Nat.le_refl _, R.out, hB2⟩
end Go.Proofs.Ytepbmipddblkmaa
