/- sort.Slice over names, by a 'less' that makes memory: what List's own closure tells; the row is sorted. -/
import Derived.Test.YtjocfkkcnkpjdaaDoorSortPdq
import Derived.Test.YtjocfkkcnkpjdaaDoorNameLessOne
import Derived.Test.YtjocfkkcnkpjdaaDoorCfMem
import Derived.Test.YtjocfkkcnkpjdaaDoorRegionZ
import Derived.Shelf.SlSortFunc.BreakPatterns
import Derived.Shelf.GgSortFunc.Tiny
import Derived.Sort.WalkA14
namespace Go.Proofs.YtjocfkkcnkpjdaaDoor
open Go.RowKit Go.Sort
open Go.RuneMath
open Go.FsMath
set_option linter.unusedVariables false

theorem Tabs.kept {w w' : World} {F : Nat → Prop} (h : Tabs w) (hk : Kept w w' F) (h0 : ¬ F 0) (h1 : ¬ F 1) : Tabs w' := by
  obtain ⟨t1, t2⟩ := h
  have hc : ∀ b, ¬ F b → ∀ o v, w.cell? ⟨b, o, none⟩ = some v → w'.cell? ⟨b, o, none⟩ = some v := fun b hb o v e => by
    have e1 := hk.block b (World.block_lt_of_cell? w _ e) hb
    unfold World.cell? at e ⊢
    simp only [e1]
    exact e
  exact ⟨fun c hcc => hc 0 h0 _ _ (t1 c hcc), fun i hi => ⟨hc 1 h1 _ _ (t2 i hi).1, hc 1 h1 _ _ (t2 i hi).2⟩⟩
set_option maxRecDepth 100000 in
set_option maxHeartbeats 4000000 in
theorem listLess_any (w : World) (Bs blk n cap i j : Nat) (a b : ByteArray) (hB : w.cell? ⟨Bs, 0, none⟩ = some (.slice (some ⟨blk, 0, none⟩) n cap)) (hi : i < n) (hj : j < n)
    (ca : w.cell? ⟨blk, i, none⟩ = some (.string a)) (cb : w.cell? ⟨blk, j, none⟩ = some (.string b)) (hT : Tabs w) :
    Calls Tryd.prog 39 #[.int .i64 (i : Int), .int .i64 (j : Int), .pointer (some ⟨Bs, 0, none⟩)] w fun e w' => e = .returned (.bool (lessS a b)) ∧ Below w.heap.size w w' := by
  have hii : (i : Int) < (n : Int) := by omega
  have hjj : (j : Int) < (n : Int) := by omega
  have HT := Lib.hid hT
  have KS : Hid (∀ W, Below w.heap.size w W → (fun (W : World) => W.cell? ⟨Bs, 0, none⟩ = some (.slice (some ⟨blk, 0, none⟩) n cap) ∧ W.cell? ⟨blk, i, none⟩ = some (.string a) ∧ W.cell? ⟨blk, j, none⟩ = some (.string b)) W) := fun W hW => ⟨(hW.cell (p := ⟨Bs, 0, none⟩) (World.block_lt_of_cell? _ _ hB)).trans hB, (hW.cell (p := ⟨blk, i, none⟩) (World.block_lt_of_cell? _ _ ca)).trans ca, (hW.cell (p := ⟨blk, j, none⟩) (World.block_lt_of_cell? _ _ cb)).trans cb⟩
  have hdrw : Below w.heap.size w w.drew := (Below.refl _ w).drew
  obtain ⟨q, hq⟩ : ∃ q, lessS a b = q := ⟨_, rfl⟩
  have HQ := Lib.hid hq
  clear hT hB ca cb hq
  go_enter Tryd.func39, Tryd.ntmps39
  go_upto_region 1 with fail
  refine wp_region_noPanic ?_
  refine wp_region_z [] (fun (W : World) => W.cell? ⟨Bs, 0, none⟩ = some (.slice (some ⟨blk, 0, none⟩) n cap) ∧ W.cell? ⟨blk, i, none⟩ = some (.string a) ∧ W.cell? ⟨blk, j, none⟩ = some (.string b)) (by kernel_rfl) ?_
  have hHeld : (fun (W : World) => W.cell? ⟨Bs, 0, none⟩ = some (.slice (some ⟨blk, 0, none⟩) n cap) ∧ W.cell? ⟨blk, i, none⟩ = some (.string a) ∧ W.cell? ⟨blk, j, none⟩ = some (.string b)) _ := KS.out _ hdrw
  obtain ⟨u0, hu0⟩ : ∃ u, u = w.drew := ⟨_, rfl⟩
  rw [← hu0] at hHeld hdrw
  rw [← hu0]
  clear hu0
  have HB0 := Lib.hid hdrw
  clear hdrw
  refine wpAnyZ_take (i := 0) (oi := ⟨_, _, _, _, _, _⟩) (v := ?_) rfl (by kernel_rfl) (by kernel_rfl) (by kernel_rfl) (by kernel_rfl) (by kernel_rfl) (fun _ _ _ h => h) (Or.inl ⟨by rfl, ?_⟩) (by assumption) ?_
  rotate_left
  · intro W hSw
    (try dsimp only at hSw)
    go_simp
    (try with_reducible rfl)
  (try simp only [Act.put, List.setIfInBounds_toArray, List.set_cons_zero, List.set_cons_succ])
  refine wpAnyZ_take (i := 1) (oi := ⟨_, _, _, _, _, _⟩) (v := ?_) rfl (by kernel_rfl) (by kernel_rfl) (by kernel_rfl) (by kernel_rfl) (by kernel_rfl) (fun _ _ _ h => h) (Or.inl ⟨by rfl, ?_⟩) (by assumption) ?_
  rotate_left
  · intro W hSw
    (try dsimp only at hSw)
    go_simp
    (try with_reducible rfl)
  (try simp only [Act.put, List.setIfInBounds_toArray, List.set_cons_zero, List.set_cons_succ])
  refine wpAnyZ_take (i := 2) (oi := ⟨_, _, _, _, _, _⟩) (v := ?_) rfl (by kernel_rfl) (by kernel_rfl) (by kernel_rfl) (by kernel_rfl) (by kernel_rfl) (fun _ _ _ h => h) (Or.inl ⟨by rfl, ?_⟩) (by assumption) ?_
  rotate_left
  · intro W hSw
    (try dsimp only at hSw)
    go_simp
    (try with_reducible rfl)
  (try simp only [Act.put, List.setIfInBounds_toArray, List.set_cons_zero, List.set_cons_succ])
  refine wpAnyZ_take (i := 3) (oi := ⟨_, _, _, _, _, _⟩) (v := ?_) rfl (by kernel_rfl) (by kernel_rfl) (by kernel_rfl) (by kernel_rfl) (by kernel_rfl) (fun _ _ _ h => h) (Or.inl ⟨by rfl, ?_⟩) (by assumption) ?_
  rotate_left
  · intro W hSw
    (try dsimp only at hSw)
    go_simp
    (try with_reducible rfl)
  (try simp only [Act.put, List.setIfInBounds_toArray, List.set_cons_zero, List.set_cons_succ])
  refine wpAnyZ_take (i := 4) (oi := ⟨_, _, _, _, _, _⟩) (v := ?_) rfl (by kernel_rfl) (by kernel_rfl) (by kernel_rfl) (by kernel_rfl) (by kernel_rfl) (fun _ _ _ h => h) (Or.inl ⟨by rfl, ?_⟩) (by assumption) ?_
  rotate_left
  · intro W hSw
    (try dsimp only at hSw)
    go_simp
    (try with_reducible rfl)
  (try simp only [Act.put, List.setIfInBounds_toArray, List.set_cons_zero, List.set_cons_succ])
  refine wpAnyZ_take (i := 5) (oi := ⟨_, _, _, _, _, _⟩) (v := ?_) rfl (by kernel_rfl) (by kernel_rfl) (by kernel_rfl) (by kernel_rfl) (by kernel_rfl) (fun _ _ _ h => h) (Or.inl ⟨by rfl, ?_⟩) (by assumption) ?_
  rotate_left
  · intro W hSw
    (try dsimp only at hSw)
    go_simp
    (try with_reducible rfl)
  (try simp only [Act.put, List.setIfInBounds_toArray, List.set_cons_zero, List.set_cons_succ])
  refine wpAnyZ_take (i := 6) (oi := ⟨_, _, _, _, _, _⟩) (v := ?_) rfl (by kernel_rfl) (by kernel_rfl) (by kernel_rfl) (by kernel_rfl) (by kernel_rfl) (fun _ _ _ h => h) (Or.inl ⟨by rfl, ?_⟩) (by assumption) ?_
  rotate_left
  · intro W hSw
    (try dsimp only at hSw)
    go_simp
    (try with_reducible rfl)
  (try simp only [Act.put, List.setIfInBounds_toArray, List.set_cons_zero, List.set_cons_succ])
  refine wpAnyZ_take (i := 7) (oi := ⟨_, _, _, _, _, _⟩) (v := ?_) rfl (by kernel_rfl) (by kernel_rfl) (by kernel_rfl) (by kernel_rfl) (by kernel_rfl) (fun _ _ _ h => h) (Or.inl ⟨by rfl, ?_⟩) (by assumption) ?_
  rotate_left
  · intro W hSw
    (try dsimp only at hSw)
    go_simp
    (try with_reducible rfl)
  (try simp only [Act.put, List.setIfInBounds_toArray, List.set_cons_zero, List.set_cons_succ])
  refine wpAnyZ_ready (rs := [8]) (by kernel_rfl) (by simp) ?_
  refine AllReadyZ.cons (o := ⟨_, _, _, _, _, _⟩) rfl (fun C hC => ?_) AllReadyZ.nil
  go_simp
  refine (less_any _ a b (HT.out.keep HB0.out)).mono ?_
  rintro e u1 ⟨rfl, hb1⟩
  have HB1 := Lib.hid (HB0.out.trans (hb1.mono HB0.out.size))
  have HQ2 : Hid (lessB a.data.toList b.data.toList = q) := HQ.out
  rw [HQ2.out]
  clear hb1
  have hHeld : (fun (W : World) => W.cell? ⟨Bs, 0, none⟩ = some (.slice (some ⟨blk, 0, none⟩) n cap) ∧ W.cell? ⟨blk, i, none⟩ = some (.string a) ∧ W.cell? ⟨blk, j, none⟩ = some (.string b)) u1 := KS.out _ HB1.out
  refine hC.out _ _ (fun _ => hHeld) (fun _ => ?_)
  clear hC C
  (try simp only [Act.put, List.setIfInBounds_toArray, List.set_cons_zero, List.set_cons_succ])
  refine wpAnyZ_take (i := 9) (oi := ⟨_, _, _, _, _, _⟩) (v := ?_) rfl (by kernel_rfl) (by kernel_rfl) (by kernel_rfl) (by kernel_rfl) (by kernel_rfl) (fun _ _ _ h => h) (Or.inl ⟨by rfl, ?_⟩) (by assumption) ?_
  rotate_left
  · intro W hSw
    (try dsimp only at hSw)
    go_simp
    (try with_reducible rfl)
  (try simp only [Act.put, List.setIfInBounds_toArray, List.set_cons_zero, List.set_cons_succ])
  refine wpAnyZ_done (by kernel_rfl) ?_ _
  refine NoPanic.normal ?_
  clear hHeld
  go_wp2
  go_ret
  exact ⟨by rw [HQ.out]; rfl, HB1.out⟩
/-- A block that holds a row of names, and some room. -/
def RowIs (W : World) (blk cap : Nat) (d : Array ByteArray) : Prop := ∃ cur : Array Value, W.heap[blk]? = some (.cells cur 9 (0, 0)) ∧ cur.size = cap ∧ d.size ≤ cap ∧ ∀ (t : Nat) x, d[t]? = some x → cur[t]? = some (.string x)
theorem RowIs.holds {W : World} {blk cap : Nat} {d : Array ByteArray} (h : RowIs W blk cap d) : Holds Value.string W blk 0 d := by
  obtain ⟨cur, hb, hs, hd, hc⟩ := h
  intro j hj
  refine ⟨?_, frozen_of_row W blk _ _ _ hb⟩
  rw [Nat.zero_add]
  have h1 : d[j]? = some d[j]! := by rw [getElem!_pos d j hj]; exact Array.getElem?_eq_getElem hj
  have h2 := hc j _ h1
  unfold World.cell?
  simp only [hb]
  exact h2
theorem RowIs.lt {W : World} {blk cap : Nat} {d : Array ByteArray} (h : RowIs W blk cap d) : blk < W.heap.size := by
  obtain ⟨cur, hb, _⟩ := h
  exact (Array.getElem?_eq_some_iff.1 hb).1
theorem RowIs.same {W W' : World} {blk cap : Nat} {d : Array ByteArray} (h : RowIs W blk cap d) (e : W'.heap[blk]? = W.heap[blk]?) : RowIs W' blk cap d := by
  obtain ⟨cur, hb, r⟩ := h
  exact ⟨cur, e.trans hb, r⟩
theorem RowIs.put {W : World} {blk cap m : Nat} {d d' : Array ByteArray} {os : Array Obj} (h : RowIs W blk cap d) (hs : d'.size = d.size) : RowIs (sortWorld Value.string W blk 0 m d' os) blk cap d' ∧ W.grownBy (sortWorld Value.string W blk 0 m d' os) (some blk) := by
  have hlt := h.lt
  obtain ⟨cur, hb, hc, hd, hg⟩ := h
  have hsz : (putRow Value.string (Sort.ahead W m) blk 0 d').heap.size = W.heap.size := by simp [putRow, mapBlock, Sort.ahead]
  have hold : ∀ k, k < W.heap.size → (sortWorld Value.string W blk 0 m d' os).heap[k]? = (putRow Value.string (Sort.ahead W m) blk 0 d').heap[k]? := fun k hk => by
    unfold sortWorld grow
    simp only
    rw [Array.getElem?_append, if_pos (by rw [hsz]; exact hk)]
  refine ⟨⟨putCells Value.string 0 d' cur, ?_, ?_, by omega, fun t x hx => ?_⟩, ?_⟩
  · rw [hold blk hlt]
    unfold putRow mapBlock
    simp only [Array.getElem?_modify, if_true]
    show Option.map _ W.heap[blk]? = _
    rw [hb]
    rfl
  · unfold putCells
    rw [Array.size_mapIdx]
    exact hc
  · have ht : t < d'.size := (Array.getElem?_eq_some_iff.1 hx).1
    have htc : t < cur.size := by omega
    unfold putCells
    rw [Array.getElem?_mapIdx, Array.getElem?_eq_getElem htc]
    simp only [Option.map_some]
    rw [if_pos ⟨Nat.zero_le _, by omega⟩, Nat.sub_zero, getElem!_pos d' t ht]
    rw [Array.getElem?_eq_getElem ht] at hx
    rw [Option.some.inj hx]
  · refine ⟨rfl, rfl, rfl, ?_, fun k hk hne => ?_⟩
    · unfold sortWorld grow
      simp only [Array.size_append]
      rw [hsz]
      omega
    · rw [hold k hk]
      unfold putRow mapBlock
      simp only [Array.getElem?_modify]
      rw [if_neg fun e => hne (by rw [e])]
      rfl
theorem RowIs.swap {W : World} {blk cap i j : Nat} {d : Array ByteArray} (h : RowIs W blk cap d) (hi : i < d.size) (hj : j < d.size) : RowIs ((W.setCell ⟨blk, 0 + i, none⟩ (.string d[j]!)).setCell ⟨blk, 0 + j, none⟩ (.string d[i]!)) blk cap (swp d i j) := by
  obtain ⟨cur, hb, hc, hd, hg⟩ := h
  rw [Nat.zero_add, Nat.zero_add]
  have h2 := box_set (box_set hb i (.string d[j]!)) j (.string d[i]!)
  refine ⟨_, h2, by simp [hc], by rw [size_swp]; exact hd, fun t x hx => ?_⟩
  unfold swp at hx
  simp only [Array.getElem?_setIfInBounds, Array.size_setIfInBounds] at hx ⊢
  by_cases hjt : j = t
  · subst hjt
    rw [if_pos rfl, if_pos hj] at hx
    rw [if_pos rfl, if_pos (by omega)]
    rw [Option.some.inj hx]
  · rw [if_neg hjt] at hx ⊢
    by_cases hit : i = t
    · subst hit
      rw [if_pos rfl, if_pos hi] at hx
      rw [if_pos rfl, if_pos (by omega)]
      rw [Option.some.inj hx]
    · rw [if_neg hit] at hx ⊢
      exact hg t x hx
noncomputable def ssT : TypeInfo := (Tryd.prog.info? 32).get (by kernel_rfl)
noncomputable def ssE : TypeInfo := (Tryd.prog.info? 9).get (by kernel_rfl)
theorem ssK (n : Nat) (h2 : 2 ≤ n) : Lib.swapperK n ssE 24 = 4 := by
  have a : ssE.hasPointers = true := by kernel_rfl
  have b : (ssE.bytes == 8) = false := by kernel_rfl
  have c : (n == 0) = false := by simp; omega
  have d : (n == 1) = false := by simp; omega
  simp [Lib.swapperK, a, b, c, d]
/-- What is sorted: the row, and nothing else has turned since w0. -/
def SortI (w0 : World) (blk cap n : Nat) (d : Array ByteArray) (W : World) : Prop := RowIs W blk cap d ∧ Kept w0 W (fun i => i = blk) ∧ d.size = n
theorem lessS_ntrans {x y z : ByteArray} (h1 : lessS x y = false) (h2 : lessS y z = false) : lessS x z = false := by
  cases h : lessS x z
  · rfl
  · exfalso
    unfold lessS lessB at h h1 h2
    have t : ∀ a b : List Nat, lessR a b = false → lessR b a = false → a = b := less_tri
    cases hyx : lessR (runes y.data.toList) (runes x.data.toList)
    · rw [t _ _ h1 hyx] at h
      rw [h] at h2
      cases h2
    · rw [less_trans _ _ _ hyx h] at h2
      cases h2
theorem lessS_swo : SWO lessS := ⟨lessS_irr, fun x y z h k => lessS_trans h k, fun x y z h k => lessS_ntrans h k⟩
section
variable {w0 : World} {Bs blk cap n : Nat}
theorem swaps_str (blk n c : Nat) : SwapSwaps Tryd.prog 65 #[.slice (some ⟨blk, 0, none⟩) n c, typeHandle Tryd.prog 9] Value.string blk 0 n :=
  swapSwaps_of_literal true 65 (fun args W => run_callFunc_extern Tryd.func65 (by kernel_rfl) (by kernel_rfl) (by kernel_rfl) (e := Extern.ReflectliteSwapper.swap true) (by kernel_rfl) args W)
    9 ssE (by kernel_rfl) (by kernel_rfl) (fun _ => by kernel_rfl) Value.string (fun _ => rfl) blk 0 n c
theorem sort_ops (hB : w0.cell? ⟨Bs, 0, none⟩ = some (.slice (some ⟨blk, 0, none⟩) n cap)) (hne : Bs ≠ blk) (hbl : blk < w0.heap.size) (h2 : 2 ≤ blk) (hT : Tabs w0) (hn : n ≤ 1000000) :
    SortOps lessS 39 #[.pointer (some ⟨Bs, 0, none⟩)] 65 #[.slice (some ⟨blk, 0, none⟩) n cap, typeHandle Tryd.prog 9] blk w0.heap.size (SortI w0 blk cap n) where
  enters := enters_of Tryd.func39 (by kernel_rfl) rfl
  less := fun d W i j h hi hj => by
    obtain ⟨hr, hk, hd⟩ := h
    obtain ⟨cur, hb, hs, hdc, hg⟩ := hr
    have hcell : ∀ t, t < d.size → W.cell? ⟨blk, t, none⟩ = some (.string d[t]!) := fun t ht => by
      have h1 : d[t]? = some d[t]! := by rw [getElem!_pos d t ht]; exact Array.getElem?_eq_getElem ht
      have h3 := hg t _ h1
      unfold World.cell?
      simp only [hb]
      exact h3
    have hB' : W.cell? ⟨Bs, 0, none⟩ = some (.slice (some ⟨blk, 0, none⟩) n cap) := by
      have e1 := hk.block Bs (World.block_lt_of_cell? w0 _ hB) hne
      unfold World.cell? at hB ⊢
      simp only [e1]
      exact hB
    exact listLess_any W Bs blk n cap i j d[i]! d[j]! hB' (by omega) (by omega) (hcell i hi) (hcell j hj) (hT.kept hk (by omega) (by omega))
  swap := fun d W i j h hi hj => by
    obtain ⟨hr, hk, hd⟩ := h
    have hg : W.grownBy ((W.setCell ⟨blk, 0 + i, none⟩ (.string d[j]!)).setCell ⟨blk, 0 + j, none⟩ (.string d[i]!)) (some blk) := grow_set (grow_set (grow_refl W _) _ _) _ _
    exact ⟨_, swaps_str blk n cap W d hr.holds hd i j (by omega) (by omega), ⟨hr.swap hi hj, hk.trans (Kept.of_grown (F := fun i => i = blk) hg (.inl rfl)) fun i hi => .inl hi, by rw [size_swp]; exact hd⟩, hg⟩
  on := fun d W w' h hb => ⟨h.1.same (hb.block blk h.1.lt), h.2.1.trans (Kept.of_below (F := fun i => i = blk) hb) fun i hi => .inl hi, h.2.2⟩
  off := fun d W w' k h hg hk => ⟨h.1.same (hg.block blk h.1.lt fun e => by have := Option.some.inj e; omega), ⟨hg.os.trans h.2.1.os, hg.tape.trans h.2.1.tape, hg.output.trans h.2.1.output, Nat.le_trans h.2.1.size hg.size, fun j hj hn => (hg.block j (Nat.lt_of_lt_of_le hj h.2.1.size) fun e => by have := Option.some.inj e; omega).trans (h.2.1.block j hj hn)⟩, h.2.2⟩
  old := fun d W h => ⟨h.2.1.size, hbl⟩
  row := fun d W h => ⟨h.1.lt, by rw [h.2.2]; exact hn⟩
theorem sort_put {W : World} {d d' : Array ByteArray} {m : Nat} {os : Array Obj} (h : SortI w0 blk cap n d W) (hs : d'.size = d.size) : SortI w0 blk cap n d' (sortWorld Value.string W blk 0 m d' os) ∧ W.grownBy (sortWorld Value.string W blk 0 m d' os) (some blk) := by
  obtain ⟨h1, h2⟩ := h.1.put (m := m) (os := os) hs
  exact ⟨⟨h1, h.2.1.trans (Kept.of_grown (F := fun i => i = blk) h2 (.inl rfl)) fun i hi => .inl hi, hs.trans h.2.2⟩, h2⟩
theorem sort_breaks (hn : n ≤ 1000000) (lb : Array Value) : Breaks 39 lb 65 #[.slice (some ⟨blk, 0, none⟩) n cap, typeHandle Tryd.prog 9] blk (SortI w0 blk cap n) := fun d w a b h hab hb => by
  have hc := Any.breakPatterns_func_w (P := Tryd.prog) (ρ := Tryd.laysGg6_ren) { Tryd.laysGg6 with } Value.string (.func 39) #[] lb 65 _ blk 0 a b d w (by rw [h.2.2]; exact swaps_str blk n cap) h.1.holds h.1.lt hab hb (by rw [h.2.2]; omega)
  change Calls Tryd.prog 75 _ w _ at hc
  refine hc.mono ?_
  rintro e w' ⟨rfl, m, os, rfl⟩
  obtain ⟨h1, h2⟩ := sort_put h (breakPatterns_holds d a b hab hb).1 (m := m) (os := os)
  exact ⟨rfl, h1, h2⟩
theorem sort_revs (hn : n ≤ 1000000) (lb : Array Value) : Revs 39 lb 65 #[.slice (some ⟨blk, 0, none⟩) n cap, typeHandle Tryd.prog 9] blk (SortI w0 blk cap n) := fun d w a b h hab hb => by
  have hc := Any.reverseRange_func_w (P := Tryd.prog) (ρ := Tryd.laysGg6_ren) { Tryd.laysGg6 with } Value.string (.func 39) #[] lb 65 _ blk 0 a b d w (by rw [h.2.2]; exact swaps_str blk n cap) h.1.holds h.1.lt hab hb (by rw [h.2.2]; omega)
  change Calls Tryd.prog 77 _ w _ at hc
  refine hc.mono ?_
  rintro e w' ⟨rfl, m, os, rfl⟩
  obtain ⟨h1, h2⟩ := sort_put h (reverseRange_holds d a b hab hb).1 (m := m) (os := os)
  exact ⟨rfl, h1, h2⟩
/-- The row is sorted, whatever its length. -/
def Sorts (w : World) (blk cap : Nat) (d : Array ByteArray) (e : Ending) (w' : World) : Prop := e = .returned (.tuple #[]) ∧ ∃ d' : Array ByteArray, PermIn 0 d.size d d' ∧ SortedIn lessS 0 d.size d' ∧ RowIs w' blk cap d' ∧ Kept w w' (fun i => i = blk)
theorem grow_is_below (w : World) (os : Array Obj) : Below w.heap.size w (Sort.grow w os) := ⟨rfl, rfl, rfl, by rw [size_grow]; omega, fun k hk => heap_grow_old w os hk⟩
set_option maxRecDepth 100000 in
theorem slice_any (w : World) (Bs blk cap n : Nat) (d : Array ByteArray) (hd : d.size = n) (hr : RowIs w blk cap d) (hB : w.cell? ⟨Bs, 0, none⟩ = some (.slice (some ⟨blk, 0, none⟩) n cap)) (hne : Bs ≠ blk) (h2 : 2 ≤ blk) (hT : Tabs w) (hn : n ≤ 1000000) :
    Calls Tryd.prog 38 #[.iface 32 (.slice (some ⟨blk, 0, none⟩) n cap), .func (.func 39) #[] #[.pointer (some ⟨Bs, 0, none⟩)]] w (Sorts w blk cap d) := by
  by_cases hn2 : 2 ≤ n
  · have hS := sort_ops hB hne hr.lt h2 hT hn
    have hbo : ∃ os, sliceWorld Tryd.prog Tryd.laysGg6_ren 32 (some ⟨blk, 0, none⟩) n cap w = Sort.grow w os := by
      unfold sliceWorld
      rw [alloc_eq_grow, alloc_eq_grow, grow_grow]
      exact ⟨_, rfl⟩
    obtain ⟨os0, hos⟩ := hbo
    have hI : SortI w blk cap n d (sliceWorld Tryd.prog Tryd.laysGg6_ren 32 (some ⟨blk, 0, none⟩) n cap w) := by
      rw [hos]
      exact hS.on d w _ ⟨hr, Kept.refl w _, hd⟩ (grow_is_below w os0)
    have hp := pdq_any hS lessS_swo (sort_breaks hn _) (sort_revs hn _) (n + 1) 0 n (Lib.bitLen n) d _ (by omega) hI (Nat.zero_le _) (by omega) (by
      have : Lib.bitLen n ≤ 1000 := by
        have h1 : bitsLen n ≤ 20 := (bitsLen_le_iff n 20).2 (by omega)
        rw [bitLen_eq n (by omega)]
        omega
      exact this) (.inl rfl)
    have hc := Any.sort_Slice_of_pdq Tryd.laysGg6 32 9 ssT ssE (by kernel_rfl) (by kernel_rfl) (by kernel_rfl) (by kernel_rfl) 24 (fun _ => by kernel_rfl) (some ⟨blk, 0, none⟩) n cap (by omega) 65 (by rw [ssK n hn2]; kernel_rfl)
      (.func 39) #[] #[.pointer (some ⟨Bs, 0, none⟩)] w (fun w' => ∃ d' : Array ByteArray, PermIn 0 d.size d d' ∧ SortedIn lessS 0 d.size d' ∧ RowIs w' blk cap d' ∧ Kept w w' (fun i => i = blk)) (by
        have hsb : sliceBound Tryd.prog 9 ssE 24 (some ⟨blk, 0, none⟩) n cap = #[.slice (some ⟨blk, 0, none⟩) n cap, typeHandle Tryd.prog 9] := by
          unfold sliceBound
          rw [if_neg (swapperK_gt _ _ _ hn2)]
        rw [hsb]
        change Calls Tryd.prog 55 _ _ _
        refine hp.mono ?_
        rintro e w' ⟨rfl, hi, _⟩
        obtain ⟨p1, p2⟩ := pdq_sorts lessS lessS_swo d 0 n (Lib.bitLen n) true true (Nat.zero_le _) (by omega) (.inl rfl)
        exact ⟨rfl, _, by rw [hd]; exact p1, by rw [hd]; exact p2, hi.1, hi.2.1⟩)
    change Calls Tryd.prog 38 _ w _ at hc
    exact hc
  · have hc : Calls Tryd.prog 38 #[.iface 32 (.slice (some ⟨blk, 0, none⟩) n cap), .func (.func 39) #[] #[.pointer (some ⟨Bs, 0, none⟩)]] w fun e w' => e = .returned (.tuple #[]) ∧ ∃ os, w' = Sort.grow w os := by
      rcases (by omega : n = 0 ∨ n = 1) with h | h
      · rw [h]
        exact Any.sort_Slice_tiny Tryd.laysGg6 32 9 ssT ssE (by kernel_rfl) (by kernel_rfl) (by kernel_rfl) (by kernel_rfl) 24 (fun _ => by kernel_rfl) (some ⟨blk, 0, none⟩) 0 cap (by omega) 62 (by kernel_rfl) (.func 39) #[] #[.pointer (some ⟨Bs, 0, none⟩)] w
      · rw [h]
        exact Any.sort_Slice_tiny Tryd.laysGg6 32 9 ssT ssE (by kernel_rfl) (by kernel_rfl) (by kernel_rfl) (by kernel_rfl) 24 (fun _ => by kernel_rfl) (some ⟨blk, 0, none⟩) 1 cap (by omega) 63 (by kernel_rfl) (.func 39) #[] #[.pointer (some ⟨Bs, 0, none⟩)] w
    refine hc.mono ?_
    rintro e w' ⟨rfl, os, rfl⟩
    have hb := grow_is_below w os
    refine ⟨rfl, d, ⟨rfl, fun i _ => rfl, List.Perm.refl _⟩, fun i j _ hij hj => by omega, hr.same (hb.block blk hr.lt), Kept.of_below hb⟩
end
end Go.Proofs.YtjocfkkcnkpjdaaDoor
