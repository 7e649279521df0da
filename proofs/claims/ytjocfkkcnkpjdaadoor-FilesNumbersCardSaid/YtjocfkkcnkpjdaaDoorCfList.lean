/- Chapter 7's files as the code has them: List. -/
import Derived.Test.YtjocfkkcnkpjdaaDoorSortB
import Derived.Test.YtjocfkkcnkpjdaaDoorCfRename
namespace Go.Proofs.YtjocfkkcnkpjdaaDoor
open Go.RowKit
open Go.RuneMath
open Go.FsMath
set_option linter.unusedVariables false

theorem infoStr : (Tryd.prog.info? 9).map (fun i => (i.zero, i.size, i.bytes)) = some (some (.string ⟨#[]⟩), 1, 16) := by kernel_rfl
def strK : Kind ByteArray := ⟨fun s => [.string s], 1, 9, 32⟩
theorem strK_ok : strK.Ok 16 where
  und := Tryd.underlying32
  info := by
    obtain ⟨i, hi, hz, hs, hb⟩ := info_parts infoStr
    exact ⟨i, _, hi, hz, hs, hb, rfl⟩
  len := fun _ => rfl
  pos := by decide
  one := fun r u hu => by
    simp only [strK, List.mem_cons, List.not_mem_nil, or_false] at hu
    subst hu
    rfl
  few := by decide
theorem strK_all : ∀ l : List ByteArray, strK.all l = l.map Value.string
  | [] => rfl
  | a :: l => by
    show (strK.enc a ++ strK.all l) = _
    rw [strK_all l]
    rfl
theorem str_get {w : World} {ad : Option Addr} {len cap : Nat} {l : List ByteArray} (h : RowAt strK w ad len cap l) {i : Nat} (hi : i < len) : ∃ b off s, ad = some ⟨b, off, none⟩ ∧ b < w.heap.size ∧ l[i]? = some s ∧ w.cell? ⟨b, off + i, none⟩ = some (.string s) := by
  obtain ⟨b, off, k, e, hb, hk, hc⟩ := h.get hi
  have := hc 0 _ rfl
  rw [show i * strK.size + 0 = i from Nat.mul_one i] at this
  exact ⟨b, off, k, e, hb, hk, this⟩
theorem own_rowIs {w : World} {base g n cap : Nat} {l : List ByteArray} (h : OwnRow strK w base (.slice (some ⟨g, 0, none⟩) n cap) l) : RowIs w g cap l.toArray ∧ l.length = n ∧ base ≤ g := by
  rcases h.2 with ⟨h0, _⟩ | ⟨g', c', cur, e, hb, hh, hc, hm, hs, ht⟩
  · cases h0
  · cases e
    have hs' : cur.size = cap := by rw [hs]; exact Nat.mul_one _
    refine ⟨⟨cur, hh, hs', by simpa using hc, fun t x hx => ?_⟩, rfl, hb⟩
    have hx' : l[t]? = some x := by simpa using hx
    have h1 : (cur.toList.take (l.length * 1))[t]? = some (.string x) := by
      have e1 : cur.toList.take (l.length * strK.size) = l.map Value.string := by rw [ht, strK_all]
      rw [show l.length * 1 = l.length * strK.size from rfl, e1, List.getElem?_map, hx']
      rfl
    rw [List.getElem?_take] at h1
    split at h1
    · simpa using h1
    · cases h1
theorem rowIs_own {w : World} {base g cap n : Nat} {d : Array ByteArray} (h : RowIs w g cap d) (hb : base ≤ g) (hm : cap ≤ maxLen) (hn : d.size = n) : OwnRow strK w base (.slice (some ⟨g, 0, none⟩) n cap) d.toList := by
  obtain ⟨cur, hh, hs, hd, hc⟩ := h
  refine ⟨by rw [strK_all, List.length_map]; show _ = d.toList.length * 1; omega, .inr ⟨g, cap, cur, by rw [Array.length_toList, hn], hb, hh, by rw [Array.length_toList]; exact hd, hm, by rw [hs]; exact (Nat.mul_one _).symm, ?_⟩⟩
  rw [strK_all]
  refine List.ext_getElem? fun t => ?_
  rw [List.getElem?_take, List.getElem?_map, show d.toList.length * strK.size = d.size by rw [Array.length_toList]; exact Nat.mul_one _]
  by_cases ht : t < d.size
  · rw [if_pos ht]
    have h1 := hc t _ (Array.getElem?_eq_getElem ht)
    rw [Array.getElem?_toList, h1, Array.getElem?_toList, Array.getElem?_eq_getElem ht]
    rfl
  · rw [if_neg ht, Array.getElem?_toList, Array.getElem?_eq_none (by omega)]
    rfl
/-- Names in any order, sorted: the order of the files. -/
theorem sorted_names {l : List Fl} (hs : SortedF l) (hr : ∀ f ∈ l, rightS f.name) {d d' : Array ByteArray} (hd : d.toList.Perm (l.map (·.name))) (hp : Sort.PermIn 0 d.size d d') (ho : Sort.SortedIn lessS 0 d.size d') : d'.toList = l.map (·.name) := by
  have hp2 : d'.toList.Perm (l.map (·.name)) := by
    have h1 := hp.2.2
    rw [show d'.extract 0 d.size = d' by rw [← hp.1]; simp, show d.extract 0 d.size = d by simp] at h1
    exact h1.trans hd
  have hnd : d'.toList.Nodup := hp2.nodup_iff.2 hs.nodup
  have hall : ∀ x ∈ d'.toList, rightS x := fun x hx => by
    obtain ⟨f, hf, rfl⟩ := List.mem_map.1 (hp2.mem_iff.1 hx)
    exact hr f hf
  refine List.Perm.eq_of_pairwise (le := fun a b => lessS a b = true) (fun a b _ _ h1 h2 => by rw [lessS_asym h1] at h2; cases h2) ?_ hs hp2
  rw [List.pairwise_iff_getElem]
  intro i j hi hj hij
  have hi' : i < d'.size := by simpa using hi
  have hj' : j < d'.size := by simpa using hj
  have h1 := ho i j (Nat.zero_le _) hij (by rw [← hp.1]; exact hj')
  rw [getElem!_pos d' i hi', getElem!_pos d' j hj'] at h1
  have ei : d'.toList[i] = d'[i] := by simp
  have ej : d'.toList[j] = d'[j] := by simp
  cases h2 : lessS d'.toList[i] d'.toList[j]
  · exfalso
    have e := lessS_tri (hall _ (List.getElem_mem hi)) (hall _ (List.getElem_mem hj)) h2 (by rw [ei, ej]; exact h1)
    have := (List.getElem_inj hnd).1 e
    omega
  · rfl
/-- A box of a slice. -/
def OBox (w : World) (k : Nat) (v : Value) : Prop := w.heap[k]? = some (.cells #[v] 32 (0, 0))
section
variable {w w' : World} {k : Nat} {v : Value}
theorem OBox.c0 (h : OBox w k v) : w.cell? ⟨k, 0, none⟩ = some v := by rw [cell_of_row _ _ 0 _ _ _ h]; rfl
theorem OBox.free (h : OBox w k v) : w.frozen? ⟨k, 0, none⟩ = false := frozen_of_row w k 0 _ _ h
theorem OBox.old (h : OBox w k v) : k < w.heap.size := lt_of_block h
theorem OBox.on (h : OBox w k v) (hb : Below w.heap.size w w') : OBox w' k v := (hb.block k h.old).trans h
theorem OBox.set (h : OBox w k v) (u : Value) : OBox (w.setCell ⟨k, 0, none⟩ u) k u := box_set h 0 _
end
theorem slice_nil (w : World) (Bs : Nat) : Calls Tryd.prog 38 #[.iface 32 (.slice none 0 0), .func (.func 39) #[] #[.pointer (some ⟨Bs, 0, none⟩)]] w fun e w' => e = .returned (.tuple #[]) ∧ Below w.heap.size w w' := by
  have hc := Any.sort_Slice_tiny Tryd.laysGg6 32 9 ssT ssE (by kernel_rfl) (by kernel_rfl) (by kernel_rfl) (by kernel_rfl) 24 (fun _ => by kernel_rfl) none 0 0 (by omega) 62 (by kernel_rfl) (.func 39) #[] #[.pointer (some ⟨Bs, 0, none⟩)] w
  change Calls Tryd.prog 38 _ w _ at hc
  refine hc.mono ?_
  rintro e w' ⟨rfl, os, rfl⟩
  exact ⟨rfl, grow_is_below w os⟩
def GivesList (w : World) (l : List ByteArray) (e : Ending) (w' : World) : Prop := Below w.heap.size w w' ∧ ∃ ad cap, e = .returned (.slice ad l.length cap) ∧ OwnRow strK w' w.heap.size (.slice ad l.length cap) l
theorem gives_list {w w' : World} {l : List ByteArray} {ad : Option Addr} {n cap : Nat} (hb : Below w.heap.size w w') (hn : l.length = n) (ho : OwnRow strK w' w.heap.size (.slice ad n cap) l) : GivesList w l (.returned (.slice ad n cap)) w' := by
  subst hn
  exact ⟨hb, ad, cap, rfl, ho⟩
theorem max_cap {w : World} {base g n cap : Nat} {l : List ByteArray} (h : OwnRow strK w base (.slice (some ⟨g, 0, none⟩) n cap) l) : cap ≤ maxLen := by
  rcases h.2 with ⟨h0, _⟩ | ⟨g', c', cur, e, hb, hh, hc, hm, hs, ht⟩
  · cases h0
  · cases e
    exact hm
set_option maxRecDepth 100000 in
set_option maxHeartbeats 8000000 in
theorem cList_any (w : World) (kf km : Nat) (left done : Int) (ms : List CM) (h : CfOk w kf km left done ms) (hL : ms.length ≤ 10000) (hT : Tabs w) (h2 : 2 ≤ w.heap.size) :
    Calls Tryd.prog 12 #[.pointer (some ⟨kf, 0, none⟩)] w (GivesList w ((cls ms).map (·.name))) := by
  obtain ⟨Bs, hBs⟩ : ∃ b, b = w.heap.size := ⟨_, rfl⟩
  obtain ⟨w1, hw1⟩ : ∃ x, x = w.alloc (.cells #[.slice none 0 0] 32) := ⟨_, rfl⟩
  have hb1 : Below w.heap.size w w1 := by rw [hw1]; exact (Below.refl _ w).alloc (Nat.le_refl _) _
  have hs1 : w1.heap.size = Bs + 1 := by rw [hw1, hBs]; simp
  have HB1 : Hid (OBox w1 Bs (.slice none 0 0)) := by show OBox _ _ _; rw [hw1, hBs]; exact heap_alloc_new w _
  have H1 := Lib.hid (h.on hb1)
  obtain ⟨w2, hrange, hrg, hb2, hs2⟩ := map_range (P := Tryd.prog) mapT H1.out.map
  unfold ptrV at hrange
  rw [hs1] at hrange
  have hb12 : Below w.heap.size w w2 := hb1.trans (hb2.mono hb1.size)
  have HB2 := Lib.hid (HB1.out.on hb2)
  have HBL2 := Lib.hid hb12
  have HRG2 : Hid (Ranging w2 km (Bs + 1) (ms.map pk) (ms.map pk)) := by have := hrg; rw [hs1] at this; exact this
  have hs22 : w2.heap.size = Bs + 2 := by omega
  have HS2 := Lib.hid hs22
  have HKM : Hid (km < Bs) := by show _ < _; rw [hBs]; exact h.map.lt
  have t0 := H1.out.box.c0
  have HW1 := Lib.hid hw1
  have HBs := Lib.hid hBs
  have H := Lib.hid h
  have HT := Lib.hid hT
  clear h hT hw1 hb1 hs1 hrg hb2 hs2 hb12 hs22 hBs
  go_enter Tryd.func12, Tryd.ntmps12
  go_upto_region 2 with fail
  rw [← HW1.out, ← HBs.out]
  go_wp2_with fail
  go_loopw [] (fun wr => ∃ (out : List ByteArray) (lf : List (ByteArray × Nat)) (ad : Option Addr) (N cap : Nat), Hid (out.length = N) ∧ Hid (Ranging wr km (Bs + 1) (ms.map pk) lf) ∧ Hid (OBox wr Bs (.slice ad N cap)) ∧ Hid (OwnRow strK wr (Bs + 2) (.slice ad N cap) out) ∧ Hid ((out ++ lf.map (·.1)).Perm ((ms.map pk).map (·.1))) ∧ Hid (Below Bs w wr) ∧ Hid (Bs + 2 ≤ wr.heap.size)) (fun wr => wr.rangeLeft km (Bs + 1))
  case atStart => exact ⟨[], ms.map pk, none, 0, 0, rfl, HRG2.out, HB2.out, ownRow_nil _ _ _, List.Perm.refl _, by show Below _ _ _; rw [HBs.out]; exact HBL2.out, by show _ ≤ _; rw [HS2.out]; exact Nat.le_refl _⟩
  case round =>
    obtain ⟨out, lf, ad, N, cap, HN, HRG, HBX, HOW, HPM, HBL, HSZ⟩ := hrel
    obtain ⟨w3, hw3⟩ : ∃ z : World, z = wr := ⟨_, rfl⟩
    subst hw3
    clear HB2 HRG2 HBL2 HS2 t0 hrange
    rcases map_next (P := Tryd.prog) HRG.out 0 with ⟨hl0, hnext⟩ | ⟨p, lf', w4, hlp, hpm, hnext, hrg4, hg4, hs4, hen⟩
    · unfold ptrV at hnext
      have t1 := HBX.out.c0
      have HLF : Hid (lf = []) := hl0
      have HPM2 : Hid (out.Perm ((cls ms).map (·.name))) := by
        have h1 := HPM.out
        rw [hl0, List.map_nil, List.append_nil, List.map_map] at h1
        show List.Perm _ _
        unfold cls
        rw [List.map_map]
        exact h1
      have HBW : Hid (Below w.heap.size w w3) := by show Below _ _ _; rw [← HBs.out]; exact HBL.out
      have HT3 : Hid (Tabs w3) := HT.out.keep HBW.out
      clear hl0
      cases ad with
      | none =>
        have h0 : N = 0 := by
          rcases HOW.out.2 with ⟨h0, h1⟩ | ⟨g', c', cur, e, _⟩
          · have := HN.out; omega
          · cases e
        have hc0 : cap = 0 := by
          rcases HOW.out.2 with ⟨e, h1⟩ | ⟨g', c', cur, e, _⟩
          · cases e; rfl
          · cases e
        subst h0
        subst hc0
        go_wp2_with fail
        refine (slice_nil w3 Bs).mono ?_
        rintro e w5 ⟨rfl, hb5⟩
        have HB5 := Lib.hid (HBX.out.on hb5)
        have t2 := HB5.out.c0
        have HBE := Lib.hid hb5
        clear hb5 t1
        go_wp2
        go_ret
        have he : out = [] := List.eq_nil_of_length_eq_zero HN.out
        have hnm : (cls ms).map (·.name) = [] := by
          have h1 := HPM2.out
          rw [he] at h1
          exact h1.symm.eq_nil
        rw [hnm]
        exact gives_list (HBW.out.trans (HBE.out.mono HBW.out.size)) rfl (ownRow_nil _ _ _)
      | some a =>
        obtain ⟨g, hv, hrw, hbs⟩ : ∃ g, a = ⟨g, 0, none⟩ ∧ RowIs w3 g cap out.toArray ∧ Bs + 2 ≤ g := by
          rcases HOW.out.2 with ⟨e, h1⟩ | ⟨g', c', cur, e, _⟩
          · cases e
          · cases e
            obtain ⟨h3, h4, h5⟩ := own_rowIs HOW.out
            exact ⟨g', rfl, h3, h5⟩
        subst hv
        have HMC := Lib.hid (max_cap HOW.out)
        have HRW := Lib.hid hrw
        have hNs : out.toArray.size = N := by rw [List.size_toArray]; exact HN.out
        have HNS := Lib.hid hNs
        have hN6 : N ≤ 1000000 := by
          have h1 := HPM2.out.length_eq
          unfold cls at h1
          rw [List.length_map, List.length_map, HN.out] at h1
          omega
        clear hrw hNs
        go_wp2_with fail
        refine (slice_any w3 Bs g cap N out.toArray HNS.out HRW.out t1 (by omega) (by have := HBs.out; omega) HT3.out hN6).mono ?_
        rintro e w5 ⟨rfl, d', hp, ho, hr5, hk5⟩
        have HB5 : Hid (OBox w5 Bs (.slice (some ⟨g, 0, none⟩) N cap)) := (hk5.block Bs HBX.out.old (by omega)).trans HBX.out
        have t2 := HB5.out.c0
        have HD := Lib.hid (sorted_names H.out.sorted (fun f hf => by
          obtain ⟨m, hm, rfl⟩ := List.mem_map.1 hf
          exact (H.out.right m hm).1) (by rw [List.toList_toArray]; exact HPM2.out) hp ho)
        have HDS : Hid (d'.size = N) := hp.1.trans HNS.out
        have HR5 := Lib.hid hr5
        have HK5 := Lib.hid hk5
        clear hp ho hr5 hk5 t1
        go_wp2
        go_ret
        have hbe : Below Bs w3 w5 := HK5.out.below (fun i hi => by omega) (by have := HSZ.out; omega)
        rw [← HD.out]
        refine gives_list (HBW.out.trans (by rw [← HBs.out]; exact hbe)) (by rw [Array.length_toList]; exact HDS.out) (rowIs_own HR5.out (by have := HBs.out; omega) HMC.out HDS.out)
    · unfold ptrV at hnext hen
      have HLP := Lib.hid hlp
      have hg4' : w3.grownBy w4 (some (Bs + 1)) := hg4
      have HRG4 := Lib.hid hrg4
      have HBX4 : Hid (OBox w4 Bs (.slice ad N cap)) := (hg4.block Bs HBX.out.old (fun e => by have := Option.some.inj e; omega)).trans HBX.out
      have HOW4 : Hid (OwnRow strK w4 (Bs + 2) (.slice ad N cap) out) := HOW.out.grown hg4 fun k hk e => by
        have h1 := (HOW.out.lt k hk).1
        have h3 := Option.some.inj e
        omega
      have HBL4 : Hid (Below Bs w w4) := HBL.out.trans (below_grown hg4 (by omega) (by have := HSZ.out; omega))
      have HSZ4 : Hid (Bs + 2 ≤ w4.heap.size) := by show _ ≤ _; rw [hs4]; exact HSZ.out
      have hp1 : p.1.size ≤ 1073741824 := by
        obtain ⟨m, hm, rfl⟩ := List.mem_map.1 hpm
        exact (H.out.right m hm).2
      obtain ⟨nm, pk2⟩ := p
      simp only at hp1 hnext hen
      have hNb : N ≤ 10000 := by
        have h1 := HPM.out.length_eq
        rw [List.length_append, List.length_map, List.length_map, List.length_map, HN.out] at h1
        omega
      have HCNT := Lib.hid HRG.out.count
      have HCNTN := Lib.hid hlp.length_eq
      have KS : Hid (∀ W, Below w4.heap.size w4 W → (fun (W : World) => W.cell? ⟨Bs, 0, none⟩ = some (.slice ad N cap)) W) := fun W hW => (HBX4.out.on hW).c0
      have hdrw : Below w4.heap.size w4 w4.drew := (Below.refl _ w4).drew
      clear hlp hrg4 hg4 hg4' hs4 hpm
      go_upto_region 5 with fail
      refine wp_region_noPanic ?_
      refine wp_region_z [5] (fun (W : World) => W.cell? ⟨Bs, 0, none⟩ = some (.slice ad N cap)) (by kernel_rfl) ?_
      have hHeld : (fun (W : World) => W.cell? ⟨Bs, 0, none⟩ = some (.slice ad N cap)) _ := KS.out _ hdrw
      obtain ⟨u0, hu0⟩ : ∃ u, u = w4.drew := ⟨_, rfl⟩
      rw [← hu0] at hHeld hdrw
      rw [← hu0]
      clear hu0
      have HB0 := Lib.hid hdrw
      clear hdrw
      refine wpAnyZ_take (i := 0) (oi := ⟨_, _, _, _, _, _⟩) (v := ?_) rfl (by kernel_rfl) (by kernel_rfl) (by kernel_rfl) (by kernel_rfl) (by kernel_rfl) (fun _ _ _ h => h) (Or.inl ⟨by rfl, ?_⟩) (by assumption) ?_
      rotate_left
      · intro W hSw
        (try dsimp only at hSw)
        go_simp
        (try with_reducible rfl)
      (try simp only [Act.put, List.setIfInBounds_toArray, List.set_cons_zero, List.set_cons_succ])
      refine wpAnyZ_take (i := 1) (oi := ⟨_, _, _, _, _, _⟩) (v := ?_) rfl (by kernel_rfl) (by kernel_rfl) (by kernel_rfl) (by kernel_rfl) (by kernel_rfl) (fun _ _ _ h => h) (Or.inl ⟨by rfl, ?_⟩) (by assumption) ?_
      rotate_left
      · intro W hSw
        (try dsimp only at hSw)
        go_simp
        (try with_reducible rfl)
      (try simp only [Act.put, List.setIfInBounds_toArray, List.set_cons_zero, List.set_cons_succ])
      refine wpAnyZ_ready (rs := [2]) (by kernel_rfl) (by simp) ?_
      refine AllReadyZ.cons (o := ⟨_, _, _, _, _, _⟩) rfl (fun C hC => ?_) AllReadyZ.nil
      go_simp
      refine (sclone_any _ nm hp1).mono ?_
      rintro e u1 ⟨rfl, hb1⟩
      have HB1 := Lib.hid (HB0.out.trans (hb1.mono HB0.out.size))
      clear hb1
      have hHeld : (fun (W : World) => W.cell? ⟨Bs, 0, none⟩ = some (.slice ad N cap)) u1 := KS.out _ HB1.out
      refine hC.out _ _ (fun _ => hHeld) (fun _ => ?_)
      clear hC C
      (try simp only [Act.put, List.setIfInBounds_toArray, List.set_cons_zero, List.set_cons_succ])
      refine wpAnyZ_ready (rs := [3]) (by kernel_rfl) (by simp) ?_
      refine AllReadyZ.cons (o := ⟨_, _, _, _, _, _⟩) rfl (fun C hC => ?_) AllReadyZ.nil
      go_simp
      obtain ⟨u2, hu2⟩ : ∃ u, u = u1.alloc (.cells #[.string nm] 9) := ⟨_, rfl⟩
      have hbb : Below u1.heap.size u1 u2 := by rw [hu2]; exact (Below.refl _ _).alloc (Nat.le_refl _) _
      have HB2 := Lib.hid (HB1.out.trans (hbb.mono HB1.out.size))
      obtain ⟨g1, hg1⟩ : ∃ G, G = u1.heap.size := ⟨_, rfl⟩
      have HX2 : Hid (RowAt strK u2 (some ⟨g1, 0, none⟩) 1 1 [nm]) := by show RowAt _ _ _ _ _ _; rw [hu2, hg1]; exact rowAt_lit strK_ok u1 [nm] (by simp) _ rfl 1 rfl
      rw [← hu2, ← hg1]
      clear hu2 hg1 hbb
      have hHeld : (fun (W : World) => W.cell? ⟨Bs, 0, none⟩ = some (.slice ad N cap)) u2 := KS.out _ HB2.out
      refine hC.out _ _ (fun _ => hHeld) (fun _ => ?_)
      clear hC C
      (try simp only [Act.put, List.setIfInBounds_toArray, List.set_cons_zero, List.set_cons_succ])
      refine wpAnyZ_ready (rs := [4]) (by kernel_rfl) (by simp) ?_
      refine AllReadyZ.cons (o := ⟨_, _, _, _, _, _⟩) rfl (fun C hC => ?_) AllReadyZ.nil
      refine held_row (by rfl) strK_ok (.tmp 14) (.tmp 17) rfl (Bs + 2) out [nm] _ rfl (HOW4.out.on HB2.out) (by have := HSZ4.out; have := HB2.out.size; omega) (some ⟨g1, 0, none⟩) 1 1 rfl HX2.out (by rw [HN.out]; omega) ?_
      rintro v3 u3 hap
      have hln : (out ++ [nm]).length = N + 1 := by rw [List.length_append, HN.out]; rfl
      obtain ⟨ad', cap', hv3, _, _⟩ := OwnRow.row strK_ok hap.1 hln
      subst hv3
      have HAP := Lib.hid hap
      have HBX3 : Hid (OBox u3 Bs (.slice ad N cap)) := (hap.2.1.block Bs (HBX4.out.on HB2.out).old (fun e => by
        have h1 := ((HOW4.out.on HB2.out).lt Bs e.symm).1
        omega)).trans (HBX4.out.on HB2.out)
      have HRG3 : Hid (Ranging u3 km (Bs + 1) (ms.map pk) lf') := (HRG4.out.on HB2.out).same (hap.2.1.block km (HRG4.out.on HB2.out).map.lt (fun e => by
        have h1 := ((HOW4.out.on HB2.out).lt km e.symm).1
        have := HKM.out
        omega)) (hap.2.1.block (Bs + 1) (HRG4.out.on HB2.out).lt (fun e => by
        have h1 := ((HOW4.out.on HB2.out).lt (Bs + 1) e.symm).1
        omega))
      have HBL3 : Hid (Below Bs w u3) := by
        have h4 : Below Bs w u2 := HBL4.out.trans (HB2.out.mono (by have := HSZ4.out; omega))
        exact h4.grown hap.2.1 (by have := HSZ4.out; have := HB2.out.size; omega) fun q hq => by have := ((HOW4.out.on HB2.out).lt q hq).1; omega
      have HSZ3 : Hid (Bs + 2 ≤ u3.heap.size) := by show _ ≤ _; have := HSZ4.out; have := HB2.out.size; have := hap.2.1.size; omega
      have t3 := HBX3.out.c0
      have f3 := HBX3.out.free
      clear hap hln
      have hHeld : (fun (W : World) => W.cell? ⟨Bs, 0, none⟩ = some (.slice ad N cap)) u3 := t3
      refine hC.out _ _ (fun _ => hHeld) (fun _ => ?_)
      clear hC C
      (try simp only [Act.put, List.setIfInBounds_toArray, List.set_cons_zero, List.set_cons_succ])
      refine wpAnyZ_ready (rs := [5]) (by kernel_rfl) (by simp) ?_
      refine AllReadyZ.cons (o := ⟨_, _, _, _, _, _⟩) rfl (fun C hC => ?_) AllReadyZ.nil
      go_simp
      refine hC.out _ _ (zfree_no (by kernel_rfl)) (fun _ => ?_)
      clear hC C
      (try simp only [Act.put, List.setIfInBounds_toArray, List.set_cons_zero, List.set_cons_succ])
      refine wpAnyZ_done (by kernel_rfl) ?_ _
      refine NoPanic.normal ?_
      obtain ⟨wz, hwz⟩ : ∃ wz, wz = u3.setCell ⟨Bs, 0, none⟩ (.slice ad' (N + 1) cap') := ⟨_, rfl⟩
      have hgz : u3.grownBy wz (some Bs) := by rw [hwz]; exact grow_one u3 Bs 0 _
      have HBXZ : Hid (OBox wz Bs (.slice ad' (N + 1) cap')) := by show OBox _ _ _; rw [hwz]; exact HBX3.out.set _
      have HRGZ : Hid (Ranging wz km (Bs + 1) (ms.map pk) lf') := HRG3.out.same (hgz.block km HRG3.out.map.lt fun e => by have := Option.some.inj e; have := HKM.out; omega) (hgz.block (Bs + 1) HRG3.out.lt fun e => by have := Option.some.inj e; omega)
      have HOWZ : Hid (OwnRow strK wz (Bs + 2) (.slice ad' (N + 1) cap') (out ++ [nm])) := OwnRow.grown HAP.out.1 hgz fun k hk e => by
        have h1 := (HAP.out.1.lt k hk).1
        have := Option.some.inj e
        omega
      have HBLZ : Hid (Below Bs w wz) := HBL3.out.trans (below_grown hgz (Nat.le_refl _) (by have := HSZ3.out; omega))
      have HSZZ : Hid (Bs + 2 ≤ wz.heap.size) := by show _ ≤ _; have := HSZ3.out; have := hgz.size; omega
      try rw [← hwz]
      clear hwz hgz t3 f3 hHeld
      go_wp2
      go_roundw
      case rel => exact ⟨out ++ [nm], lf', ad', N + 1, cap', by show _ = _; rw [List.length_append, HN.out]; rfl, HRGZ.out, HBXZ.out, HOWZ.out, by
        show List.Perm _ _
        refine List.Perm.trans ?_ HPM.out
        rw [List.append_assoc]
        exact List.Perm.append_left out (HLP.out.map (fun p : ByteArray × Nat => p.1)).symm, HBLZ.out, HSZZ.out⟩
      case measure =>
        rw [HRGZ.out.count, HCNT.out, HCNTN.out]
        simp
end Go.Proofs.YtjocfkkcnkpjdaaDoor
