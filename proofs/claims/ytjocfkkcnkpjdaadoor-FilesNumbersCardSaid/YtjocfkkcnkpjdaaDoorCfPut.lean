/- Chapter 7's files as the code has them: a text, bytes made anew; put, Remove. -/
import Derived.Test.YtjocfkkcnkpjdaaDoorCfAct
import Derived.Test.YtjocfkkcnkpjdaaDoorRegionZ
import Derived.Test.YtjocfkkcnkpjdaaDoorShelf
import Derived.WalkSpells
namespace Go.Proofs.YtjocfkkcnkpjdaaDoor
open Go.RowKit
open Go.RuneMath
open Go.FsMath
set_option linter.unusedVariables false

theorem sclone_any (w : World) (s : ByteArray) (hs : s.size ≤ 1073741824) : Calls Tryd.prog 37 #[.string s] w fun e w' => e = .returned (.string s) ∧ Below w.heap.size w w' := by
  go_enter Tryd.func37, Tryd.ntmps37
  go_wp2_with fail
  refine (Tryd.stringslite_Clone s w (by omega)).mono ?_
  rintro e w1 ⟨rfl, hb1⟩
  have HB := Lib.hid hb1
  clear hb1
  go_wp2
  go_ret
  exact ⟨rfl, HB.out⟩
/-- append at the operation, for bytes: as many as may be. -/
theorem list_bytes {w : World} {ops : Array Oper} {rest : List Oper} {o : Oper} {a : Act} {Q : Exit → Act → World → Prop} (hw : Region.wanted o (yielded ops a.tmps) = true) (s x : Operand)
    (ho : o.op = .call { callee := .builtin .append, args := #[s, x], argTypes := #[byteK.sl, byteK.sl] })
    (base : Nat) (l m : List Nat) (v : Value) (hs : a.eval s = v) (hown : OwnRow byteK w base v l) (hbase : base ≤ w.heap.size)
    (ad : Option Addr) (n cap : Nat) (hx : a.eval x = .slice ad n cap) (hr : RowAt byteK w ad n cap m) (hn : l.length + n ≤ 140737488355328)
    (h : ∀ v' w', Appended byteK w base v (l ++ m) v' w' → wpList Tryd.prog ops Q rest (a.put o.dst v') w') :
    wpList Tryd.prog ops Q (o :: rest) a w := by
  refine BigFrame.wpList_want hw fun C hC => ?_
  obtain ⟨v', w', hrun, h2⟩ := run_row_append byteK_ok w base v l m o.type hown ad n cap hr (by rw [Nat.mul_one]; exact hn) hn hbase
  unfold Oper.wp execOp
  simp only [ho, resolve, invoke, builtin, Sem.run_bind, Sem.run_pure, Result.andThen_ok, List.map_toArray, List.map_cons, List.map_nil, hs, hx, hrun]
  exact hC _ _ (h v' w' h2)
def Cloned (w : World) (l : List Nat) (e : Ending) (w' : World) : Prop := ∃ ad cap, e = .returned (.slice ad l.length cap) ∧ OwnRow byteK w' w.heap.size (.slice ad l.length cap) l ∧ Below w.heap.size w w'
set_option maxRecDepth 100000 in
theorem bclone_any (w : World) (ad : Option Addr) (len cap : Nat) (l : List Nat) (hr : RowAt byteK w ad len cap l) (hl : len ≤ 140737488355328) : Calls Tryd.prog 44 #[.slice ad len cap] w (Cloned w l) := by
  have hroom := hr.room
  have hlen := hr.length
  have HR := Lib.hid hr
  clear hr
  cases ad with
  | none =>
    have hc := hroom rfl
    have hfits := HR.out.fits
    have h0 : len = 0 := by omega
    subst hc
    subst h0
    obtain rfl : l = [] := List.eq_nil_of_length_eq_zero hlen
    have hnil : ∀ W, (binOp .eql 23 (.slice none 0 0) (.slice none 0 0)).run Tryd.prog W = .ok (.bool true) W := fun W => Lib.run_eql_slice_nil (P := Tryd.prog) W 23 5 none 0 0 0 0 Tryd.underlying23
    go_enter Tryd.func44, Tryd.ntmps44
    go_wp2
    go_ret
    exact ⟨none, 0, rfl, ownRow_nil _ _ _, Below.refl _ _⟩
  | some a =>
    have hnil : ∀ W, (binOp .eql 23 (.slice (some a) len cap) (.slice none 0 0)).run Tryd.prog W = .ok (.bool false) W := fun W => Lib.run_eql_slice_nil (P := Tryd.prog) W 23 5 (some a) len cap 0 0 Tryd.underlying23
    have HL := Lib.hid hlen
    clear hroom hlen
    go_enter Tryd.func44, Tryd.ntmps44
    go_wp2_with (at_builtin; refine list_bytes (by rfl) (.tmp 5) (.tmp 6) rfl w.heap.size [] l _ rfl (ownRow_lit byteK_ok w w.heap.size [] (Nat.le_refl _) (by simp) _ rfl 0 rfl) (by simp) (some a) len cap rfl (HR.out.keep ((Below.refl _ w).alloc (Nat.le_refl _) _)) (by rw [List.length_nil]; omega) ?_)
    rintro v' w' hap
    have HAP := Lib.hid hap
    clear hap
    go_wp2
    go_ret
    have h1 := HAP.out
    obtain ⟨ad', cap', rfl, _, _⟩ := OwnRow.row byteK_ok h1.1 rfl
    refine ⟨ad', cap', rfl, h1.1, ?_⟩
    exact appended_below h1 (ownRow_lit byteK_ok w w.heap.size [] (Nat.le_refl _) (by simp) _ rfl 0 rfl) ((Below.refl _ w).alloc (Nat.le_refl _) _) (Nat.le_refl _) (by simp)
set_option maxRecDepth 100000 in
set_option maxHeartbeats 4000000 in
theorem put_any (w : World) (kf km : Nat) (left done : Int) (ps : List (ByteArray × Nat)) (hb : CBox w kf km left done) (hm : MapOf w km ps) (hps : ps.length ≤ 100000) (n : ByteArray) (hn : n.size ≤ 1073741824) (k : Nat) :
    Calls Tryd.prog 36 #[.pointer (some ⟨kf, 0, none⟩), .string n, .pointer (some ⟨k, 0, none⟩)] w fun e w' => e = .returned (.tuple #[]) ∧ MapOf w' km ((n, k) :: ps.filter (fun p => decide (p.1 ≠ n))) ∧ w.grownBy w' (some km) := by
  have H := Lib.hid hb
  have HM := Lib.hid hm
  clear hb hm
  go_enter Tryd.func36, Tryd.ntmps36
  have KS : Hid (∀ W, Below w.heap.size w W → (fun (W : World) => W.cell? ⟨kf, 0, none⟩ = some (.map (some km))) W) := fun W hW => (H.out.same (hW.block kf H.out.lt)).c0
  have hdrw : Below w.heap.size w w.drew := (Below.refl _ w).drew
  go_upto_region 0 with fail
  refine wp_region_noPanic ?_
  refine wp_region_z [7] (fun (W : World) => W.cell? ⟨kf, 0, none⟩ = some (.map (some km))) (by kernel_rfl) ?_
  have hHeld : (fun (W : World) => W.cell? ⟨kf, 0, none⟩ = some (.map (some km))) _ := KS.out _ hdrw
  obtain ⟨u0, hu0⟩ : ∃ u, u = w.drew := ⟨_, rfl⟩
  rw [← hu0] at hHeld hdrw
  rw [← hu0]
  clear hu0
  have HB0 := Lib.hid hdrw
  clear hdrw
  refine wpAnyZ_take (i := 0) (oi := ⟨_, _, _, _, _, _⟩) (v := ?_) rfl (by kernel_rfl) (by kernel_rfl) (by kernel_rfl) (by kernel_rfl) (by kernel_rfl) (fun _ _ _ h => h) (Or.inl ⟨by rfl, ?_⟩) (by assumption) ?_
  rotate_left
  · intro W hSw
    (try dsimp only at hSw)
    go_simp
    (try with_reducible rfl)
  (try simp only [Act.put, List.setIfInBounds_toArray, List.set_cons_zero, List.set_cons_succ])
  refine wpAnyZ_take (i := 1) (oi := ⟨_, _, _, _, _, _⟩) (v := ?_) rfl (by kernel_rfl) (by kernel_rfl) (by kernel_rfl) (by kernel_rfl) (by kernel_rfl) (fun _ _ _ h => h) (Or.inl ⟨by rfl, ?_⟩) (by assumption) ?_
  rotate_left
  · intro W hSw
    (try dsimp only at hSw)
    go_simp
    (try with_reducible rfl)
  (try simp only [Act.put, List.setIfInBounds_toArray, List.set_cons_zero, List.set_cons_succ])
  refine wpAnyZ_take (i := 2) (oi := ⟨_, _, _, _, _, _⟩) (v := ?_) rfl (by kernel_rfl) (by kernel_rfl) (by kernel_rfl) (by kernel_rfl) (by kernel_rfl) (fun _ _ _ h => h) (Or.inl ⟨by rfl, ?_⟩) (by assumption) ?_
  rotate_left
  · intro W hSw
    (try dsimp only at hSw)
    go_simp
    (try with_reducible rfl)
  (try simp only [Act.put, List.setIfInBounds_toArray, List.set_cons_zero, List.set_cons_succ])
  refine wpAnyZ_take (i := 3) (oi := ⟨_, _, _, _, _, _⟩) (v := ?_) rfl (by kernel_rfl) (by kernel_rfl) (by kernel_rfl) (by kernel_rfl) (by kernel_rfl) (fun _ _ _ h => h) (Or.inl ⟨by rfl, ?_⟩) (by assumption) ?_
  rotate_left
  · intro W hSw
    (try dsimp only at hSw)
    go_simp
    (try with_reducible rfl)
  (try simp only [Act.put, List.setIfInBounds_toArray, List.set_cons_zero, List.set_cons_succ])
  refine wpAnyZ_take (i := 4) (oi := ⟨_, _, _, _, _, _⟩) (v := ?_) rfl (by kernel_rfl) (by kernel_rfl) (by kernel_rfl) (by kernel_rfl) (by kernel_rfl) (fun _ _ _ h => h) (Or.inl ⟨by rfl, ?_⟩) (by assumption) ?_
  rotate_left
  · intro W hSw
    (try dsimp only at hSw)
    go_simp
    (try with_reducible rfl)
  (try simp only [Act.put, List.setIfInBounds_toArray, List.set_cons_zero, List.set_cons_succ])
  refine wpAnyZ_take (i := 6) (oi := ⟨_, _, _, _, _, _⟩) (v := ?_) rfl (by kernel_rfl) (by kernel_rfl) (by kernel_rfl) (by kernel_rfl) (by kernel_rfl) (fun _ _ _ h => h) (Or.inl ⟨by rfl, ?_⟩) (by assumption) ?_
  rotate_left
  · intro W hSw
    (try dsimp only at hSw)
    go_simp
    (try with_reducible rfl)
  (try simp only [Act.put, List.setIfInBounds_toArray, List.set_cons_zero, List.set_cons_succ])
  refine wpAnyZ_ready (rs := [5]) (by kernel_rfl) (by simp) ?_
  refine AllReadyZ.cons (o := ⟨_, _, _, _, _, _⟩) rfl (fun C hC => ?_) AllReadyZ.nil
  go_simp
  refine (sclone_any _ n hn).mono ?_
  rintro e u1 ⟨rfl, hb1⟩
  have HB1 := Lib.hid (HB0.out.trans (hb1.mono HB0.out.size))
  clear hb1
  have hHeld : (fun (W : World) => W.cell? ⟨kf, 0, none⟩ = some (.map (some km))) u1 := KS.out _ HB1.out
  refine hC.out _ _ (fun _ => hHeld) (fun _ => ?_)
  clear hC C
  (try simp only [Act.put, List.setIfInBounds_toArray, List.set_cons_zero, List.set_cons_succ])
  have hmz := HM.out.on HB1.out
  obtain ⟨wz, hrun, hz1, hz2, _⟩ := map_store (P := Tryd.prog) (t := 56) (k := 9) (e := 60) mapT Tryd.underlying9 hmz n (by unfold maxLen; omega) k (by omega)
  unfold ptrV at hrun
  have HMZ := Lib.hid hz1
  have HGZ : Hid (w.grownBy wz (some km)) := grow_trans (grow_below (grow_refl w _) HB1.out) hz2
  clear hmz hz1 hz2
  refine wpAnyZ_ready (rs := [7]) (by kernel_rfl) (by simp) ?_
  refine AllReadyZ.cons (o := ⟨_, _, _, _, _, _⟩) rfl (fun C hC => ?_) AllReadyZ.nil
  go_simp
  refine hC.out _ _ (zfree_no (by kernel_rfl)) (fun _ => ?_)
  clear hC C
  (try simp only [Act.put, List.setIfInBounds_toArray, List.set_cons_zero, List.set_cons_succ])
  refine wpAnyZ_done (by kernel_rfl) ?_ _
  refine NoPanic.normal ?_
  go_end0
  exact ⟨rfl, HMZ.out, HGZ.out⟩

/-- The map has turned: the files are these now. -/
theorem CfOk.mapped {w w' : World} {kf km : Nat} {left done : Int} {ms ms' : List CM} (h : CfOk w kf km left done ms) (hg : w.grownBy w' (some km)) (hm : MapOf w' km (ms'.map pk)) (hs : SortedF (cls ms'))
    (hall : ∀ m ∈ ms', (rightS m.f.name ∧ m.f.name.size ≤ 1073741824) ∧ CtBox w m.k m.v (m.f.lasts : Int) ∧ OwnRow byteK w 0 m.v m.f.b ∧ AllB m.f.b ∧ m.f.lasts ≤ m.f.b.length)
    (hap : ∀ m ∈ ms', ∀ m' ∈ ms', m.f.name ≠ m'.f.name → m.k ≠ m'.k ∧ ∀ q, m.v.ownBlock = some q → m'.v.ownBlock ≠ some q) : CfOk w' kf km left done ms' := by
  obtain ⟨es, clock, hb, _⟩ := h.map
  refine ⟨h.box.same (hg.block kf h.box.lt fun e => h.kf_km (Option.some.inj e)), hm, hs, fun m hm => (hall m hm).1, fun m hm => ?_, fun m hm => ⟨?_, (hall m hm).2.2.2⟩, hap⟩
  · refine (hall m hm).2.1.same (hg.block m.k (hall m hm).2.1.lt fun e => ?_)
    have h1 := (hall m hm).2.1
    unfold CtBox at h1
    rw [Option.some.inj e, hb] at h1
    cases h1
  · refine (hall m hm).2.2.1.same fun q hq => hg.block q ((hall m hm).2.2.1.lt q hq).2 fun e => ?_
    obtain ⟨cur, hc⟩ := own_cells (hall m hm).2.2.1 hq
    rw [Option.some.inj e, hb] at hc
    cases hc
theorem CfOk.all {w : World} {kf km : Nat} {left done : Int} {ms : List CM} (h : CfOk w kf km left done ms) {m : CM} (hm : m ∈ ms) : (rightS m.f.name ∧ m.f.name.size ≤ 1073741824) ∧ CtBox w m.k m.v (m.f.lasts : Int) ∧ OwnRow byteK w 0 m.v m.f.b ∧ AllB m.f.b ∧ m.f.lasts ≤ m.f.b.length := ⟨h.right m hm, h.ct m hm, h.row m hm⟩
def dropM (ms : List CM) (i : Nat) : List CM := ms.take i ++ ms.drop (i + 1)
theorem cls_drop (ms : List CM) (i : Nat) : cls (dropM ms i) = dropF (cls ms) i := by unfold cls dropM dropF; rw [List.map_append, List.map_take, List.map_drop]
theorem dropM_mem {ms : List CM} {i : Nat} {m : CM} (h : m ∈ dropM ms i) : m ∈ ms := (List.mem_append.1 h).elim List.mem_of_mem_take List.mem_of_mem_drop
theorem dropM_perm {ms : List CM} {i : Nat} {m : CM} (h : ms[i]? = some m) : ms.Perm (m :: dropM ms i) := by
  have hil := (List.getElem?_eq_some_iff.1 h).1
  have e := (List.getElem?_eq_some_iff.1 h).2
  have hs : ms = ms.take i ++ m :: ms.drop (i + 1) := by rw [← e, ← List.drop_eq_getElem_cons hil, List.take_append_drop]
  unfold dropM
  conv => lhs; rw [hs]
  exact List.perm_middle
theorem CfOk.drop_pk {w : World} {kf km : Nat} {left done : Int} {ms : List CM} (h : CfOk w kf km left done ms) {i : Nat} {m : CM} (hm : ms[i]? = some m) : ((ms.map pk).filter (fun p => decide (p.1 ≠ m.f.name))).Perm ((dropM ms i).map pk) := by
  have h1 := filter_one (n := m.f.name) (c := m.k) h.map.names (List.mem_map.2 ⟨m, List.mem_of_getElem? hm, rfl⟩)
  have h2 := (dropM_perm hm).map pk
  rw [List.map_cons] at h2
  exact (h1.symm.trans h2).cons_inv
theorem CfOk.dropped {w w' : World} {kf km : Nat} {left done : Int} {ms : List CM} (h : CfOk w kf km left done ms) {i : Nat} {m : CM} (hm : ms[i]? = some m) (hg : w.grownBy w' (some km)) (hmap : MapOf w' km ((ms.map pk).filter (fun p => decide (p.1 ≠ m.f.name)))) : CfOk w' kf km left done (dropM ms i) :=
  h.mapped hg (hmap.perm (h.drop_pk hm)) (by rw [cls_drop]; exact drop_sorted h.sorted i) (fun m hm => h.all (dropM_mem hm)) fun x hx y hy => h.apart x (dropM_mem hx) y (dropM_mem hy)
theorem foot_drop {kf km : Nat} {ms : List CM} {i j : Nat} (h : Foot kf km (dropM ms i) j) : Foot kf km ms j := by
  rcases h with h | h | ⟨m, hm, h⟩
  · exact .inl h
  · exact .inr (.inl h)
  · exact .inr (.inr ⟨m, dropM_mem hm, h⟩)
set_option maxRecDepth 100000 in
set_option maxHeartbeats 4000000 in
theorem cRemove_any (w : World) (kf km : Nat) (left done : Int) (ms : List CM) (h : CfOk w kf km left done ms) (hN : FsNum left done) (n : ByteArray) (hn : n.size ≤ 1073741824) (r : Int × Fs) (hr : removeF ⟨cls ms, left, done⟩ n = r) :
    Calls Tryd.prog 22 #[.pointer (some ⟨kf, 0, none⟩), .string n] w (GivesCf w kf km ms r) := by
  have H := Lib.hid h
  have t0 := h.box.c0
  cases hb : hasF (cls ms) n
  · have hlk := h.look0 hn hb
    have HE : Hid (r = (22, ⟨cls ms, left, done⟩)) := by
      show r = _
      rw [← hr]
      unfold removeF
      rw [if_pos hb]
    clear h hb hr
    go_enter Tryd.func22, Tryd.ntmps22
    go_wp2
    go_ret
    exact gives_cf HE.out H.out rfl (Kept.refl _ _) foot_refl
  · obtain ⟨m, hm, rfl, hat⟩ := h.hit hb
    have hlk := h.look1 hm
    have c0 := (h.ct m hm).c0
    unfold CM.v at c0
    have HA := Lib.hid hat
    have HMM := Lib.hid hm
    have HR : Hid (r = if mayF ⟨cls ms, left, done⟩ = false then (0, ⟨cls ms, left, done⟩) else (0, ⟨dropF (cls ms) (atF (cls ms) m.f.name), (deedF ⟨cls ms, left, done⟩).left, (deedF ⟨cls ms, left, done⟩).done⟩)) := by
      show r = _
      rw [← hr]
      unfold removeF
      rw [if_neg (by rw [hb]; decide)]
    clear h hb hr hat hm c0
    go_enter Tryd.func22, Tryd.ntmps22
    go_wp2_with fail
    refine (cdeed_any w kf km left done H.out.box hN.d0 hN.d1 hN.l0 hN.l1 (cls ms)).mono ?_
    rintro e w2 ⟨rfl, HBX2, HG2⟩
    have H2 := Lib.hid (H.out.turned HG2.out HBX2.out)
    have HK2 : Hid (Kept w w2 (Foot kf km ms)) := Kept.of_grown HG2.out (.inl (.inl rfl))
    obtain ⟨d, hdd⟩ : ∃ d, deedF ⟨cls ms, left, done⟩ = d := ⟨_, rfl⟩
    obtain ⟨q, hq⟩ : ∃ q, mayF ⟨cls ms, left, done⟩ = q := ⟨_, rfl⟩
    have hqd : q = false → d = ⟨cls ms, left, done⟩ := fun h => by rw [← hdd]; exact may_no (by rw [hq, h])
    have HRR := HR.out
    rw [hdd, hq] at HRR
    have HR2 := Lib.hid HRR
    have HQD := Lib.hid hqd
    rw [hdd] at H2
    rw [hq]
    clear HRR HR hqd hdd hq HBX2 HG2
    cases q
    · have HE : Hid (r = (0, ⟨cls ms, left, done⟩)) := by show r = _; rw [HR2.out, if_pos rfl]
      have hd := HQD.out rfl
      have H3 : Hid (CfOk w2 kf km left done ms) := by have := H2.out; rw [hd] at this; exact this
      clear HR2 HQD hd H2
      go_wp2
      go_ret
      exact gives_cf HE.out H3.out rfl HK2.out foot_refl
    · have HE := HR2.out
      rw [if_neg (by decide)] at HE
      have HE2 := Lib.hid HE
      have t0 := H2.out.box.c0
      obtain ⟨wz, hrun, hz1, hz2, _⟩ := map_drop (P := Tryd.prog) (t := 56) (k := 9) (e := 60) mapT Tryd.underlying9 H2.out.map m.f.name (by unfold maxLen; omega) 0
      have HMZ := Lib.hid (H2.out.dropped HA.out hz2 hz1)
      have HGZ := Lib.hid hz2
      clear HE HR2 HQD hz1 hz2
      go_wp2
      go_ret
      exact gives_cf HE2.out HMZ.out (cls_drop _ _) (HK2.out.trans (Kept.of_grown HGZ.out (.inl (.inr (.inl rfl)))) foot_refl) fun i hi => .inl (foot_drop hi)
end Go.Proofs.YtjocfkkcnkpjdaaDoor
