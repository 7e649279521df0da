/- Chapter 7's files as the code has them: Rename, New, Read. -/
import Derived.Test.YtjocfkkcnkpjdaaDoorCfAppend
namespace Go.Proofs.YtjocfkkcnkpjdaaDoor
open Go.RowKit
open Go.RuneMath
open Go.FsMath
set_option linter.unusedVariables false

def restM (ms : List CM) (i : Nat) (b : ByteArray) : List CM := if hasF (cls (dropM ms i)) b = true then dropM (dropM ms i) (atF (cls (dropM ms i)) b) else dropM ms i
def named (m : CM) (b : ByteArray) : CM := ⟨{ m.f with name := b }, m.k, m.ad, m.cap⟩
def moveM (ms : List CM) (i : Nat) (m : CM) (b : ByteArray) : List CM := (restM ms i b).take (atF (cls (restM ms i b)) b) ++ named m b :: (restM ms i b).drop (atF (cls (restM ms i b)) b)
section
variable {w w1 w2 : World} {kf km : Nat} {left done : Int} {ms : List CM}
theorem cls_move {i : Nat} {m : CM} {a b : ByteArray} (hi : atF (cls ms) a = i) (hm : ms[i]? = some m) : cls (moveM ms i m b) = moveF (cls ms) a b := by
  unfold moveF moveM
  rw [hi, cls_at hm, cls_ins]
  have e : cls (restM ms i b) = (let l1 := dropF (cls ms) i; if hasF l1 b = true then dropF l1 (atF l1 b) else l1) := by
    unfold restM
    simp only
    rw [cls_drop]
    split
    · rw [cls_drop, cls_drop]
    · rw [cls_drop]
  rw [e]
  rfl
theorem CfOk.dropped_mem (h : CfOk w kf km left done ms) {i : Nat} {m : CM} (hm : ms[i]? = some m) {y : CM} (hy : y ∈ dropM ms i) : y ∈ ms ∧ y.f.name ≠ m.f.name := by
  refine ⟨dropM_mem hy, ?_⟩
  have h1 : y.f ∈ dropF (cls ms) i := by rw [← cls_drop]; exact List.mem_map.2 ⟨y, hy, rfl⟩
  exact drop_none h.sorted (cls_at hm) _ h1
theorem CfOk.rest (h : CfOk w kf km left done ms) {i : Nat} {m : CM} (hm : ms[i]? = some m) (hd : CfOk w1 kf km left done (dropM ms i)) (b : ByteArray) :
    (∀ y ∈ restM ms i b, y ∈ dropM ms i ∧ y.f.name ≠ b) ∧ SortedF (cls (restM ms i b)) ∧ (((dropM ms i).map pk).filter (fun p => decide (p.1 ≠ b))).Perm ((restM ms i b).map pk) := by
  unfold restM
  by_cases hb : hasF (cls (dropM ms i)) b = true
  · rw [if_pos hb]
    obtain ⟨x, hx, rfl, hat⟩ := hd.hit hb
    exact ⟨fun y hy => hd.dropped_mem hat hy, by rw [cls_drop]; exact drop_sorted hd.sorted _, hd.drop_pk hat⟩
  · rw [if_neg hb]
    have hb0 : hasF (cls (dropM ms i)) b = false := by simpa using hb
    exact ⟨fun y hy => ⟨hy, hd.miss hb0 y hy⟩, hd.sorted, by rw [pk_names (hd.miss hb0)]⟩
theorem CfOk.moved (h : CfOk w kf km left done ms) {i : Nat} {m : CM} (hm : ms[i]? = some m) (hd : CfOk w1 kf km left done (dropM ms i)) {b : ByteArray} (hr : rightS b) (hz : b.size ≤ 1073741824) (hg : w1.grownBy w2 (some km)) (hs1 : ∀ q, (q = m.k ∨ m.v.ownBlock = some q) → w1.heap[q]? = w.heap[q]?)
    (hmap : MapOf w2 km ((b, m.k) :: ((dropM ms i).map pk).filter (fun p => decide (p.1 ≠ b)))) : CfOk w2 kf km left done (moveM ms i m b) := by
  obtain ⟨hall, hso, hpk⟩ := h.rest hm hd b
  have hmm := List.mem_of_getElem? hm
  have hno : hasF (cls (restM ms i b)) b = false := by
    cases hx : hasF (cls (restM ms i b)) b
    · rfl
    · obtain ⟨f, hf, e⟩ := (has_mem hso).1 hx
      obtain ⟨y, hy, rfl⟩ := List.mem_map.1 hf
      exact absurd e (hall y hy).2
  have hyo : ∀ y ∈ restM ms i b, m.k ≠ y.k ∧ (∀ q, m.v.ownBlock = some q → y.v.ownBlock ≠ some q) := fun y hy => by
    obtain ⟨h1, h2⟩ := h.dropped_mem hm (hall y hy).1
    exact h.apart m hmm y h1 fun e => h2 e.symm
  refine hd.mapped hg (hmap.perm ?_) ?_ (fun y hy => ?_) fun y hy z hz hne => ?_
  · unfold moveM
    exact (hpk.cons (b, m.k)).trans ((insM_perm (restM ms i b) _ (named m b)).map pk).symm
  · unfold moveM
    rw [cls_ins]
    have e : b = (named m b).f.name := rfl
    conv => arg 1; arg 1; rw [e]
    conv => arg 1; arg 2; arg 2; rw [e]
    refine ins_sorted hso (fun f hf => ?_) hr hno
    obtain ⟨y, hy, rfl⟩ := List.mem_map.1 hf
    exact (hd.right y (hall y hy).1).1
  · rcases insM_mem hy with h1 | h1
    · subst h1
      have hc := (h.ct m hmm).same (hs1 m.k (.inl rfl))
      exact ⟨⟨hr, hz⟩, hc, (h.row m hmm).1.same fun q hq => hs1 q (.inr hq), (h.row m hmm).2⟩
    · exact hd.all (hall y h1).1
  · rcases insM_mem hy with h1 | h1
    · rcases insM_mem hz with h2 | h2
      · rw [h1, h2] at hne; exact absurd rfl hne
      · subst h1
        exact hyo z h2
    · rcases insM_mem hz with h2 | h2
      · subst h2
        have := hyo y h1
        exact ⟨fun e => this.1 e.symm, fun q hq e => this.2 q e hq⟩
      · exact hd.apart y (hall y h1).1 z (hall z h2).1 hne
theorem foot_move (h : CfOk w kf km left done ms) {i : Nat} {m : CM} (hm : ms[i]? = some m) (hd : CfOk w1 kf km left done (dropM ms i)) {b : ByteArray} {j : Nat} (hj : Foot kf km (moveM ms i m b) j) : Foot kf km ms j := by
  obtain ⟨hall, _, _⟩ := h.rest hm hd b
  rcases hj with h1 | h1 | ⟨y, hy, h1⟩
  · exact .inl h1
  · exact .inr (.inl h1)
  · rcases insM_mem hy with h2 | h2
    · subst h2
      exact .inr (.inr ⟨m, List.mem_of_getElem? hm, h1⟩)
    · exact .inr (.inr ⟨y, dropM_mem (hall y h2).1, h1⟩)
end
set_option maxRecDepth 100000 in
set_option maxHeartbeats 4000000 in
theorem cRename_any (w : World) (kf km : Nat) (left done : Int) (ms : List CM) (h : CfOk w kf km left done ms) (hL : ms.length ≤ 10000) (hN : FsNum left done) (n : ByteArray) (hn : n.size ≤ 1073741824) (n2 : ByteArray) (hn2 : n2.size ≤ 1073741824) (r : Int × Fs) (hr : renameF ⟨cls ms, left, done⟩ n n2 = r) :
    Calls Tryd.prog 21 #[.pointer (some ⟨kf, 0, none⟩), .string n, .string n2] w (GivesCf w kf km ms r) := by
  have H := Lib.hid h
  have t0 := h.box.c0
  cases hb : hasF (cls ms) n
  · have hlk := h.look0 hn hb
    have HE : Hid (r = (22, ⟨cls ms, left, done⟩)) := by
      show r = _
      rw [← hr]
      unfold renameF
      rw [if_pos hb]
    clear h hb hr
    go_enter Tryd.func21, Tryd.ntmps21
    go_wp2
    go_ret
    exact gives_cf HE.out H.out rfl (Kept.refl _ _) foot_refl
  · obtain ⟨m, hm, rfl, hat⟩ := h.hit hb
    have hlk := h.look1 hm
    have c0 := (h.ct m hm).c0
    unfold CM.v at c0
    have HA := Lib.hid hat
    have HMM := Lib.hid hm
    obtain ⟨q0, hq0⟩ : ∃ b, rightB n2.data.toList = b := ⟨_, rfl⟩
    have HR0 : Hid (r = if q0 = false then (1, ⟨cls ms, left, done⟩) else if mayF ⟨cls ms, left, done⟩ = false then (0, ⟨cls ms, left, done⟩) else if m.f.name = n2 then (0, deedF ⟨cls ms, left, done⟩) else (0, ⟨moveF (cls ms) m.f.name n2, (deedF ⟨cls ms, left, done⟩).left, (deedF ⟨cls ms, left, done⟩).done⟩)) := by
      show r = _
      rw [← hr]
      unfold renameF
      rw [if_neg (by rw [hb]; decide)]
      simp only
      rw [hq0]
    have HQ0 := Lib.hid hq0
    clear h hb hr hat hm c0 hq0
    go_enter Tryd.func21, Tryd.ntmps21
    go_wp2_with fail
    refine (right_any w n2).mono ?_
    rintro e w1 ⟨rfl, hb1⟩
    rw [HQ0.out]
    have H1 := Lib.hid (H.out.on hb1)
    have HB1 := Lib.hid hb1
    clear hb1 H
    cases q0
    · have HE : Hid (r = (1, ⟨cls ms, left, done⟩)) := by show r = _; rw [HR0.out, if_pos rfl]
      clear HR0
      go_wp2
      go_ret
      exact gives_cf HE.out H1.out rfl (Kept.of_below HB1.out) foot_refl
    have HRN := HR0.out
    rw [if_neg (by decide)] at HRN
    have HR := Lib.hid HRN
    clear HR0 HRN
    go_wp2_with fail
    refine (cdeed_any w1 kf km left done H1.out.box hN.d0 hN.d1 hN.l0 hN.l1 (cls ms)).mono ?_
    rintro e w2 ⟨rfl, HBX2, HG2⟩
    have H2 := Lib.hid (H1.out.turned HG2.out HBX2.out)
    have HK2 : Hid (Kept w w2 (Foot kf km ms)) := (Kept.of_below (F := Foot kf km ms) HB1.out).trans (Kept.of_grown HG2.out (.inl (.inl rfl))) foot_refl
    obtain ⟨d, hdd⟩ : ∃ d, deedF ⟨cls ms, left, done⟩ = d := ⟨_, rfl⟩
    obtain ⟨q, hq⟩ : ∃ q, mayF ⟨cls ms, left, done⟩ = q := ⟨_, rfl⟩
    have hqd : q = false → d = ⟨cls ms, left, done⟩ := fun h => by rw [← hdd]; exact may_no (by rw [hq, h])
    have HRR := HR.out
    rw [hdd, hq] at HRR
    have HR2 := Lib.hid HRR
    have HQD := Lib.hid hqd
    rw [hdd] at H2
    rw [hq]
    have HLL : Hid (d.l = cls ms) := by show d.l = _; rw [← hdd]; exact deed_list _
    clear HRR HR hqd hdd hq HBX2 HG2
    cases q
    · have HE : Hid (r = (0, ⟨cls ms, left, done⟩)) := by show r = _; rw [HR2.out, if_pos rfl]
      have hd := HQD.out rfl
      have H3 : Hid (CfOk w2 kf km left done ms) := by have := H2.out; rw [hd] at this; exact this
      clear HR2 HQD hd H2
      go_wp2
      go_ret
      exact gives_cf HE.out H3.out rfl HK2.out foot_refl
    · have HE := HR2.out
      rw [if_neg (by decide)] at HE
      have HE2 := Lib.hid HE
      have t0 := H2.out.box.c0
      obtain ⟨w3, hrun, hz1, hz2, _⟩ := map_drop (P := Tryd.prog) (t := 56) (k := 9) (e := 60) mapT Tryd.underlying9 H2.out.map m.f.name (by unfold maxLen; omega) 0
      have HD := Lib.hid (H2.out.dropped HA.out hz2 hz1)
      have HDM : Hid (MapOf w3 km ((dropM ms (atF (cls ms) m.f.name)).map pk)) := hz1.perm (H2.out.drop_pk HA.out)
      have HGZ := Lib.hid hz2
      have HZM := Lib.hid hz1
      clear HE HR2 HQD hz1 hz2 H1 HB1
      go_wp2_with fail
      refine (put_any w3 kf km d.left d.done ((dropM ms (atF (cls ms) m.f.name)).map pk) HD.out.box HDM.out (by
        rw [List.length_map]
        have := (dropM_perm HA.out).length_eq
        rw [List.length_cons] at this
        omega) n2 hn2 m.k).mono ?_
      rintro e w4 ⟨rfl, hm4, hg4⟩
      have HM4 := Lib.hid hm4
      have HG4 := Lib.hid hg4
      clear hm4 hg4 hrun
      go_wp2
      go_ret
      have hk4 : Kept w w4 (Foot kf km ms) := (HK2.out.trans (Kept.of_grown HGZ.out (.inl (.inr (.inl rfl)))) foot_refl).trans (Kept.of_grown HG4.out (.inl (.inr (.inl rfl)))) foot_refl
      by_cases hsame : m.f.name = n2
      · have hee := HE2.out
        rw [if_pos hsame] at hee
        subst hsame
        refine gives_cf (ms' := ms) (s := d) hee ?_ ?_ hk4 foot_refl
        · refine H2.out.mapped (grow_trans HGZ.out HG4.out) (HM4.out.perm ?_) H2.out.sorted (fun y hy => H2.out.all hy) H2.out.apart
          have h1 := filter_one (n := m.f.name) (c := m.k) H2.out.map.names (List.mem_map.2 ⟨m, HMM.out, rfl⟩)
          have h2 := H2.out.drop_pk HA.out
          have h3 := h2.filter (fun p => decide (p.1 ≠ m.f.name))
          rw [List.filter_filter] at h3
          simp only [Bool.and_self] at h3
          exact (h3.symm.cons _).trans h1.symm
        · exact HLL.out.symm
      · have hee := HE2.out
        rw [if_neg hsame] at hee
        have hs1 : ∀ q, (q = m.k ∨ m.v.ownBlock = some q) → w3.heap[q]? = w2.heap[q]? := fun q hq => HGZ.out.block q (H2.out.lt (.inr (.inr ⟨m, HMM.out, hq⟩))) fun e => by
          rcases hq with h1 | h1
          · exact H2.out.ct_km HMM.out (by rw [← h1]; exact Option.some.inj e)
          · exact H2.out.row_km HMM.out (by rw [← Option.some.inj e]; exact h1)
        exact gives_cf hee (H2.out.moved HA.out HD.out HQ0.out hn2 HG4.out hs1 HM4.out) (cls_move rfl HA.out) hk4 fun j hj => .inl (foot_move H2.out HA.out HD.out hj)
def GivesNewC (w : World) (e : Ending) (w' : World) : Prop := ∃ k, e = .returned (.pointer (some ⟨k, 0, none⟩)) ∧ ∃ km, w.heap.size ≤ k ∧ w.heap.size ≤ km ∧ CfOk w' k km (-1) 0 [] ∧ Below w.heap.size w w'
theorem cf_new {w : World} {k km : Nat} (h : CBox w k km (-1) 0) (hm : MapOf w km []) : CfOk w k km (-1) 0 [] := ⟨h, hm, List.Pairwise.nil, fun m hm => (by cases hm), fun m hm => (by cases hm), fun m hm => (by cases hm), fun m hm => (by cases hm)⟩
set_option maxRecDepth 100000 in
theorem cNew_any (w : World) : Calls Tryd.prog 10 #[] w (GivesNewC w) := by
  have hmm := @run_makeMap Tryd.prog
  go_enter Tryd.func10, Tryd.ntmps10
  go_wp2
  go_ret
  have h1 : MapOf (w.alloc (.map #[] 0)) w.heap.size [] := mapOf_new w
  have hb1 : Below w.heap.size w (w.alloc (.map #[] 0)) := (Below.refl _ w).alloc (Nat.le_refl _) _
  have e1 : (w.alloc (.map #[] 0)).heap.size = w.heap.size + 1 := by simp
  refine ⟨w.heap.size + 1, rfl, w.heap.size, by omega, Nat.le_refl _, cf_new (by rw [← e1]; exact heap_alloc_new _ _) (h1.on ((Below.refl _ _).alloc (Nat.le_refl _) _)), ?_⟩
  exact hb1.trans ((Below.refl _ _).alloc (by simp) _)
/-- The bytes of a file, and if it is there. -/
def readF (l : List Fl) (n : ByteArray) : Option (List Nat) := match l[atF l n]? with | some f => if f.name = n then some f.b else none | none => none
theorem read_none {l : List Fl} {n : ByteArray} (h : hasF l n = false) : readF l n = none := by
  unfold readF
  unfold hasF at h
  split
  · rename_i f hf
    rw [hf] at h
    simp only at h
    rw [if_neg fun e => by rw [eqS_iff.2 e] at h; cases h]
  · rfl
theorem read_some {w : World} {kf km : Nat} {left done : Int} {ms : List CM} (h : CfOk w kf km left done ms) {m : CM} (hm : m ∈ ms) : readF (cls ms) m.f.name = some m.f.b := by
  unfold readF
  rw [cls_at (h.at hm).1]
  exact if_pos rfl
def GivesRead (w : World) (r : Option (List Nat)) (e : Ending) (w' : World) : Prop :=
  Below w.heap.size w w' ∧ match r with
  | none => e = .returned (.tuple #[.slice none 0 0, .bool false])
  | some l => ∃ ad cap, e = .returned (.tuple #[.slice ad l.length cap, .bool true]) ∧ OwnRow byteK w' w.heap.size (.slice ad l.length cap) l
theorem gives_read0 {w w' : World} {r : Option (List Nat)} (hr : r = none) (hb : Below w.heap.size w w') : GivesRead w r (.returned (.tuple #[.slice none 0 0, .bool false])) w' := by subst hr; exact ⟨hb, rfl⟩
theorem gives_read1 {w w' : World} {r : Option (List Nat)} {l : List Nat} {ad : Option Addr} {cap : Nat} (hr : r = some l) (hb : Below w.heap.size w w') (ho : OwnRow byteK w' w.heap.size (.slice ad l.length cap) l) : GivesRead w r (.returned (.tuple #[.slice ad l.length cap, .bool true])) w' := by subst hr; exact ⟨hb, ad, cap, rfl, ho⟩
set_option maxRecDepth 100000 in
theorem cRead_any (w : World) (kf km : Nat) (left done : Int) (ms : List CM) (h : CfOk w kf km left done ms) (n : ByteArray) (hn : n.size ≤ 1073741824) (hbl : ∀ m ∈ ms, m.f.b.length ≤ 140737488355328) : Calls Tryd.prog 17 #[.pointer (some ⟨kf, 0, none⟩), .string n] w (GivesRead w (readF (cls ms) n)) := by
  have H := Lib.hid h
  have t0 := h.box.c0
  cases hb : hasF (cls ms) n
  · have hlk := h.look0 hn hb
    have HL := Lib.hid (read_none hb)
    clear h hb
    go_enter Tryd.func17, Tryd.ntmps17
    go_wp2
    go_ret2
    exact gives_read0 HL.out (Below.refl _ _)
  · obtain ⟨m, hm, rfl, _⟩ := h.hit hb
    have hlk := h.look1 hm
    have HL := Lib.hid (read_some h hm)
    have c0 := (h.ct m hm).c0
    unfold CM.v at c0
    obtain ⟨ad, cap, hcv, hcr, _⟩ := OwnRow.row byteK_ok (h.row m hm).1 rfl
    unfold CM.v at hcv
    simp only [Value.slice.injEq, true_and] at hcv
    obtain ⟨rfl, rfl⟩ := hcv
    have HCR := Lib.hid hcr
    have hb1 := hbl m hm
    clear h hb hm hcr hbl
    go_enter Tryd.func17, Tryd.ntmps17
    go_wp2_with fail
    refine (bclone_any w m.ad m.f.b.length m.cap m.f.b HCR.out hb1).mono ?_
    rintro e w1 ⟨ad1, cap1, rfl, ho, hbe⟩
    have HO := Lib.hid ho
    have HB := Lib.hid hbe
    clear ho hbe
    go_wp2
    go_ret2
    exact gives_read1 HL.out HB.out HO.out
end Go.Proofs.YtjocfkkcnkpjdaaDoor
