/- Chapter 7's own files: Remove, Sync. -/
import Derived.Test.YtjocfkkcnkpjdaaDoorFsDrop
namespace Go.Proofs.YtjocfkkcnkpjdaaDoor
open Go.RowKit
open Go.RuneMath
open Go.FsMath
set_option linter.unusedVariables false

/-- Two blocks alone may have turned: the box of a file system, and its row of files. -/
structure KeptFs (w w' : World) (kf : Nat) (v : Value) : Prop where
  os : w'.os = w.os
  tape : w'.tape = w.tape
  output : w'.output = w.output
  size : w.heap.size ≤ w'.heap.size
  block : ∀ j, j < w.heap.size → j ≠ kf → v.ownBlock ≠ some j → w'.heap[j]? = w.heap[j]?
theorem kept_grown {w w' : World} {kf : Nat} {v : Value} (h : w.grownBy w' (some kf)) : KeptFs w w' kf v := ⟨h.os, h.tape, h.output, h.size, fun j hj hk _ => h.block j hj fun e => hk (Option.some.inj e)⟩
theorem kept_own {w w' : World} {kf : Nat} {v : Value} (h : w.grownBy w' v.ownBlock) : KeptFs w w' kf v := ⟨h.os, h.tape, h.output, h.size, fun j hj _ hv => h.block j hj fun e => hv e.symm⟩
def NewOr (w : World) (v v' : Value) : Prop := ∀ q, v'.ownBlock = some q → v.ownBlock = some q ∨ w.heap.size ≤ q
theorem KeptFs.trans {w w1 w2 : World} {kf : Nat} {v v1 : Value} (h : KeptFs w w1 kf v) (hn : NewOr w v v1) (h2 : KeptFs w1 w2 kf v1) : KeptFs w w2 kf v :=
  ⟨h2.os.trans h.os, h2.tape.trans h.tape, h2.output.trans h.output, Nat.le_trans h.size h2.size, fun j hj hk hv => (h2.block j (Nat.lt_of_lt_of_le hj h.size) hk fun e => by
    rcases hn j e with h3 | h3
    · exact hv h3
    · omega).trans (h.block j hj hk hv)⟩
theorem newOr_refl (w : World) (v : Value) : NewOr w v v := fun q hq => .inl hq
theorem all_set1 {α : Type} {K : Kind α} {bytes : Nat} (hK : K.Ok bytes) {l : List α} {i : Nat} {m m' : α} (hm : l[i]? = some m) (j : Nat) (u : Value) (hj : j < K.size) (he : K.enc m' = (K.enc m).set j u) : (K.all l).set (i * K.size + j) u = K.all (l.set i m') := by
  obtain ⟨hil, e⟩ := List.getElem?_eq_some_iff.1 hm
  have hs : l = l.take i ++ m :: l.drop (i + 1) := by rw [← e, ← List.drop_eq_getElem_cons hil, List.take_append_drop]
  obtain ⟨a, ha⟩ : ∃ a, a = l.take i := ⟨_, rfl⟩
  obtain ⟨b, hb⟩ : ∃ b, b = l.drop (i + 1) := ⟨_, rfl⟩
  have hal : a.length = i := by rw [ha, List.length_take]; omega
  rw [← ha, ← hb] at hs
  have hlen : (K.all a).length = i * K.size := by rw [hK.all_len, hal]
  have hset : l.set i m' = a ++ m' :: b := by rw [hs, List.set_append_right _ _ (by omega), hal, Nat.sub_self]; rfl
  rw [hset, hs, Kind.all_app, Kind.all_app]
  have e1 : K.all (m :: b) = K.enc m ++ K.all b := by simp [Kind.all]
  have e2 : K.all (m' :: b) = (K.enc m).set j u ++ K.all b := by simp [Kind.all, he]
  rw [e1, e2, List.set_append_right _ _ (by omega), hlen, Nat.add_sub_cancel_left, List.set_append_left _ _ (by rw [hK.len]; exact hj)]
/-- One cell of one thing is written. -/
theorem own_store {α : Type} {K : Kind α} {bytes : Nat} (hK : K.Ok bytes) {w : World} {base g n cap i : Nat} {l : List α} {m m' : α} (h : OwnRow K w base (.slice (some ⟨g, 0, none⟩) n cap) l) (hn : l.length = n) (hm : l[i]? = some m) (j : Nat) (u : Value) (hj : j < K.size) (he : K.enc m' = (K.enc m).set j u) :
    OwnRow K (w.setCell ⟨g, i * K.size + j, none⟩ u) base (.slice (some ⟨g, 0, none⟩) n cap) (l.set i m') := by
  subst hn
  unfold OwnRow at h ⊢
  have h1 := (World.ownsRow.stored h (i * K.size + j) u).1
  rw [all_set1 hK hm j u hj he] at h1
  rw [List.length_set]
  exact h1
theorem own_block2 {α : Type} {K : Kind α} {w : World} {base n : Nat} {v : Value} {l : List α} (h : OwnRow K w base v l) (hn : l.length = n) (h0 : 0 < n) : ∃ g cap cur, v = .slice (some ⟨g, 0, none⟩) n cap ∧ w.heap[g]? = some (.cells cur K.ty (0, 0)) ∧ base ≤ g ∧ n * K.size ≤ cur.size := by
  subst hn
  rcases h.2 with ⟨_, e⟩ | ⟨g, cap, cur, e, hb, hh, hc, _, hs, _⟩
  · omega
  · exact ⟨g, cap, cur, e, hh, hb, by rw [hs]; exact Nat.mul_le_mul_right _ hc⟩
/-- The lists of bytes lie where they lay, or in new blocks. -/
def ListsFs (w : World) (ms ms' : List FM) : Prop := ∀ m' ∈ ms', ∀ a, m'.ad = some a → (∃ m ∈ ms, m.ad = some a) ∨ w.heap.size ≤ a.block
theorem lists_refl (w : World) (ms : List FM) : ListsFs w ms ms := fun m hm a ha => .inl ⟨m, hm, ha⟩
theorem lists_sub {w : World} {ms ms' : List FM} (h : ∀ m ∈ ms', m ∈ ms) : ListsFs w ms ms' := fun m hm a ha => .inl ⟨m, h m hm, ha⟩
theorem lists_set {w : World} {ms : List FM} {i : Nat} {m m' : FM} (hm : ms[i]? = some m) (h : ∀ a, m'.ad = some a → m.ad = some a ∨ w.heap.size ≤ a.block) : ListsFs w ms (ms.set i m') := fun x hx a ha => by
  rcases List.mem_or_eq_of_mem_set hx with h1 | h1
  · exact .inl ⟨x, h1, ha⟩
  · subst h1
    rcases h a ha with h2 | h2
    · exact .inl ⟨m, List.mem_of_getElem? hm, h2⟩
    · exact .inr h2
def GivesFs (w : World) (kf : Nat) (v : Value) (ms0 : List FM) (r : Int × Fs) (e : Ending) (w' : World) : Prop :=
  e = .returned (.int .i64 r.1) ∧ ∃ v' ms, FsOk w' kf v' r.2.left r.2.done ms ∧ fls ms = r.2.l ∧ KeptFs w w' kf v ∧ NewOr w v v' ∧ ListsFs w ms0 ms
theorem gives_fs {ms0 : List FM} {w w' : World} {kf : Nat} {v v' : Value} {r : Int × Fs} {x : Int} {s : Fs} {ms : List FM} (hr : r = (x, s)) (h : FsOk w' kf v' s.left s.done ms) (hl : fls ms = s.l) (hk : KeptFs w w' kf v) (hn : NewOr w v v') (hz : ListsFs w ms0 ms) : GivesFs w kf v ms0 r (.returned (.int .i64 x)) w' := by
  subst hr
  exact ⟨rfl, v', ms, h, hl, hk, hn, hz⟩
theorem names_of {ms : List FM} (h : NamesOk ms) : NamesOk ms := h
/-- What every deed finds: where the name stands. -/
theorem at_ok (w : World) (kf : Nat) (v : Value) (left done : Int) (ms : List FM) (h : FsOk w kf v left done ms) (hL : ms.length ≤ 1000000) (hN : NamesOk ms) (n : ByteArray) (hn : n.size ≤ 1073741824) :
    Calls Tryd.prog 45 #[.pointer (some ⟨kf, 0, none⟩), .string n] w (GivesAt w (atF (fls ms) n) (hasF (fls ms) n)) := by
  obtain ⟨ad, cap, hv, hr, _⟩ := OwnRow.row2 flK_ok h.row rfl
  have hb := h.box
  rw [hv] at hb
  exact fsAt_any w kf ad ms.length cap left done ms hb hr (by omega) hN n hn
theorem has_len {ms : List FM} {n : ByteArray} (h : hasF (fls ms) n = true) : ∃ m, ms[atF (fls ms) n]? = some m ∧ m.f.name = n := by
  obtain ⟨f, hf, he⟩ := has_some h
  unfold fls at hf
  rw [List.getElem?_map] at hf
  unfold fls
  cases hm : ms[atF (ms.map (·.f)) n]? with
  | none => rw [hm] at hf; cases hf
  | some m =>
    rw [hm] at hf
    cases hf
    exact ⟨m, rfl, he⟩
set_option maxRecDepth 100000 in
set_option maxHeartbeats 4000000 in
theorem fsRemove_any (w : World) (kf : Nat) (v : Value) (left done : Int) (ms : List FM) (h : FsOk w kf v left done ms) (hL : ms.length ≤ 1000000) (hN : NamesOk ms) (hd0 : 0 ≤ done) (hd1 : done ≤ 4611686018427387904) (hl0 : -1 ≤ left) (hl1 : left ≤ 9223372036854775807) (n : ByteArray) (hn : n.size ≤ 1073741824) (r : Int × Fs) (hr : removeF ⟨fls ms, left, done⟩ n = r) :
    Calls Tryd.prog 28 #[.pointer (some ⟨kf, 0, none⟩), .string n] w (GivesFs w kf v ms r) := by
  have H := Lib.hid h
  have HN := Lib.hid hN
  obtain ⟨i, hi⟩ : ∃ i, atF (fls ms) n = i := ⟨_, rfl⟩
  obtain ⟨b, hb⟩ : ∃ b, hasF (fls ms) n = b := ⟨_, rfl⟩
  have CA := Lib.hid (at_ok w kf v left done ms h hL hN n hn)
  rw [hi, hb] at CA
  have HR : Hid (r = if b = false then (22, ⟨fls ms, left, done⟩) else if mayF ⟨fls ms, left, done⟩ = false then (0, ⟨fls ms, left, done⟩) else (0, ⟨dropF (fls ms) i, (deedF ⟨fls ms, left, done⟩).left, (deedF ⟨fls ms, left, done⟩).done⟩)) := by
    show r = _
    rw [← hr]
    unfold removeF
    simp only
    rw [hi, hb]
  have HLT : Hid (b = true → i < ms.length) := by
    intro hb1
    rw [← hb] at hb1
    obtain ⟨m, hm, _⟩ := has_len hb1
    rw [hi] at hm
    exact (List.getElem?_eq_some_iff.1 hm).1
  clear h hN hr hi hb
  go_enter Tryd.func28, Tryd.ntmps28
  go_wp2_with fail
  refine CA.out.mono ?_
  rintro e w1 ⟨rfl, hb1⟩
  have H1 := Lib.hid (H.out.keep hb1)
  have HB1 := Lib.hid hb1
  clear hb1 CA H
  cases b
  · have HE : Hid (r = (22, ⟨fls ms, left, done⟩)) := by show r = _; rw [HR.out, if_pos rfl]
    clear HR HLT
    go_wp2
    go_ret
    exact gives_fs HE.out H1.out rfl (kept_grown (grow_below (grow_refl w _) HB1.out)) (newOr_refl _ _) (lists_refl _ _)
  · have hil := HLT.out rfl
    go_wp2_with fail
    refine (deed_any w1 kf v left done H1.out.box hd0 hd1 hl0 hl1 (fls ms)).mono ?_
    rintro e w2 ⟨rfl, HBX2, HG2⟩
    have H2 := Lib.hid (H1.out.turned HG2.out HBX2.out)
    have HGW := Lib.hid (grow_trans (grow_below (grow_refl w (some kf)) HB1.out) HG2.out)
    obtain ⟨d, hdd⟩ : ∃ d, deedF ⟨fls ms, left, done⟩ = d := ⟨_, rfl⟩
    obtain ⟨q, hq⟩ : ∃ q, mayF ⟨fls ms, left, done⟩ = q := ⟨_, rfl⟩
    have hqd : q = false → d = ⟨fls ms, left, done⟩ := fun h => by
      rw [← hdd]
      rw [h] at hq
      unfold mayF at hq
      unfold deedF
      rw [if_pos (by simpa using hq)]
    have HRR := HR.out
    rw [hdd, hq, if_neg (by decide)] at HRR
    have HR2 := Lib.hid HRR
    have HQD := Lib.hid hqd
    rw [hdd] at H2
    rw [hq]
    clear HRR HR hqd hdd hq HBX2 HG2 H1 HLT
    cases q
    · have HE : Hid (r = (0, ⟨fls ms, left, done⟩)) := by show r = _; rw [HR2.out, if_pos rfl]
      have hd := HQD.out rfl
      have H3 : Hid (FsOk w2 kf v left done ms) := by have := H2.out; rw [hd] at this; exact this
      clear HR2 HQD hd H2
      go_wp2
      go_ret
      exact gives_fs HE.out H3.out rfl (kept_grown HGW.out) (newOr_refl _ _) (lists_refl _ _)
    · have HE : Hid (r = (0, ⟨dropF (fls ms) i, d.left, d.done⟩)) := by show r = _; rw [HR2.out, if_neg (by decide)]
      clear HR2 HQD
      go_wp2_with fail
      refine (drop_any w2 kf v d.left d.done ms H2.out hL i hil).mono ?_
      rintro e w3 ⟨rfl, v3, h3, hg3, hv3⟩
      have H3 := Lib.hid h3
      have HG3 := Lib.hid (grow_trans HGW.out hg3)
      have HNW : Hid (NewOr w v v3) := fun q hq => .inr (Nat.le_trans HGW.out.size (hv3 q hq))
      clear h3 hg3 hv3 H2
      go_wp2
      go_ret
      exact gives_fs HE.out H3.out (by unfold fls dropF; rw [List.map_append, List.map_take, List.map_drop]) (kept_grown HG3.out) HNW.out (lists_sub fun m hm => by
        rcases List.mem_append.1 hm with h1 | h1
        · exact List.mem_of_mem_take h1
        · exact List.mem_of_mem_drop h1)
end Go.Proofs.YtjocfkkcnkpjdaaDoor
