/- Chapter 7's files as the code has them: one file system, seen from where it is called. -/
import Derived.Test.YtjocfkkcnkpjdaaDoorCfCrashAll
namespace Go.Proofs.YtjocfkkcnkpjdaaDoor
open Go.RowKit
open Go.RuneMath
open Go.FsMath
set_option linter.unusedVariables false

/-- A file system that was made behind W, and leaves the blocks X as they are in w1. -/
structure One (W : World) (X : Nat → Prop) (w1 w : World) (kf : Nat) (s : Fs) : Prop where
  below : Below W.heap.size W w
  size : w1.heap.size ≤ w.heap.size
  same : ∀ j, X j → j < w1.heap.size ∧ w.heap[j]? = w1.heap[j]?
  ex : ∃ km ms, CfOk w kf km s.left s.done ms ∧ cls ms = s.l ∧ ∀ j, Foot kf km ms j → W.heap.size ≤ j ∧ ¬ X j
section
variable {W w1 w w' : World} {X : Nat → Prop} {kf : Nat} {s : Fs}
theorem One.on (h : One W X w1 w kf s) (hb : Below w.heap.size w w') : One W X w1 w' kf s := by
  obtain ⟨km, ms, hok, hcl, hf⟩ := h.ex
  exact ⟨h.below.trans (hb.mono h.below.size), Nat.le_trans h.size hb.size, fun j hj => ⟨(h.same j hj).1, (hb.block j (Nat.lt_of_lt_of_le (h.same j hj).1 h.size)).trans (h.same j hj).2⟩, km, ms, hok.on hb, hcl, hf⟩
theorem One.held (h : One W X w1 w kf s) (hb : Below w.heap.size w w') : ∃ Y, One W Y w' w' kf s ∧ (∀ j, X j → Y j) ∧ ∀ j, w.heap.size ≤ j → j < w'.heap.size → Y j := by
  obtain ⟨km, ms, hok, hcl, hf⟩ := h.ex
  refine ⟨fun j => j < w'.heap.size ∧ ¬ Foot kf km ms j, ⟨h.below.trans (hb.mono h.below.size), Nat.le_refl _, fun j hj => ⟨hj.1, rfl⟩, km, ms, hok.on hb, hcl, fun j hj => ⟨(hf j hj).1, fun h2 => h2.2 hj⟩⟩, fun j hj => ⟨Nat.lt_of_lt_of_le (h.same j hj).1 (Nat.le_trans h.size hb.size), fun h2 => (hf j h2).2 hj⟩, fun j h1 h2 => ⟨h2, fun h3 => ?_⟩⟩
  have := hok.lt h3
  omega
theorem One.row {α : Type} {K : Kind α} {ad : Option Addr} {len cap : Nat} {l : List α} (h : One W X w1 w kf s) (hr : RowAt K w1 ad len cap l) (ha : ∀ a, ad = some a → X a.block) : RowAt K w ad len cap l := by
  have hk : Kept w1 { w1 with heap := w.heap } (fun j => ¬ X j) := ⟨rfl, rfl, rfl, h.size, fun j _ hj => (h.same j (Classical.byContradiction hj)).2⟩
  have h1 := hk.row hr fun a e hn => hn (ha a e)
  obtain ⟨h2, h3, h4, h5⟩ := h1
  refine ⟨h2, h3, h4, ?_⟩
  rcases h5 with h5 | h5
  · exact .inl h5
  · exact .inr h5
theorem One.gave (h : One W X w1 w kf s) {km : Nat} {ms ms' : List CM} {s' : Fs} (hf : ∀ j, Foot kf km ms j → W.heap.size ≤ j ∧ ¬ X j) (h1 : CfOk w' kf km s'.left s'.done ms') (h2 : cls ms' = s'.l) (hk : Kept w w' (Foot kf km ms)) (hn : ∀ j, Foot kf km ms' j → Foot kf km ms j ∨ w.heap.size ≤ j) : One W X w1 w' kf s' := by
  refine ⟨h.below.trans (hk.below (fun j hj => (hf j hj).1) h.below.size), Nat.le_trans h.size hk.size, fun j hj => ⟨(h.same j hj).1, (hk.block j (Nat.lt_of_lt_of_le (h.same j hj).1 h.size) fun e => (hf j e).2 hj).trans (h.same j hj).2⟩, km, ms', h1, h2, fun j hj => ?_⟩
  rcases hn j hj with h3 | h3
  · exact hf j h3
  · exact ⟨Nat.le_trans h.below.size h3, fun hx => by have := (h.same j hx).1; have := h.size; omega⟩
end
section
variable {W w1 w w' : World} {X : Nat → Prop} {kf : Nat} {s : Fs}
/-- A call is done. -/
def Did (W : World) (X : Nat → Prop) (w1 : World) (kf : Nat) (r : Int × Fs) (e : Ending) (w' : World) : Prop := e = .returned (.int .i64 r.1) ∧ Hid (One W X w1 w' kf r.2)
theorem one_did (h : One W X w1 w kf s) {km : Nat} {ms : List CM} (hf : ∀ j, Foot kf km ms j → W.heap.size ≤ j ∧ ¬ X j) {r : Int × Fs} {e : Ending} (hg : GivesCf w kf km ms r e w') : Did W X w1 kf r e w' := by
  obtain ⟨he, ms', h1, h2, h3, h4⟩ := hg
  exact ⟨he, h.gave hf h1 h2 h3 h4⟩
theorem oneNew (w : World) (hb : Below W.heap.size W w) : Calls Tryd.prog 10 #[] w fun e w' => ∃ k, e = .returned (.pointer (some ⟨k, 0, none⟩)) ∧ Hid (One W (fun j => j < w.heap.size) w w' k ⟨[], -1, 0⟩) := by
  refine (cNew_any w).mono ?_
  rintro e w' ⟨k, rfl, km, h1, h2, hok, hb2⟩
  refine ⟨k, rfl, hb.trans (hb2.mono hb.size), hb2.size, fun j hj => ⟨hj, hb2.block j hj⟩, km, [], hok, rfl, fun j hj => ?_⟩
  have hz := hb.size
  rcases hj with h3 | h3 | ⟨m, hm, _⟩
  · exact ⟨by omega, fun h4 => by omega⟩
  · exact ⟨by omega, fun h4 => by omega⟩
  · cases hm
theorem oneSync (h : One W X w1 w kf s) (hN : FsNum s.left s.done) (n : ByteArray) (hn : n.size ≤ 1073741824) : Calls Tryd.prog 15 #[.pointer (some ⟨kf, 0, none⟩), .string n] w (Did W X w1 kf (syncF s n)) := by
  obtain ⟨km, ms, hok, hcl, hf⟩ := h.ex
  exact (cSync_any w kf km s.left s.done ms hok hN n hn (syncF s n) (by rw [hcl])).mono fun e w' hg => one_did h hf hg
theorem oneTruncate (h : One W X w1 w kf s) (hN : FsNum s.left s.done) (n : ByteArray) (hn : n.size ≤ 1073741824) (k : Int) : Calls Tryd.prog 24 #[.pointer (some ⟨kf, 0, none⟩), .string n, .int .i64 k] w (Did W X w1 kf (truncF s n k)) := by
  obtain ⟨km, ms, hok, hcl, hf⟩ := h.ex
  exact (cTruncate_any w kf km s.left s.done ms hok hN n hn k (truncF s n k) (by rw [hcl])).mono fun e w' hg => one_did h hf hg
theorem oneRemove (h : One W X w1 w kf s) (hN : FsNum s.left s.done) (n : ByteArray) (hn : n.size ≤ 1073741824) : Calls Tryd.prog 22 #[.pointer (some ⟨kf, 0, none⟩), .string n] w (Did W X w1 kf (removeF s n)) := by
  obtain ⟨km, ms, hok, hcl, hf⟩ := h.ex
  exact (cRemove_any w kf km s.left s.done ms hok hN n hn (removeF s n) (by rw [hcl])).mono fun e w' hg => one_did h hf hg
theorem oneRename (h : One W X w1 w kf s) (hN : FsNum s.left s.done) (hL : s.l.length ≤ 10000) (n : ByteArray) (hn : n.size ≤ 1073741824) (n2 : ByteArray) (hn2 : n2.size ≤ 1073741824) : Calls Tryd.prog 21 #[.pointer (some ⟨kf, 0, none⟩), .string n, .string n2] w (Did W X w1 kf (renameF s n n2)) := by
  obtain ⟨km, ms, hok, hcl, hf⟩ := h.ex
  have hl : ms.length ≤ 10000 := by rw [← hcl] at hL; unfold cls at hL; rwa [List.length_map] at hL
  exact (cRename_any w kf km s.left s.done ms hok hl hN n hn n2 hn2 (renameF s n n2) (by rw [hcl])).mono fun e w' hg => one_did h hf hg
theorem oneStop (h : One W X w1 w kf s) (k : Int) : Calls Tryd.prog 18 #[.pointer (some ⟨kf, 0, none⟩), .int .i64 k] w fun e w' => e = .returned (.tuple #[]) ∧ Hid (One W X w1 w' kf ⟨s.l, k, s.done⟩) := by
  obtain ⟨km, ms, hok, hcl, hf⟩ := h.ex
  refine (cStop_any w kf km s.left s.done ms hok k).mono ?_
  rintro e w' ⟨he, h1, h2⟩
  exact ⟨he, h.gave (s' := ⟨s.l, k, s.done⟩) hf h1 hcl (Kept.of_grown h2 (.inl (.inl rfl))) foot_refl⟩
theorem oneDeeds (h : One W X w1 w kf s) : Calls Tryd.prog 20 #[.pointer (some ⟨kf, 0, none⟩)] w fun e w' => e = .returned (.int .i64 s.done) ∧ w = w' := by
  obtain ⟨km, ms, hok, hcl, hf⟩ := h.ex
  exact cDeeds_any w kf km s.left s.done hok.box
theorem oneLen (h : One W X w1 w kf s) (n : ByteArray) (hn : n.size ≤ 1073741824) : Calls Tryd.prog 23 #[.pointer (some ⟨kf, 0, none⟩), .string n] w fun e w' => e = .returned (.int .i64 (lenF s.l n : Int)) ∧ w = w' := by
  obtain ⟨km, ms, hok, hcl, hf⟩ := h.ex
  rw [← hcl]
  exact cLen_any w kf km s.left s.done ms hok n hn
theorem oneAppend (h : One W X w1 w kf s) (hN : FsNum s.left s.done) (hL : s.l.length ≤ 10000) (n : ByteArray) (hn : n.size ≤ 1073741824) (hb : Below w.heap.size w w')
    (bad : Option Addr) (blen bcap : Nat) (bs : List Nat) (hbr : RowAt byteK w' bad blen bcap bs) (hall : AllB bs) (hbk : ∀ a, bad = some a → 0 < blen → a.block < W.heap.size ∨ X a.block ∨ w.heap.size ≤ a.block) (hbl : ∀ f ∈ s.l, f.name = n → f.b.length + blen ≤ 140737488355328) (hb0 : blen ≤ 140737488355328) :
    Calls Tryd.prog 11 #[.pointer (some ⟨kf, 0, none⟩), .string n, .slice bad blen bcap] w' (Did W X w1 kf (appendF s n bs)) := by
  obtain ⟨km, ms, hok, hcl, hf⟩ := h.ex
  have hl : ms.length ≤ 10000 := by rw [← hcl] at hL; unfold cls at hL; rwa [List.length_map] at hL
  refine (cAppend_any w' kf km s.left s.done ms (hok.on hb) hN hl n hn bad blen bcap bs hbr hall (fun a ha h0 hF => ?_) (fun m hm => hbl m.f (by rw [← hcl]; exact List.mem_map.2 ⟨m, hm, rfl⟩)) hb0 (appendF s n bs) (by rw [hcl])).mono fun e w2 hg => one_did (h.on hb) hf hg
  have h1 := hf _ hF
  have h2 := hok.lt hF
  rcases hbk a ha h0 with h3 | h3 | h3
  · omega
  · exact h1.2 h3
  · omega
theorem oneCrash (h : One W X w1 w kf s) (hL : s.l.length ≤ 10000) (hT : Tabs W) (h2 : 2 ≤ W.heap.size) (hB : ∀ f ∈ s.l, f.b.length ≤ 140737488355328) (hb : Below w.heap.size w w')
    (kad : Option Addr) (klen kcap : Nat) (ks : List Int) (hk : RowAt keepK w' kad klen kcap ks) (hkb : ∀ a, kad = some a → 0 < klen → a.block < W.heap.size ∨ X a.block ∨ w.heap.size ≤ a.block) (hki : ∀ k ∈ ks, -9223372036854775808 ≤ k ∧ k ≤ 9223372036854775807)
    (gad : Option Addr) (glen gcap : Nat) (gs : List Nat) (hg : RowAt byteK w' gad glen gcap gs) (hgb : ∀ a, gad = some a → 0 < glen → a.block < W.heap.size ∨ X a.block ∨ w.heap.size ≤ a.block) (hga : AllB gs) :
    Calls Tryd.prog 16 #[.pointer (some ⟨kf, 0, none⟩), .slice kad klen kcap, .slice gad glen gcap] w' fun e w2 => e = .returned (.tuple #[]) ∧ Hid (One W X w1 w2 kf ⟨crashF s.l ks gs, -1, s.done⟩) := by
  obtain ⟨km, ms, hok, hcl, hf⟩ := h.ex
  have hl : ms.length ≤ 10000 := by rw [← hcl] at hL; unfold cls at hL; rwa [List.length_map] at hL
  have ho := h.on hb
  have hno : ∀ q : Nat, (q < W.heap.size ∨ X q ∨ w.heap.size ≤ q) → ¬ Foot kf km ms q := fun q hq hF => by
    have h1 := hf _ hF
    have h2 := hok.lt hF
    rcases hq with h3 | h3 | h3
    · omega
    · exact h1.2 h3
    · omega
  refine (cCrash_any w' kf km s.left s.done ms (hok.on hb) hl (hT.keep ho.below) (Nat.le_trans h2 ho.below.size) (fun m hm => hB m.f (by rw [← hcl]; exact List.mem_map.2 ⟨m, hm, rfl⟩)) kad klen kcap ks hk (fun a ha h0 => hno _ (hkb a ha h0)) hki gad glen gcap gs hg (fun a ha h0 => hno _ (hgb a ha h0)) hga).mono ?_
  rintro e w2 ⟨he, ms', h3, h4, h5, h6⟩
  exact ⟨he, ho.gave (s' := ⟨crashF s.l ks gs, -1, s.done⟩) hf h3 (by rw [h4, hcl]) h5 fun j hj => .inl (h6 j hj)⟩
/-- What Read gives. -/
def ReadC (w : World) (r : Option (List Nat)) (e : Ending) (w' : World) : Prop :=
  Hid (Below w.heap.size w w') ∧ match r with
  | none => e = .returned (.tuple #[.slice none 0 0, .bool false])
  | some l => ∃ ad cap, e = .returned (.tuple #[.slice ad l.length cap, .bool true]) ∧ Hid (RowAt byteK w' ad l.length cap l ∧ ∀ a, ad = some a → w.heap.size ≤ a.block ∧ a.block < w'.heap.size)
theorem oneRead (h : One W X w1 w kf s) (n : ByteArray) (hn : n.size ≤ 1073741824) (hB : ∀ f ∈ s.l, f.b.length ≤ 140737488355328) : Calls Tryd.prog 17 #[.pointer (some ⟨kf, 0, none⟩), .string n] w (ReadC w (readF s.l n)) := by
  obtain ⟨km, ms, hok, hcl, hf⟩ := h.ex
  rw [← hcl]
  refine (cRead_any w kf km s.left s.done ms hok n hn (fun m hm => hB m.f (by rw [← hcl]; exact List.mem_map.2 ⟨m, hm, rfl⟩))).mono ?_
  rintro e w' ⟨hb, h1⟩
  refine ⟨hb, ?_⟩
  cases hr : readF (cls ms) n with
  | none => rw [hr] at h1; exact h1
  | some l =>
    rw [hr] at h1
    obtain ⟨ad, cap, he, ho⟩ := h1
    obtain ⟨a2, c2, hv, hrow, _⟩ := OwnRow.row2 byteK_ok ho rfl
    simp only [Value.slice.injEq] at hv
    obtain ⟨rfl, _, rfl⟩ := hv
    exact ⟨ad, cap, he, hrow, fun a ha => ho.lt a.block (by rw [ha]; rfl)⟩
/-- What List gives. -/
def ListC (w : World) (l : List ByteArray) (e : Ending) (w' : World) : Prop :=
  Hid (Below w.heap.size w w') ∧ ∃ ad cap, e = .returned (.slice ad l.length cap) ∧ Hid (RowAt strK w' ad l.length cap l ∧ ∀ a, ad = some a → w.heap.size ≤ a.block ∧ a.block < w'.heap.size)
theorem oneList (h : One W X w1 w kf s) (hL : s.l.length ≤ 10000) (hT : Tabs W) (h2 : 2 ≤ W.heap.size) : Calls Tryd.prog 12 #[.pointer (some ⟨kf, 0, none⟩)] w (ListC w (s.l.map (·.name))) := by
  obtain ⟨km, ms, hok, hcl, hf⟩ := h.ex
  have hl : ms.length ≤ 10000 := by rw [← hcl] at hL; unfold cls at hL; rwa [List.length_map] at hL
  rw [← hcl]
  refine (cList_any w kf km s.left s.done ms hok hl (hT.keep h.below) (Nat.le_trans h2 h.below.size)).mono ?_
  rintro e w' ⟨hb, ad, cap, he, ho⟩
  obtain ⟨a2, c2, hv, hrow, _⟩ := OwnRow.row2 strK_ok ho rfl
  simp only [Value.slice.injEq] at hv
  obtain ⟨rfl, _, rfl⟩ := hv
  exact ⟨hb, ad, cap, he, hrow, fun a ha => ho.lt a.block (by rw [ha]; rfl)⟩
end
end Go.Proofs.YtjocfkkcnkpjdaaDoor
