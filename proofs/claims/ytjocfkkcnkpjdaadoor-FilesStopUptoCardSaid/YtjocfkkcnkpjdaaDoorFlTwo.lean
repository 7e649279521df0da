/- Two file systems of the code at once; Within as a function; what is done to two that are alike but for a stop. -/
import Derived.Test.YtjocfkkcnkpjdaaDoorFlAsk
namespace Go.FsMath
/-- Two file systems that are alike; the first may do n deeds in all. -/
structure Par (n : Int) (s t : Fs) : Prop where
  l : s.l = t.l
  d : s.done = t.done
  a : s.left = n - s.done
  b : t.left = -1
  le : s.done ≤ n
theorem may_pos {l : List Fl} {k d : Int} (h : k ≠ 0) : mayF ⟨l, k, d⟩ = true := by unfold mayF; simpa using h
theorem deed_pos {l : List Fl} {k d : Int} (h : 0 < k) : deedF ⟨l, k, d⟩ = ⟨l, k - 1, d + 1⟩ := by
  unfold deedF
  rw [if_neg (by show ¬ k = 0; omega)]
  show (⟨l, if 0 < k then k - 1 else k, d + 1⟩ : Fs) = _
  rw [if_pos h]
theorem deed_free {l : List Fl} {d : Int} : deedF ⟨l, -1, d⟩ = ⟨l, -1, d + 1⟩ := by
  unfold deedF
  rw [if_neg (by show ¬ (-1 : Int) = 0; omega)]
  show (⟨l, if (0 : Int) < -1 then -1 - 1 else -1, d + 1⟩ : Fs) = _
  rw [if_neg (by omega)]
theorem may_zero {l : List Fl} {d : Int} : mayF ⟨l, 0, d⟩ = false := by unfold mayF; simp
theorem Par.same {n : Int} {l : List Fl} {d : Int} (h : d ≤ n) : Par n ⟨l, n - d, d⟩ ⟨l, -1, d⟩ := ⟨rfl, rfl, rfl, rfl, h⟩
theorem Par.step {n : Int} {l : List Fl} {d : Int} (h : d < n) : Par n ⟨l, n - d - 1, d + 1⟩ ⟨l, -1, d + 1⟩ := ⟨rfl, rfl, by show n - d - 1 = n - (d + 1); omega, rfl, by show d + 1 ≤ n; omega⟩
section
variable {n : Int} {l : List Fl} {d : Int}
theorem par_append (h : d < n) (nm : ByteArray) (b : List Nat) : Par n (appendF ⟨l, n - d, d⟩ nm b).2 (appendF ⟨l, -1, d⟩ nm b).2 := by
  unfold appendF
  rw [may_pos (by omega), may_pos (by omega), deed_pos (by omega), deed_free]
  simp only
  split
  · exact Par.same (by omega)
  · split
    · exact Par.same (by omega)
    · exact Par.step h
theorem par_remove (h : d < n) (nm : ByteArray) : Par n (removeF ⟨l, n - d, d⟩ nm).2 (removeF ⟨l, -1, d⟩ nm).2 := by
  unfold removeF
  rw [may_pos (by omega), may_pos (by omega), deed_pos (by omega), deed_free]
  simp only
  split
  · exact Par.same (by omega)
  · exact Par.step h
theorem par_sync (h : d < n) (nm : ByteArray) : Par n (syncF ⟨l, n - d, d⟩ nm).2 (syncF ⟨l, -1, d⟩ nm).2 := by
  unfold syncF
  rw [may_pos (by omega), may_pos (by omega), deed_pos (by omega), deed_free]
  simp only
  split
  · exact Par.same (by omega)
  · exact Par.step h
theorem par_rename (h : d < n) (a b : ByteArray) : Par n (renameF ⟨l, n - d, d⟩ a b).2 (renameF ⟨l, -1, d⟩ a b).2 := by
  unfold renameF
  rw [may_pos (by omega), may_pos (by omega), deed_pos (by omega), deed_free]
  simp only
  split
  · exact Par.same (by omega)
  · split
    · exact Par.same (by omega)
    · simp only [Bool.true_eq_false, if_false]
      split
      · exact Par.step h
      · exact Par.step h
theorem idle_append (nm : ByteArray) (b : List Nat) : (appendF ⟨l, 0, d⟩ nm b).2 = ⟨l, 0, d⟩ := by
  unfold appendF
  rw [may_zero]
  simp only
  split
  · rfl
  · split <;> rfl
theorem idle_remove (nm : ByteArray) : (removeF ⟨l, 0, d⟩ nm).2 = ⟨l, 0, d⟩ := by
  unfold removeF
  rw [may_zero]
  split <;> rfl
theorem idle_sync (nm : ByteArray) : (syncF ⟨l, 0, d⟩ nm).2 = ⟨l, 0, d⟩ := by
  unfold syncF
  rw [may_zero]
  split <;> rfl
theorem idle_rename (a b : ByteArray) : (renameF ⟨l, 0, d⟩ a b).2 = ⟨l, 0, d⟩ := by
  unfold renameF
  rw [may_zero]
  split
  · rfl
  · split <;> rfl
end
end Go.FsMath
namespace Go.Proofs.YtjocfkkcnkpjdaaDoor
open Go.RowKit
open Go.RuneMath
open Go.FsMath
set_option linter.unusedVariables false

theorem mod_cases {n m : Int} (hm : 0 < m) : n % m = n.tmod m ∨ (n.tmod m < 0 ∧ n % m = n.tmod m + m) := by
  have h1 := Int.tmod_add_mul_tdiv n m
  have h2 := Int.emod_add_mul_ediv n m
  have h3 := Int.emod_nonneg n (b := m) (by omega)
  have h4 := Int.emod_lt_of_pos n hm
  have h5 := Int.tmod_lt_of_pos n hm
  have h6 : -m < n.tmod m := by
    have := Int.tmod_lt_of_pos (-n) hm
    rw [Int.neg_tmod] at this
    omega
  have h7 : n.tmod m - n % m = m * (n / m - n.tdiv m) := by rw [Int.mul_sub]; omega
  generalize n / m - n.tdiv m = q at h7
  have h8 : -2 < q := by
    by_cases hq : q < -1
    · have : m * q ≤ m * (-2) := Int.mul_le_mul_of_nonneg_left (by omega) (by omega)
      omega
    · omega
  have h9 : q < 1 := by
    by_cases hq : q < 1
    · exact hq
    · have : m * 1 ≤ m * q := Int.mul_le_mul_of_nonneg_left (by omega) (by omega)
      omega
  have h10 : q = 0 ∨ q = -1 := by omega
  rcases h10 with rfl | rfl
  · exact .inl (by omega)
  · exact .inr ⟨by omega, by omega⟩
def WithAns (n hi : Int) (w : World) (e : Ending) (w' : World) : Prop := ∃ k : Nat, k = (n % (hi + 1)).toNat ∧ e = .returned (.int .i64 k) ∧ (k : Int) ≤ hi ∧ w = w'
theorem as_fun {X n hi : Int} {w : World} (hX : X = n % (hi + 1)) (h0 : 0 ≤ hi) : WithAns n hi w (.returned (.int .i64 X)) w := by
  have m3 : n % (hi + 1) < hi + 1 := Int.emod_lt_of_pos _ (by omega)
  have m4 : 0 ≤ n % (hi + 1) := Int.emod_nonneg _ (by omega)
  exact ⟨_, rfl, by rw [Int.toNat_of_nonneg m4, hX], by omega, rfl⟩
theorem within_fun (n hi : Int) (w : World) (hn : -9223372036854775808 ≤ n ∧ n ≤ 9223372036854775807) (hh : 0 ≤ hi ∧ hi ≤ 281474976710656) :
    Calls Tryd.prog 14 #[.int .i64 n, .int .i64 0, .int .i64 hi] w (WithAns n hi w) := by
  by_cases h : 0 ≤ n ∧ n ≤ hi
  · refine (within_in n hi w h.1 h.2).mono ?_
    rintro e w' ⟨rfl, rfl⟩
    exact as_fun (Int.emod_eq_of_lt h.1 (by omega)).symm hh.1
  · have hg : (decide (0 ≤ n) && decide (n ≤ hi)) = false := by
      simp only [Bool.and_eq_false_iff, decide_eq_false_iff_not]; omega
    have m1 : n.tmod (hi + 1) < hi + 1 := Int.tmod_lt_of_pos _ (by omega)
    have m2 : -(hi + 1) < n.tmod (hi + 1) := by
      have := Int.tmod_lt_of_pos (-n) (b := hi + 1) (by omega)
      rw [Int.neg_tmod] at this
      omega
    have m3 : n % (hi + 1) < hi + 1 := Int.emod_lt_of_pos _ (by omega)
    have m4 : 0 ≤ n % (hi + 1) := Int.emod_nonneg _ (by omega)
    have m5 := Lib.hid (mod_cases (n := n) (m := hi + 1) (by omega))
    go_enter Tryd.func14, Tryd.ntmps14
    go_wp2
    all_goals
      go_ret
      exact as_fun (by have := m5.out; omega) hh.1
/-- Two file systems that were made behind W; the blocks E stay as they are in w1. -/
structure Two (W : World) (E : Nat → Prop) (w1 w : World) (kf : Nat) (sf : Fs) (kg : Nat) (sg : Fs) : Prop where
  below : Below W.heap.size W w
  size : w1.heap.size ≤ w.heap.size
  same : ∀ j, E j → j < w1.heap.size ∧ w.heap[j]? = w1.heap[j]?
  ex : ∃ kmf msf kmg msg, CfOk w kf kmf sf.left sf.done msf ∧ cls msf = sf.l ∧ CfOk w kg kmg sg.left sg.done msg ∧ cls msg = sg.l ∧ (∀ j, Foot kf kmf msf j → W.heap.size ≤ j ∧ ¬ Foot kg kmg msg j ∧ ¬ E j) ∧ ∀ j, Foot kg kmg msg j → W.heap.size ≤ j ∧ ¬ E j
section
variable {W w1 w w' : World} {E : Nat → Prop} {kf kg : Nat} {sf sg : Fs}
theorem Two.swap (h : Two W E w1 w kf sf kg sg) : Two W E w1 w kg sg kf sf := by
  obtain ⟨kmf, msf, kmg, msg, h1, h2, h3, h4, h5, h6⟩ := h.ex
  exact ⟨h.below, h.size, h.same, kmg, msg, kmf, msf, h3, h4, h1, h2, fun j hj => ⟨(h6 j hj).1, fun hf => (h5 j hf).2.1 hj, (h6 j hj).2⟩, fun j hj => ⟨(h5 j hj).1, (h5 j hj).2.2⟩⟩
theorem Two.on (h : Two W E w1 w kf sf kg sg) (hb : Below w.heap.size w w') : Two W E w1 w' kf sf kg sg := by
  obtain ⟨kmf, msf, kmg, msg, h1, h2, h3, h4, h5, h6⟩ := h.ex
  exact ⟨h.below.trans (hb.mono h.below.size), Nat.le_trans h.size hb.size, fun j hj => ⟨(h.same j hj).1, (hb.block j (Nat.lt_of_lt_of_le (h.same j hj).1 h.size)).trans (h.same j hj).2⟩, kmf, msf, kmg, msg, h1.on hb, h2, h3.on hb, h4, h5, h6⟩
theorem Two.held (h : Two W E w1 w kf sf kg sg) (hb : Below w.heap.size w w') : ∃ D, Two W D w' w' kf sf kg sg ∧ (∀ j, E j → D j) ∧ ∀ j, w.heap.size ≤ j → j < w'.heap.size → D j := by
  obtain ⟨kmf, msf, kmg, msg, h1, h2, h3, h4, h5, h6⟩ := h.ex
  refine ⟨fun j => j < w'.heap.size ∧ ¬ Foot kf kmf msf j ∧ ¬ Foot kg kmg msg j, ⟨h.below.trans (hb.mono h.below.size), Nat.le_refl _, fun j hj => ⟨hj.1, rfl⟩, kmf, msf, kmg, msg, h1.on hb, h2, h3.on hb, h4, fun j hj => ⟨(h5 j hj).1, (h5 j hj).2.1, fun hd => hd.2.1 hj⟩, fun j hj => ⟨(h6 j hj).1, fun hd => hd.2.2 hj⟩⟩, fun j hj => ⟨Nat.lt_of_lt_of_le (h.same j hj).1 (Nat.le_trans h.size hb.size), fun hf => (h5 j hf).2.2 hj, fun hf => (h6 j hf).2 hj⟩, fun j h7 h8 => ⟨h8, fun hf => ?_, fun hf => ?_⟩⟩
  · have := h1.lt hf; omega
  · have := h3.lt hf; omega
theorem Two.first (h : Two W E w1 w kf sf kg sg) : ∃ X, One W X w w kf sf ∧ ∀ w' sf', One W X w w' kf sf' → Two W E w1 w' kf sf' kg sg := by
  obtain ⟨kmf, msf, kmg, msg, h1, h2, h3, h4, h5, h6⟩ := h.ex
  refine ⟨fun j => j < w.heap.size ∧ ¬ Foot kf kmf msf j, ⟨h.below, Nat.le_refl _, fun j hj => ⟨hj.1, rfl⟩, kmf, msf, h1, h2, fun j hj => ⟨(h5 j hj).1, fun hx => hx.2 hj⟩⟩, fun w' sf' ho => ?_⟩
  obtain ⟨km', ms', hok, hcl, hf⟩ := ho.ex
  have hxg : ∀ j, Foot kg kmg msg j → (j < w.heap.size ∧ ¬ Foot kf kmf msf j) := fun j hj => ⟨h3.lt hj, fun hF => (h5 j hF).2.1 hj⟩
  have hxe : ∀ j, E j → (j < w.heap.size ∧ ¬ Foot kf kmf msf j) := fun j hj => ⟨Nat.lt_of_lt_of_le (h.same j hj).1 h.size, fun hF => (h5 j hF).2.2 hj⟩
  exact ⟨ho.below, Nat.le_trans h.size ho.size, fun j hj => ⟨(h.same j hj).1, (ho.same j (hxe j hj)).2.trans (h.same j hj).2⟩, km', ms', kmg, msg, hok, hcl, h3.same fun j hj => (ho.same j (hxg j hj)).2, h4, fun j hj => ⟨(hf j hj).1, fun hg => (hf j hj).2 (hxg j hg), fun he => (hf j hj).2 (hxe j he)⟩, h6⟩
theorem two_new {X : Nat → Prop} (h : One W X w1 w kf sf) (h2 : One W (fun j => j < w.heap.size) w w' kg sg) : Two W (fun _ => False) w' w' kf sf kg sg := by
  obtain ⟨km, ms, hok, hcl, hf⟩ := h.ex
  obtain ⟨km2, ms2, hok2, hcl2, hf2⟩ := h2.ex
  exact ⟨h2.below, Nat.le_refl _, fun j hj => hj.elim, km, ms, km2, ms2, hok.same fun j hj => (h2.same j (hok.lt hj)).2, hcl, hok2, hcl2, fun j hj => ⟨(hf j hj).1, fun hg => (hf2 j hg).2 (hok.lt hj), fun he => he⟩, fun j hj => ⟨(hf2 j hj).1, fun he => he⟩⟩
theorem Two.cell (h : Two W E w1 w kf sf kg sg) {b o : Nat} (hb : E b) {v : Value} (hc : w1.cell? ⟨b, o, none⟩ = some v) : w.cell? ⟨b, o, none⟩ = some v := by
  have e := (h.same b hb).2
  unfold World.cell? at hc ⊢
  simp only [e]
  exact hc
theorem Two.ne (h : Two W E w1 w kf sf kg sg) : kf ≠ kg := by
  obtain ⟨kmf, msf, kmg, msg, h1, h2, h3, h4, h5, h6⟩ := h.ex
  intro e
  exact (h5 kf (.inl rfl)).2.1 (.inl e)
theorem One.all {X : Nat → Prop} (h : One W X w1 w kf sf) : ∀ f ∈ sf.l, AllB f.b ∧ f.name.size ≤ 1073741824 := by
  obtain ⟨km, ms, hok, hcl, _⟩ := h.ex
  intro f hf
  rw [← hcl] at hf
  obtain ⟨m, hm, rfl⟩ := List.mem_map.1 hf
  exact ⟨(hok.row m hm).2.1, (hok.right m hm).2⟩
/-- A call on the first of two. -/
theorem two_did (h : Two W E w1 w kf sf kg sg) {P : World → Fs → Ending → World → Prop} {g : Nat} {args : Array Value} {r : Int × Fs}
    (hc : ∀ X, One W X w w kf sf → Calls Tryd.prog g args w (Did W X w kf r)) : Calls Tryd.prog g args w fun e w' => e = .returned (.int .i64 r.1) ∧ Hid (Two W E w1 w' kf r.2 kg sg) := by
  obtain ⟨X, h1, h2⟩ := h.first
  exact (hc X h1).mono fun e w' hd => ⟨hd.1, h2 w' r.2 hd.2.out⟩
end
end Go.Proofs.YtjocfkkcnkpjdaaDoor
