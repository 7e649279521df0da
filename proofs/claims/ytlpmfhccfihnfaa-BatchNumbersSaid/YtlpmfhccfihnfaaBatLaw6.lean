/- The statements' own 'odd' of chapter 6: a batch with one thing turned: some batch, its records new memory or those of the other. -/
import Derived.Test.YtlpmfhccfihnfaaBatLaw5
import Derived.Test.YtlpmfhccfihnfaaRows2
import Derived.Test.YtlpmfhccfihnfaaRegionZ
import Derived.Deep.CutRange
import Derived.Deep.CutBlock
namespace Go.Proofs.Ytlpmfhccfihnfaa
open Go.RowKit
open Go.SeqMath
open Go.BatMath hiding AllB getD_lt take_all
set_option linter.unusedVariables false

theorem RowAt.set {α : Type} {K : Kind α} {w : World} {k j len cap : Nat} {ad : Option Addr} {l : List α} {u : Value} (h : RowAt K w ad len cap l) (hb : len = 0 ∨ ∀ a, ad = some a → a.block ≠ k) : RowAt K (w.setCell ⟨k, j, none⟩ u) ad len cap l := by
  refine ⟨h.length, h.fits, h.room, ?_⟩
  rcases h.cells with h0 | ⟨b, off, e, hlt, hc⟩
  · exact .inl h0
  · rcases hb with h0 | hb
    · exact .inl h0
    have hne : b ≠ k := hb _ e
    refine .inr ⟨b, off, e, by simpa using hlt, fun i x hi m v hm => ?_⟩
    rw [World.cell?_of_block (a := ⟨b, off + (i * K.size + m), none⟩) (w := w) (by
      show (w.heap.modify k _)[b]? = _
      rw [Array.getElem?_modify, if_neg (Ne.symm hne)])]
    exact hc i x hi m v hm
def recK : Kind Rc := ⟨fun r => [.string r.key, .string r.val], 2, 58, 22⟩
theorem recK_ok : recK.Ok 32 where
  und := Try.underlying22
  info := by
    obtain ⟨i, hi, hz, hs, hb⟩ := info_parts infoRec
    exact ⟨i, _, hi, hz, hs, hb, rfl⟩
  len := fun _ => rfl
  pos := by decide
  one := fun r u hu => by
    simp only [recK, List.mem_cons, List.not_mem_nil, or_false] at hu
    rcases hu with rfl | rfl <;> rfl
  few := by decide
theorem recsAt_row {w : World} {ad : Option Addr} {len cap : Nat} {l : List Rc} : RecsAt w ad len cap l ↔ RowAt recK w ad len cap l := by
  constructor
  · intro h
    refine ⟨h.length, h.fits, h.room, ?_⟩
    rcases h.cells with h0 | ⟨b, off, e, hlt, hc⟩
    · exact .inl h0
    · refine .inr ⟨b, off, e, hlt, fun i x hi j u hj => ?_⟩
      obtain ⟨h1, h2⟩ := hc i x hi
      rcases j with _ | _ | j
      · cases hj; exact h1
      · cases hj; exact h2
      · simp [recK] at hj
  · intro h
    refine ⟨h.length, h.fits, h.room, ?_⟩
    rcases h.cells with h0 | ⟨b, off, e, hlt, hc⟩
    · exact .inl h0
    · exact .inr ⟨b, off, e, hlt, fun i x hi => ⟨hc i x hi 0 _ rfl, hc i x hi 1 _ rfl⟩⟩
/-- The batch under way and the result, side by side. -/
structure Pair (w : World) (b0 b1 b2 b3 : Int) (b4 : Bool) (b5 : Int) (v : Value) (W : World) : Prop where
  bx : BoxAt W w.heap.size b0 b1 b2 b3 b4 b5 v
  rs : BoxAt W (w.heap.size + 1) 0 0 0 0 false 0 (.slice none 0 0)
  bel : Below w.heap.size w W
section
variable {w W W' : World} {b0 b1 b2 b3 : Int} {b4 : Bool} {b5 : Int} {v : Value}
theorem Pair.drew (h : Pair w b0 b1 b2 b3 b4 b5 v W) : Pair w b0 b1 b2 b3 b4 b5 v W.drew := ⟨h.bx, h.rs, h.bel.drew⟩
theorem Pair.s0 (h : Pair w b0 b1 b2 b3 b4 b5 v W) (n : Int) : Pair w n b1 b2 b3 b4 b5 v (W.setCell ⟨w.heap.size, 0, none⟩ (.int .i64 n)) := ⟨h.bx.s0 n, h.rs.off (by omega) _, h.bel.setCell (Nat.le_refl _) _⟩
theorem Pair.s1 (h : Pair w b0 b1 b2 b3 b4 b5 v W) (n : Int) : Pair w b0 n b2 b3 b4 b5 v (W.setCell ⟨w.heap.size, 1, none⟩ (.int .i64 n)) := ⟨h.bx.s1 n, h.rs.off (by omega) _, h.bel.setCell (Nat.le_refl _) _⟩
theorem Pair.s2 (h : Pair w b0 b1 b2 b3 b4 b5 v W) (n : Int) : Pair w b0 b1 n b3 b4 b5 v (W.setCell ⟨w.heap.size, 2, none⟩ (.int .i64 n)) := ⟨h.bx.s2 n, h.rs.off (by omega) _, h.bel.setCell (Nat.le_refl _) _⟩
theorem Pair.s3 (h : Pair w b0 b1 b2 b3 b4 b5 v W) (n : Int) : Pair w b0 b1 b2 n b4 b5 v (W.setCell ⟨w.heap.size, 3, none⟩ (.int .i64 n)) := ⟨h.bx.s3 n, h.rs.off (by omega) _, h.bel.setCell (Nat.le_refl _) _⟩
theorem Pair.s4 (h : Pair w b0 b1 b2 b3 b4 b5 v W) (n : Bool) : Pair w b0 b1 b2 b3 n b5 v (W.setCell ⟨w.heap.size, 4, none⟩ (.bool n)) := ⟨h.bx.s4 n, h.rs.off (by omega) _, h.bel.setCell (Nat.le_refl _) _⟩
theorem Pair.s5 (h : Pair w b0 b1 b2 b3 b4 b5 v W) (n : Int) : Pair w b0 b1 b2 b3 b4 n v (W.setCell ⟨w.heap.size, 5, none⟩ (.int .i64 n)) := ⟨h.bx.s5 n, h.rs.off (by omega) _, h.bel.setCell (Nat.le_refl _) _⟩
theorem Pair.s6 (h : Pair w b0 b1 b2 b3 b4 b5 v W) (n : Value) : Pair w b0 b1 b2 b3 b4 b5 n (W.setCell ⟨w.heap.size, 6, none⟩ n) := ⟨h.bx.s6 n, h.rs.off (by omega) _, h.bel.setCell (Nat.le_refl _) _⟩
theorem Pair.on (h : Pair w b0 b1 b2 b3 b4 b5 v W) (hb : Below W.heap.size W W') : Pair w b0 b1 b2 b3 b4 b5 v W' := ⟨h.bx.on hb, h.rs.on hb, h.bel.trans (hb.mono h.bel.size)⟩
theorem Pair.grown (h : Pair w b0 b1 b2 b3 b4 b5 v W) {r : Option Nat} (hg : W.grownBy W' r) (hr : ∀ k, r = some k → w.heap.size + 1 < k) : Pair w b0 b1 b2 b3 b4 b5 v W' := by
  have h1 := h.rs.lt
  refine ⟨?_, ?_, h.bel.grown hg h.bel.size fun k hk => by have := hr k hk; omega⟩
  · unfold BoxAt at *
    rw [hg.block _ h.bx.lt (fun e => by have := hr _ e.symm; omega)]
    exact h.bx
  · unfold BoxAt at *
    rw [hg.block _ h1 (fun e => by have := hr _ e.symm; omega)]
    exact h.rs
/-- What stands ahead of the end. -/
def OddPost (w : World) (len : Nat) (W : World) : Prop :=
  ∃ b0 b1 b2 b3 b4 b5 l ad n cap, Hid (Pair w b0 b1 b2 b3 b4 b5 (.slice ad n cap) W) ∧ Hid (RecsAt W ad n cap l) ∧ Hid (TextsOk l) ∧ Hid (n ≤ len + 20) ∧ Hid (n = 0 ∨ ∀ a, ad = some a → a.block ≠ w.heap.size + 1) ∧ Hid (Bat.wf ⟨b0, b1, b2, b3, b4, b5, l⟩)
/-- What odd gives. -/
def GivesOdd (w : World) (len : Nat) (e : Ending) (w' : World) : Prop :=
  ∃ b0 b1 b2 b3 b4 b5 l ad n cap, e = .returned (.agg #[.int .i64 b0, .int .i64 b1, .int .i64 b2, .int .i64 b3, .bool b4, .int .i64 b5, .slice ad n cap]) ∧ Hid (RecsAt w' ad n cap l) ∧ Hid (TextsOk l) ∧ Hid (n ≤ len + 20) ∧ Hid (Bat.wf ⟨b0, b1, b2, b3, b4, b5, l⟩) ∧ Hid (Below w.heap.size w w')
theorem gives_odd {len n cap : Nat} {ad : Option Addr} {l : List Rc} {u0 u1 u2 u3 u4 u5 u6 : Value} (h : Pair w b0 b1 b2 b3 b4 b5 (.slice ad n cap) W) (hr : RecsAt W ad n cap l) (ht : TextsOk l) (hn : n ≤ len + 20) (hk : n = 0 ∨ ∀ a, ad = some a → a.block ≠ w.heap.size + 1) (hw : Bat.wf ⟨b0, b1, b2, b3, b4, b5, l⟩) :
    GivesOdd w len (.returned (.agg #[.int .i64 b0, .int .i64 b1, .int .i64 b2, .int .i64 b3, .bool b4, .int .i64 b5, .slice ad n cap])) (((((((W.setCell ⟨w.heap.size + 1, 0, none⟩ u0).setCell ⟨w.heap.size + 1, 1, none⟩ u1).setCell ⟨w.heap.size + 1, 2, none⟩ u2).setCell ⟨w.heap.size + 1, 3, none⟩ u3).setCell ⟨w.heap.size + 1, 4, none⟩ u4).setCell ⟨w.heap.size + 1, 5, none⟩ u5).setCell ⟨w.heap.size + 1, 6, none⟩ u6) := by
  refine ⟨b0, b1, b2, b3, b4, b5, l, ad, n, cap, rfl, recsAt_row.2 ?_, ht, hn, hw, ?_⟩
  · exact ((((((((recsAt_row.1 hr).set hk).set hk).set hk).set hk).set hk).set hk).set hk)
  · show Below _ _ _
    exact ((((((h.bel.setCell (Nat.le_succ _) _).setCell (Nat.le_succ _) _).setCell (Nat.le_succ _) _).setCell (Nat.le_succ _) _).setCell (Nat.le_succ _) _).setCell (Nat.le_succ _) _).setCell (Nat.le_succ _) _
theorem resultsOdd {tmps : Array Value} {B : Nat} {W : World} {b0 b1 b2 b3 : Int} {b4 : Bool} {b5 : Int} {v : Value} (h : BoxAt W B b0 b1 b2 b3 b4 b5 v) (ht : tmps.getD 6 undef = .pointer (some ⟨B, 0, none⟩)) :
    (results Try.f11 tmps).run Try.prog W = .ok (.agg #[.int .i64 b0, .int .i64 b1, .int .i64 b2, .int .i64 b3, .bool b4, .int .i64 b5, v]) W := by
  rw [results_cell_one (p := 6) (ty := 24) Try.results11, ht]
  have hl := run_loadVar_row (P := Try.prog) W B 24 24 _ (0, 0) _ h Try.underlying24 rfl (by kernel_rfl)
  simp only [asAddr, Sem.run_pure, Result.andThen, hl]
end
theorem mask1 (a : Int) : bits .and .i64 a 1 = ((a % 2).toNat : Int) := by
  have h1 : (BitVec.ofInt 64 1).toNat = 2 ^ 1 - 1 := by decide
  have key : (BitVec.ofInt 64 a &&& BitVec.ofInt 64 1).toNat = (a % ((2 ^ 64 : Nat) : Int)).toNat % 2 ^ 1 := by
    rw [BitVec.toNat_and, BitVec.toNat_ofInt, h1, Nat.and_two_pow_sub_one_eq_mod]
  show IntKind.i64.wrap ((BitVec.ofInt 64 a &&& BitVec.ofInt 64 1).toNat : Nat) = _
  rw [key, IntKind.wrap_i64]
  omega
/-- The records of a batch with one more. -/
theorem texts_snoc {l : List Rc} (h : TextsOk l) {k s : ByteArray} (hk : k.size ≤ 140737488355328) (hs : s.size ≤ 140737488355328) : TextsOk (l ++ [⟨k, s⟩]) := by
  intro r hr
  rcases List.mem_append.1 hr with h1 | h1
  · exact h r h1
  · obtain rfl := List.mem_singleton.1 h1
    exact ⟨hk, hs⟩
theorem odd_post {w W : World} {b0 b1 b2 b3 : Int} {b4 : Bool} {b5 : Int} {base len : Nat} {v : Value} {l : List Rc} (h : Pair w b0 b1 b2 b3 b4 b5 v W) (ho : OwnRow recK W base v l) (hb : w.heap.size + 1 < base) (ht : TextsOk l) (hn : l.length ≤ len + 20) (hw : Bat.wf ⟨b0, b1, b2, b3, b4, b5, l⟩) : OddPost w len W := by
  obtain ⟨ad, cap, rfl, hr, hk⟩ := ho.at recK_ok
  exact ⟨b0, b1, b2, b3, b4, b5, l, ad, _, cap, h, recsAt_row.2 hr, ht, hn, .inr fun a ha => (by have := (hk a ha).1; omega), hw⟩
theorem conv_zero {u : World} {gz kk : Nat} {sk : ByteArray} {vz : Value} (h : Own u gz (List.replicate kk 0)) (hs : sk = str (List.replicate kk 0)) (hv : vz = .slice (some ⟨gz, 0, none⟩) kk kk) : (convert 34 9 vz).run Try.prog u = .ok (.string sk) u := by
  subst hv
  have hb := h.byt (fun x hx => by have := (List.mem_replicate.1 hx).2; omega) kk (by simp)
  rw [List.length_replicate] at hb
  exact run_str_at hb hs
def recsLen (wr : World) (K : Nat) : Nat := match wr.cell? ⟨K, 6, none⟩ with | some (.slice _ n _) => n | _ => 0
/-- What stands ahead of each round of the loop. -/
def OddLoop (w : World) (b0 b1 b2 b3 : Int) (b4 : Bool) (b5 : Int) (len : Nat) (wr : World) : Prop :=
  ∃ l' ad' n' cap', Pair w b0 b1 b2 b3 b4 b5 (.slice ad' n' cap') wr ∧ RowAt recK wr ad' n' cap' l' ∧ TextsOk l' ∧ n' ≤ len + 17 ∧ (n' = 0 ∨ ∀ a, ad' = some a → a.block ≠ w.heap.size ∧ a.block ≠ w.heap.size + 1)
theorem or_and_ne {ad : Option Addr} {n A B : Nat} (h1 : n = 0 ∨ ∀ a : Addr, ad = some a → a.block ≠ A) (h2 : n = 0 ∨ ∀ a : Addr, ad = some a → a.block ≠ B) : n = 0 ∨ ∀ a : Addr, ad = some a → a.block ≠ A ∧ a.block ≠ B := by
  rcases h1 with h1 | h1
  · exact .inl h1
  · rcases h2 with h2 | h2
    · exact .inl h2
    · exact .inr fun a ha => ⟨h1 a ha, h2 a ha⟩
theorem oddLoop_next {w W : World} {b0 b1 b2 b3 : Int} {b4 : Bool} {b5 : Int} {base len : Nat} {v : Value} {l : List Rc} (h : Pair w b0 b1 b2 b3 b4 b5 v W) (ho : OwnRow recK W base v l) (hb : w.heap.size + 1 < base) (ht : TextsOk l) (hn : l.length ≤ len + 17) : OddLoop w b0 b1 b2 b3 b4 b5 len W := by
  obtain ⟨ad, cap, rfl, hr, hk⟩ := ho.at recK_ok
  exact ⟨l, ad, _, cap, h, hr, ht, hn, .inr fun a ha => by have := (hk a ha).1; omega⟩
theorem recsLen_less {wr W w2 : World} {K n cap base : Nat} {ad : Option Addr} {v : Value} {l : List Rc} (h : wr.cell? ⟨K, 6, none⟩ = some (.slice ad n cap)) (h2 : W.cell? ⟨K, 6, none⟩ = some v) (ho : OwnRow recK w2 base v l) (hl : l.length = n + 1) (hn : n < 17) : 17 - recsLen W K < 17 - recsLen wr K := by
  obtain ⟨ad2, cap2, rfl, _, _⟩ := ho.at recK_ok
  unfold recsLen
  rw [h, h2]
  simp only
  omega
set_option maxRecDepth 100000 in
set_option maxHeartbeats 8000000 in
theorem odd_any (w : World) (b0 b1 b2 b3 : Int) (b4 : Bool) (b5 : Int) (l : List Rc) (ad : Option Addr) (len cap : Nat) (hr : RecsAt w ad len cap l) (ht : TextsOk l) (hL : len ≤ 100000) (hw : Bat.wf ⟨b0, b1, b2, b3, b4, b5, l⟩) (what n : Int) (hh : -9223372036854775808 ≤ what ∧ what ≤ 9223372036854775807) (hn : -9223372036854775808 ≤ n ∧ n ≤ 9223372036854775807) :
    Calls Try.prog 11 #[.agg #[.int .i64 b0, .int .i64 b1, .int .i64 b2, .int .i64 b3, .bool b4, .int .i64 b5, .slice ad len cap], .int .i64 what, .int .i64 n] w (GivesOdd w len) := by
  have hm1 := mask1 n
  obtain ⟨m, hm⟩ : ∃ m, m = (n % 2).toNat := ⟨_, rfl⟩
  have hm2 : m ≤ 1 := by omega
  rw [← hm] at hm1
  have HM1 := Lib.hid hm1
  have hw0 := hw.base
  have hw1 := hw.prod
  have hw2 := hw.epoch
  have hw3 := hw.seq
  have hw5 := hw.marker
  obtain ⟨W0, hW0⟩ : ∃ W0, W0 = (w.alloc (.cells #[.int .i64 b0, .int .i64 b1, .int .i64 b2, .int .i64 b3, .bool b4, .int .i64 b5, .slice ad len cap] 24)).alloc (.cells #[.int .i64 0, .int .i64 0, .int .i64 0, .int .i64 0, .bool false, .int .i64 0, .slice none 0 0] 24) := ⟨_, rfl⟩
  have hb0 : Below w.heap.size w W0 := by rw [hW0]; exact ((Below.refl _ _).alloc (Nat.le_refl _) _).alloc (by simp) _
  have HP0 : Hid (Pair w b0 b1 b2 b3 b4 b5 (.slice ad len cap) W0) := by
    show Pair _ _ _ _ _ _ _ _ _
    refine ⟨?_, ?_, hb0⟩
    · rw [hW0]
      exact (boxAt_new w b0 b1 b2 b3 b4 b5 (.slice ad len cap)).keep ((Below.refl _ _).alloc (Nat.le_refl _) _) (by simp)
    · rw [hW0]
      have := boxAt_new (w.alloc (.cells #[.int .i64 b0, .int .i64 b1, .int .i64 b2, .int .i64 b3, .bool b4, .int .i64 b5, .slice ad len cap] 24)) 0 0 0 0 false 0 (.slice none 0 0)
      simpa using this
  have hne : len = 0 ∨ ∀ a, ad = some a → a.block < w.heap.size := by
    rcases hr.cells with h0 | ⟨b, off, e, hlt, _⟩
    · exact .inl h0
    · exact .inr fun a ha => by rw [ha] at e; cases e; exact hlt
  have HNE1 : Hid (len = 0 ∨ ∀ a, ad = some a → a.block ≠ w.heap.size) := hne.imp id fun h a ha => by have := h a ha; omega
  have HNE2 : Hid (len = 0 ∨ ∀ a, ad = some a → a.block ≠ w.heap.size + 1) := hne.imp id fun h a ha => by have := h a ha; omega
  clear hne
  have HR0 := Lib.hid (hr.keep hb0)
  have HT := Lib.hid ht
  have HS0 : Hid (w.heap.size + 2 ≤ W0.heap.size) := HP0.out.rs.lt
  clear hr ht hm hw
  go_enter Try.func11, Try.ntmps11
  go_upto_region 1 with fail
  rw [← hW0]
  obtain ⟨K, hK⟩ : ∃ B, B = w.heap.size := ⟨_, rfl⟩
  clear hW0 hb0
  go_wp2_with fail
  refine (within_any what 9 _ hh (by omega)).mono ?_
  rintro e w1 ⟨r, rfl, hr9, rfl⟩
  obtain ⟨z, hz⟩ : ∃ z : Int, (r : Int) = z := ⟨_, rfl⟩
  rw [hz]
  rw [hz] at hr9
  have hz0 : 0 ≤ z := by omega
  clear hz
  go_upto_block 0 with fail
  go_cut [] from 9 (fun wx => OddPost w len wx)
  case first =>
    have hzs : z = 0 ∨ z = 1 ∨ z = 2 ∨ z = 3 ∨ z = 4 ∨ z = 5 ∨ z = 6 ∨ z = 7 ∨ z = 8 ∨ z = 9 := by omega
    clear hr9 hz0
    rcases hzs with rfl | rfl | rfl | rfl | rfl | rfl | rfl | rfl | rfl | rfl
    · have x0 := HP0.out.bx.c0
      have x1 := HP0.out.bx.free 0
      go_wp2
      go_meet
      case rel => exact ⟨(n), (b1), (b2), (b3), (b4), (b5), l, ad, len, cap, HP0.out.s0 (n), recsAt_row.2 ((recsAt_row.1 HR0.out).set HNE1.out), HT.out, (by show len ≤ _; omega), HNE2.out, ⟨hn, hw1, hw2, hw3, hw5⟩⟩
    · have x0 := HP0.out.bx.c1
      have x1 := HP0.out.bx.free 1
      go_wp2
      go_meet
      case rel => exact ⟨(b0), (n), (b2), (b3), (b4), (b5), l, ad, len, cap, HP0.out.s1 (n), recsAt_row.2 ((recsAt_row.1 HR0.out).set HNE1.out), HT.out, (by show len ≤ _; omega), HNE2.out, ⟨hw0, hn, hw2, hw3, hw5⟩⟩
    · have x0 := HP0.out.bx.c2
      have x1 := HP0.out.bx.free 2
      go_wp2
      go_meet
      case rel => exact ⟨(b0), (b1), (n), (b3), (b4), (b5), l, ad, len, cap, HP0.out.s2 (n), recsAt_row.2 ((recsAt_row.1 HR0.out).set HNE1.out), HT.out, (by show len ≤ _; omega), HNE2.out, ⟨hw0, hw1, hn, hw3, hw5⟩⟩
    · have x0 := HP0.out.bx.c3
      have x1 := HP0.out.bx.free 3
      go_wp2
      go_meet
      case rel => exact ⟨(b0), (b1), (b2), (n), (b4), (b5), l, ad, len, cap, HP0.out.s3 (n), recsAt_row.2 ((recsAt_row.1 HR0.out).set HNE1.out), HT.out, (by show len ≤ _; omega), HNE2.out, ⟨hw0, hw1, hw2, hn, hw5⟩⟩
    · have x0 := HP0.out.bx.c4
      have x1 := HP0.out.bx.free 4
      go_wp2
      go_meet
      case rel => exact ⟨(b0), (b1), (b2), (b3), (!b4), (b5), l, ad, len, cap, HP0.out.s4 (!b4), recsAt_row.2 ((recsAt_row.1 HR0.out).set HNE1.out), HT.out, (by show len ≤ _; omega), HNE2.out, ⟨hw0, hw1, hw2, hw3, hw5⟩⟩
    · have x0 := HP0.out.bx.c5
      have x1 := HP0.out.bx.free 5
      go_wp2
      go_meet
      case rel => exact ⟨(b0), (b1), (b2), (b3), (b4), (n), l, ad, len, cap, HP0.out.s5 (n), recsAt_row.2 ((recsAt_row.1 HR0.out).set HNE1.out), HT.out, (by show len ≤ _; omega), HNE2.out, ⟨hw0, hw1, hw2, hw3, hn⟩⟩
    · have x0 := HP0.out.bx.c6
      have x1 := HP0.out.bx.free 6
      go_wp2
      go_meet
      case rel => exact ⟨b0, b1, b2, b3, b4, b5, [], none, 0, 0, HP0.out.s6 (.slice none 0 0), recsAt_nil _, (fun r hr => by cases hr), (by show 0 ≤ _; omega), .inl rfl, ⟨hw0, hw1, hw2, hw3, hw5⟩⟩
    · have HBd : Hid (Below W0.heap.size W0 W0.drew) := (Below.refl _ _).drew
      have HPd := Lib.hid HP0.out.drew
      obtain ⟨kk, hkk⟩ : ∃ kk, kk = 64 + m := ⟨_, rfl⟩
      obtain ⟨sk, hsk⟩ : ∃ s, s = str (List.replicate kk 0) := ⟨_, rfl⟩
      have HSK := Lib.hid hsk
      have hkk65 : kk ≤ 65 := by omega
      have hm64 : IntKind.i64.wrap (64 + (m : Int)) = (kk : Int) := by rw [IntKind.wrap_i64]; omega
      have hmk := fun W => run_make_part W kk kk (Nat.le_refl _) (by omega)
      have HLL : Hid (l.length = len) := HR0.out.length
      clear hsk hkk
      go_upto_region 19 with fail
      refine wp_region_noPanic ?_
      refine wp_region_z [13] (fun W => Below W0.heap.size W0 W ∧ W.cell? ⟨w.heap.size, 6, none⟩ = some (.slice ad len cap)) (by kernel_rfl) ?_
      have hHeld : (fun W => Below W0.heap.size W0 W ∧ W.cell? ⟨w.heap.size, 6, none⟩ = some (.slice ad len cap)) _ := ⟨HBd.out, HPd.out.bx.c6⟩
      refine wpAnyZ_take (i := 1) (oi := ⟨_, _, _, _, _, _⟩) (v := ?_) rfl (by kernel_rfl) (by kernel_rfl) (by kernel_rfl) (by kernel_rfl) (by kernel_rfl) (fun _ _ _ h => h) (Or.inl ⟨by rfl, ?_⟩) (by assumption) ?_
      rotate_left
      · intro W hSw
        (try dsimp only at hSw)
        go_simp
        (try with_reducible rfl)
      (try simp only [Act.put, List.setIfInBounds_toArray, List.set_cons_zero, List.set_cons_succ])
      refine wpAnyZ_take (i := 2) (oi := ⟨_, _, _, _, _, _⟩) (v := ?_) rfl (by kernel_rfl) (by kernel_rfl) (by kernel_rfl) (by kernel_rfl) (by kernel_rfl) (fun _ _ _ h => h) (Or.inl ⟨by rfl, ?_⟩) (by assumption) ?_
      rotate_left
      · intro W hSw
        (try dsimp only at hSw)
        go_simp
        (try with_reducible rfl)
      (try simp only [Act.put, List.setIfInBounds_toArray, List.set_cons_zero, List.set_cons_succ])
      refine wpAnyZ_take (i := 4) (oi := ⟨_, _, _, _, _, _⟩) (v := ?_) rfl (by kernel_rfl) (by kernel_rfl) (by kernel_rfl) (by kernel_rfl) (by kernel_rfl) (fun _ _ _ h => h) (Or.inl ⟨by rfl, ?_⟩) (by assumption) ?_
      rotate_left
      · intro W hSw
        (try dsimp only at hSw)
        go_simp
        (try with_reducible rfl)
      (try simp only [Act.put, List.setIfInBounds_toArray, List.set_cons_zero, List.set_cons_succ])
      refine wpAnyZ_take (i := 5) (oi := ⟨_, _, _, _, _, _⟩) (v := ?_) rfl (by kernel_rfl) (by kernel_rfl) (by kernel_rfl) (by kernel_rfl) (by kernel_rfl) (fun _ _ _ h => h) (Or.inl ⟨by rfl, ?_⟩) (by assumption) ?_
      rotate_left
      · intro W hSw
        (try dsimp only at hSw)
        go_simp
        (try with_reducible rfl)
      (try simp only [Act.put, List.setIfInBounds_toArray, List.set_cons_zero, List.set_cons_succ])
      refine wpAnyZ_take (i := 6) (oi := ⟨_, _, _, _, _, _⟩) (v := ?_) rfl (by kernel_rfl) (by kernel_rfl) (by kernel_rfl) (by kernel_rfl) (by kernel_rfl) (fun _ _ _ h => h) (Or.inl ⟨by rfl, ?_⟩) (by assumption) ?_
      rotate_left
      · intro W hSw
        (try dsimp only at hSw)
        go_simp
        (try with_reducible rfl)
      (try simp only [Act.put, List.setIfInBounds_toArray, List.set_cons_zero, List.set_cons_succ])
      obtain ⟨u0, hu0⟩ : ∃ x, x = W0.drew := ⟨_, rfl⟩
      rw [← hu0] at hHeld HBd HPd
      rw [← hu0]
      clear hu0
      have HBu0 := HBd
      have HPu0 := HPd
      refine wpAnyZ_ready (rs := [0, 7]) (by kernel_rfl) (by simp) ?_
      refine AllReadyZ.cons (o := ⟨_, _, _, _, _, _⟩) rfl (fun C hC => ?_) (AllReadyZ.cons (o := ⟨_, _, _, _, _, _⟩) rfl (fun C hC => ?_) AllReadyZ.nil)
      ·
        go_simp
        obtain ⟨u1, hu1⟩ : ∃ x, x = u0.alloc (.cells #[] 58) := ⟨_, rfl⟩
        have hzu1 : u0.heap.size < u1.heap.size := by rw [hu1]; simp
        have HAu1 : Hid (Below u0.heap.size u0 u1) := by show Below _ _ _; rw [hu1]; exact (Below.refl _ _).alloc (Nat.le_refl _) _
        have HBu1 := Lib.hid (HBu0.out.trans (HAu1.out.mono HBu0.out.size))
        have HPu1 := Lib.hid (HPu0.out.on HAu1.out)
        obtain ⟨g0, hg0⟩ : ∃ x, x = u0.heap.size := ⟨_, rfl⟩
        have HOu1 : Hid (OwnRow recK u1 W0.heap.size (.slice (some ⟨g0, 0, none⟩) 0 0) []) := by show OwnRow _ _ _ _ _; rw [hu1, hg0]; exact ownRow_lit recK_ok u0 _ [] HBu0.out.size (by simp) _ rfl 0 rfl
        obtain ⟨v0, hv0⟩ : ∃ x : Value, x = .slice (some ⟨g0, 0, none⟩) 0 0 := ⟨_, rfl⟩
        have HOBu1 : Hid (∀ k, v0.ownBlock = some k → k < u1.heap.size) := by
          intro k hk
          rw [hv0] at hk
          have hk : g0 = k := Option.some.inj hk
          omega
        rw [← hv0] at HOu1
        rw [← hu1, ← hg0, ← hv0]
        clear hu1 hg0 hv0
        have hHeld : (fun W => Below W0.heap.size W0 W ∧ W.cell? ⟨w.heap.size, 6, none⟩ = some (.slice ad len cap)) u1 := ⟨HBu1.out, HPu1.out.bx.c6⟩
        refine hC.out _ _ (fun _ => hHeld) (fun _ => ?_)
        clear hC C
        (try simp only [Act.put, List.setIfInBounds_toArray, List.set_cons_zero, List.set_cons_succ])
        refine wpAnyZ_ready (rs := [3, 7]) (by kernel_rfl) (by simp) ?_
        refine AllReadyZ.cons (o := ⟨_, _, _, _, _, _⟩) rfl (fun C hC => ?_) (AllReadyZ.cons (o := ⟨_, _, _, _, _, _⟩) rfl (fun C hC => ?_) AllReadyZ.nil)
        ·
          refine held_row (by rfl) recK_ok (.tmp 55) (.tmp 57) rfl W0.heap.size [] l v0 rfl HOu1.out HBu1.out.size ad len cap rfl (recsAt_row.1 (HR0.out.keep HBu1.out)) (by simp; omega) ?_
          rintro v1 u2 hap
          have hap : Appended recK u1 W0.heap.size v0 l v1 u2 := hap
          have hzu2 := hap.2.1.size
          have HBu2 : Hid (Below W0.heap.size W0 u2) := HBu1.out.grown hap.2.1 HBu1.out.size fun k hk => ((HOu1.out.lt k hk).1)
          have HPu2 := Lib.hid (HPu1.out.grown hap.2.1 fun k hk => by have := (HOu1.out.lt k hk).1; have := HS0.out; omega)
          have HOu2 := Lib.hid hap.1
          have HOBu2 : Hid (∀ k, v1.ownBlock = some k → k < u2.heap.size) := by
            intro k hk
            have h1 := (HOu2.out.lt k hk).2
            rcases hap.2.2.2 k hk with h2 | h2
            · have h3 := HOBu1.out k h2
              omega
            · omega
          clear hap
          have hHeld : (fun W => Below W0.heap.size W0 W ∧ W.cell? ⟨w.heap.size, 6, none⟩ = some (.slice ad len cap)) u2 := ⟨HBu2.out, HPu2.out.bx.c6⟩
          refine hC.out _ _ (fun _ => hHeld) (fun _ => ?_)
          clear hC C
          (try simp only [Act.put, List.setIfInBounds_toArray, List.set_cons_zero, List.set_cons_succ])
          refine wpAnyZ_ready (rs := [7]) (by kernel_rfl) (by simp) ?_
          refine AllReadyZ.cons (o := ⟨_, _, _, _, _, _⟩) rfl (fun C hC => ?_) AllReadyZ.nil
          go_simp
          obtain ⟨u3, hu3⟩ : ∃ x, x = u2.alloc (.cells (vals (List.replicate kk 0)).toArray 5) := ⟨_, rfl⟩
          have hzu3 : u2.heap.size < u3.heap.size := by rw [hu3]; simp
          have HAu3 : Hid (Below u2.heap.size u2 u3) := by show Below _ _ _; rw [hu3]; exact (Below.refl _ _).alloc (Nat.le_refl _) _
          have HBu3 := Lib.hid (HBu2.out.trans (HAu3.out.mono HBu2.out.size))
          have HPu3 := Lib.hid (HPu2.out.on HAu3.out)
          have HOu3 := Lib.hid (HOu2.out.on HAu3.out)
          obtain ⟨gz, hgz⟩ : ∃ x, x = u2.heap.size := ⟨_, rfl⟩
          have HZu3 : Hid (Own u3 gz (List.replicate kk 0)) := by show Own _ _ _; rw [hu3, hgz]; exact own_new _ _
          obtain ⟨vz, hvz⟩ : ∃ x : Value, x = .slice (some ⟨gz, 0, none⟩) kk kk := ⟨_, rfl⟩
          have HOBu3 : Hid (∀ k, v1.ownBlock = some k → k < u3.heap.size ∧ k ≠ gz) := by
            intro k hk
            have h1 := HOBu2.out k hk
            omega
          rw [← hu3, ← hgz, ← hvz]
          have HVZ := Lib.hid hvz
          clear hu3 hgz hvz
          have hHeld : (fun W => Below W0.heap.size W0 W ∧ W.cell? ⟨w.heap.size, 6, none⟩ = some (.slice ad len cap)) u3 := ⟨HBu3.out, HPu3.out.bx.c6⟩
          refine hC.out _ _ (fun _ => hHeld) (fun _ => ?_)
          clear hC C
          (try simp only [Act.put, List.setIfInBounds_toArray, List.set_cons_zero, List.set_cons_succ])
          refine wpAnyZ_strengthen (S' := (fun W => (Below W0.heap.size W0 W ∧ W.cell? ⟨w.heap.size, 6, none⟩ = some (.slice ad len cap)) ∧ (convert 34 9 vz).run Try.prog W = .ok (.string sk) W)) (fun W h => h.1) _ _ _ _ ?_
          clear hHeld
          have hHeld : (fun W => (Below W0.heap.size W0 W ∧ W.cell? ⟨w.heap.size, 6, none⟩ = some (.slice ad len cap)) ∧ (convert 34 9 vz).run Try.prog W = .ok (.string sk) W) u3 := ⟨⟨HBu3.out, HPu3.out.bx.c6⟩, conv_zero HZu3.out HSK.out HVZ.out⟩
          refine wpAnyZ_take (i := 8) (oi := ⟨_, _, _, _, _, _⟩) (v := ?_) rfl (by kernel_rfl) (by kernel_rfl) (by kernel_rfl) (by kernel_rfl) (by kernel_rfl) (fun _ _ _ h => h) (Or.inl ⟨by rfl, ?_⟩) (by assumption) ?_
          rotate_left
          · intro W hSw
            (try dsimp only at hSw)
            go_simp
            (try with_reducible rfl)
          (try simp only [Act.put, List.setIfInBounds_toArray, List.set_cons_zero, List.set_cons_succ])
          refine wpAnyZ_take (i := 9) (oi := ⟨_, _, _, _, _, _⟩) (v := ?_) rfl (by kernel_rfl) (by kernel_rfl) (by kernel_rfl) (by kernel_rfl) (by kernel_rfl) (fun _ _ _ h => h) (Or.inl ⟨by rfl, ?_⟩) (by assumption) ?_
          rotate_left
          · intro W hSw
            (try dsimp only at hSw)
            go_simp
            (try with_reducible rfl)
          (try simp only [Act.put, List.setIfInBounds_toArray, List.set_cons_zero, List.set_cons_succ])
          refine wpAnyZ_ready (rs := [10]) (by kernel_rfl) (by simp) ?_
          refine AllReadyZ.cons (o := ⟨_, _, _, _, _, _⟩) rfl (fun C hC => ?_) AllReadyZ.nil
          go_simp
          obtain ⟨u4, hu4⟩ : ∃ x, x = u3.alloc (.cells #[.string sk, .string ⟨#[]⟩] 58) := ⟨_, rfl⟩
          have hzu4 : u3.heap.size < u4.heap.size := by rw [hu4]; simp
          have HAu4 : Hid (Below u3.heap.size u3 u4) := by show Below _ _ _; rw [hu4]; exact (Below.refl _ _).alloc (Nat.le_refl _) _
          have HBu4 := Lib.hid (HBu3.out.trans (HAu4.out.mono HBu3.out.size))
          have HPu4 := Lib.hid (HPu3.out.on HAu4.out)
          have HOu4 := Lib.hid (HOu3.out.on HAu4.out)
          have HZu4 := Lib.hid (HZu3.out.keep HAu4.out (HZu3.out.lt))
          obtain ⟨gl, hgl⟩ : ∃ x, x = u3.heap.size := ⟨_, rfl⟩
          have hzl := HZu3.out.lt
          have HLu4 : Hid (RowAt recK u4 (some ⟨gl, 0, none⟩) 1 1 [⟨sk, ⟨#[]⟩⟩]) := by show RowAt _ _ _ _ _ _; rw [hu4, hgl]; exact rowAt_lit recK_ok u3 [⟨sk, ⟨#[]⟩⟩] (by simp) _ rfl 1 rfl
          have HOBu4 : Hid (∀ k, v1.ownBlock = some k → k < u4.heap.size ∧ k ≠ gz ∧ k ≠ gl) := by
            intro k hk
            have h1 := HOBu3.out k hk
            omega
          have hgl2 : gl < u4.heap.size := by omega
          rw [← hu4, ← hgl]
          clear hu4 hgl
          have hHeld : (fun W => (Below W0.heap.size W0 W ∧ W.cell? ⟨w.heap.size, 6, none⟩ = some (.slice ad len cap)) ∧ (convert 34 9 vz).run Try.prog W = .ok (.string sk) W) u4 := ⟨⟨HBu4.out, HPu4.out.bx.c6⟩, conv_zero HZu4.out HSK.out HVZ.out⟩
          refine hC.out _ _ (fun _ => hHeld) (fun _ => ?_)
          clear hC C
          (try simp only [Act.put, List.setIfInBounds_toArray, List.set_cons_zero, List.set_cons_succ])
          refine wpAnyZ_ready (rs := [11]) (by kernel_rfl) (by simp) ?_
          refine AllReadyZ.cons (o := ⟨_, _, _, _, _, _⟩) rfl (fun C hC => ?_) AllReadyZ.nil
          refine held_row (by rfl) recK_ok (.tmp 58) (.tmp 65) rfl W0.heap.size l [⟨sk, ⟨#[]⟩⟩] v1 rfl HOu4.out HBu4.out.size (some ⟨gl, 0, none⟩) 1 1 rfl HLu4.out (by have := HLL.out; omega) ?_
          rintro v2 u5 hap
          have hzu5 := hap.2.1.size
          have HBu5 : Hid (Below W0.heap.size W0 u5) := HBu4.out.grown hap.2.1 HBu4.out.size fun k hk => ((HOu4.out.lt k hk).1)
          have HPu5 := Lib.hid (HPu4.out.grown hap.2.1 fun k hk => by have := (HOu4.out.lt k hk).1; have := HS0.out; omega)
          have HOu5 := Lib.hid hap.1
          have HZu5 : Hid (Own u5 gz (List.replicate kk 0)) := by
            show Own _ _ _
            unfold Own
            rw [hap.2.1.block gz (HZu4.out.lt) (fun e => (HOBu4.out gz e.symm).2.1 rfl)]
            exact HZu4.out
          have HLu5 := Lib.hid (HLu4.out.grown hap.2.1 fun a ha e => by cases ha; exact (HOBu4.out gl e.symm).2.2 rfl)
          clear hap
          have hHeld : (fun W => (Below W0.heap.size W0 W ∧ W.cell? ⟨w.heap.size, 6, none⟩ = some (.slice ad len cap)) ∧ (convert 34 9 vz).run Try.prog W = .ok (.string sk) W) u5 := ⟨⟨HBu5.out, HPu5.out.bx.c6⟩, conv_zero HZu5.out HSK.out HVZ.out⟩
          refine hC.out _ _ (fun _ => hHeld) (fun _ => ?_)
          clear hC C
          (try simp only [Act.put, List.setIfInBounds_toArray, List.set_cons_zero, List.set_cons_succ])
          obtain ⟨ad2, cap2, hv2, _, _⟩ := HOu5.out.at recK_ok
          obtain ⟨n2, hn2⟩ : ∃ n2, (l ++ [(⟨sk, ⟨#[]⟩⟩ : Rc)]).length = n2 := ⟨_, rfl⟩
          rw [hn2] at hv2
          subst hv2
          clear hn2
          refine wpAnyZ_take (i := 12) (oi := ⟨_, _, _, _, _, _⟩) (v := ?_) rfl (by kernel_rfl) (by kernel_rfl) (by kernel_rfl) (by kernel_rfl) (by kernel_rfl) (fun _ _ _ h => h) (Or.inl ⟨by rfl, ?_⟩) (by assumption) ?_
          rotate_left
          · intro W hSw
            (try dsimp only at hSw)
            go_simp
            (try with_reducible rfl)
          (try simp only [Act.put, List.setIfInBounds_toArray, List.set_cons_zero, List.set_cons_succ])
          have x0 := HPu5.out.bx.c6
          have x1 := HPu5.out.bx.free 6
          refine wpAnyZ_ready (rs := [13]) (by kernel_rfl) (by simp) ?_
          refine AllReadyZ.cons (o := ⟨_, _, _, _, _, _⟩) rfl (fun C hC => ?_) AllReadyZ.nil
          go_simp
          refine hC.out _ _ (zfree_no (by kernel_rfl)) (fun _ => ?_)
          clear hC C
          (try simp only [Act.put, List.setIfInBounds_toArray, List.set_cons_zero, List.set_cons_succ])
          refine wpAnyZ_done (by kernel_rfl) ?_ _
          refine NoPanic.normal ?_
          go_wp2
          go_meet
          case rel => exact odd_post (HPu5.out.s6 (.slice ad2 n2 cap2)) ((HOu5.out).grown (grow_set (grow_refl _ _) 6 (.slice ad2 n2 cap2)) fun k hk e => by cases e; have := ((HOu5.out).lt _ hk).1; have := HS0.out; omega) HS0.out (texts_snoc HT.out (by rw [HSK.out, str_size]; simp; omega) (by decide)) (by have := HLL.out; simp; omega) ⟨hw0, hw1, hw2, hw3, hw5⟩
        ·
          go_simp
          obtain ⟨u6, hu6⟩ : ∃ x, x = u1.alloc (.cells (vals (List.replicate kk 0)).toArray 5) := ⟨_, rfl⟩
          have hzu6 : u1.heap.size < u6.heap.size := by rw [hu6]; simp
          have HAu6 : Hid (Below u1.heap.size u1 u6) := by show Below _ _ _; rw [hu6]; exact (Below.refl _ _).alloc (Nat.le_refl _) _
          have HBu6 := Lib.hid (HBu1.out.trans (HAu6.out.mono HBu1.out.size))
          have HPu6 := Lib.hid (HPu1.out.on HAu6.out)
          have HOu6 := Lib.hid (HOu1.out.on HAu6.out)
          obtain ⟨gz, hgz⟩ : ∃ x, x = u1.heap.size := ⟨_, rfl⟩
          have HZu6 : Hid (Own u6 gz (List.replicate kk 0)) := by show Own _ _ _; rw [hu6, hgz]; exact own_new _ _
          obtain ⟨vz, hvz⟩ : ∃ x : Value, x = .slice (some ⟨gz, 0, none⟩) kk kk := ⟨_, rfl⟩
          have HOBu6 : Hid (∀ k, v0.ownBlock = some k → k < u6.heap.size ∧ k ≠ gz) := by
            intro k hk
            have h1 := HOBu1.out k hk
            omega
          rw [← hu6, ← hgz, ← hvz]
          have HVZ := Lib.hid hvz
          clear hu6 hgz hvz
          have hHeld : (fun W => Below W0.heap.size W0 W ∧ W.cell? ⟨w.heap.size, 6, none⟩ = some (.slice ad len cap)) u6 := ⟨HBu6.out, HPu6.out.bx.c6⟩
          refine hC.out _ _ (fun _ => hHeld) (fun _ => ?_)
          clear hC C
          (try simp only [Act.put, List.setIfInBounds_toArray, List.set_cons_zero, List.set_cons_succ])
          refine wpAnyZ_strengthen (S' := (fun W => (Below W0.heap.size W0 W ∧ W.cell? ⟨w.heap.size, 6, none⟩ = some (.slice ad len cap)) ∧ (convert 34 9 vz).run Try.prog W = .ok (.string sk) W)) (fun W h => h.1) _ _ _ _ ?_
          clear hHeld
          have hHeld : (fun W => (Below W0.heap.size W0 W ∧ W.cell? ⟨w.heap.size, 6, none⟩ = some (.slice ad len cap)) ∧ (convert 34 9 vz).run Try.prog W = .ok (.string sk) W) u6 := ⟨⟨HBu6.out, HPu6.out.bx.c6⟩, conv_zero HZu6.out HSK.out HVZ.out⟩
          refine wpAnyZ_take (i := 8) (oi := ⟨_, _, _, _, _, _⟩) (v := ?_) rfl (by kernel_rfl) (by kernel_rfl) (by kernel_rfl) (by kernel_rfl) (by kernel_rfl) (fun _ _ _ h => h) (Or.inl ⟨by rfl, ?_⟩) (by assumption) ?_
          rotate_left
          · intro W hSw
            (try dsimp only at hSw)
            go_simp
            (try with_reducible rfl)
          (try simp only [Act.put, List.setIfInBounds_toArray, List.set_cons_zero, List.set_cons_succ])
          refine wpAnyZ_take (i := 9) (oi := ⟨_, _, _, _, _, _⟩) (v := ?_) rfl (by kernel_rfl) (by kernel_rfl) (by kernel_rfl) (by kernel_rfl) (by kernel_rfl) (fun _ _ _ h => h) (Or.inl ⟨by rfl, ?_⟩) (by assumption) ?_
          rotate_left
          · intro W hSw
            (try dsimp only at hSw)
            go_simp
            (try with_reducible rfl)
          (try simp only [Act.put, List.setIfInBounds_toArray, List.set_cons_zero, List.set_cons_succ])
          refine wpAnyZ_ready (rs := [3, 10]) (by kernel_rfl) (by simp) ?_
          refine AllReadyZ.cons (o := ⟨_, _, _, _, _, _⟩) rfl (fun C hC => ?_) (AllReadyZ.cons (o := ⟨_, _, _, _, _, _⟩) rfl (fun C hC => ?_) AllReadyZ.nil)
          ·
            refine held_row (by rfl) recK_ok (.tmp 55) (.tmp 57) rfl W0.heap.size [] l v0 rfl HOu6.out HBu6.out.size ad len cap rfl (recsAt_row.1 (HR0.out.keep HBu6.out)) (by simp; omega) ?_
            rintro v1 u7 hap
            have hap : Appended recK u6 W0.heap.size v0 l v1 u7 := hap
            have hzu7 := hap.2.1.size
            have HBu7 : Hid (Below W0.heap.size W0 u7) := HBu6.out.grown hap.2.1 HBu6.out.size fun k hk => ((HOu6.out.lt k hk).1)
            have HPu7 := Lib.hid (HPu6.out.grown hap.2.1 fun k hk => by have := (HOu6.out.lt k hk).1; have := HS0.out; omega)
            have HOu7 := Lib.hid hap.1
            have HZu7 : Hid (Own u7 gz (List.replicate kk 0)) := by
              show Own _ _ _
              unfold Own
              rw [hap.2.1.block gz (HZu6.out.lt) (fun e => (HOBu6.out gz e.symm).2 rfl)]
              exact HZu6.out
            have HOBu7 : Hid (∀ k, v1.ownBlock = some k → k < u7.heap.size ∧ k ≠ gz) := by
              intro k hk
              have h1 := (HOu7.out.lt k hk).2
              rcases hap.2.2.2 k hk with h2 | h2
              · have h3 := HOBu6.out k h2
                omega
              · have := HZu6.out.lt; omega
            clear hap
            have hHeld : (fun W => (Below W0.heap.size W0 W ∧ W.cell? ⟨w.heap.size, 6, none⟩ = some (.slice ad len cap)) ∧ (convert 34 9 vz).run Try.prog W = .ok (.string sk) W) u7 := ⟨⟨HBu7.out, HPu7.out.bx.c6⟩, conv_zero HZu7.out HSK.out HVZ.out⟩
            refine hC.out _ _ (fun _ => hHeld) (fun _ => ?_)
            clear hC C
            (try simp only [Act.put, List.setIfInBounds_toArray, List.set_cons_zero, List.set_cons_succ])
            refine wpAnyZ_ready (rs := [10]) (by kernel_rfl) (by simp) ?_
            refine AllReadyZ.cons (o := ⟨_, _, _, _, _, _⟩) rfl (fun C hC => ?_) AllReadyZ.nil
            go_simp
            obtain ⟨u8, hu8⟩ : ∃ x, x = u7.alloc (.cells #[.string sk, .string ⟨#[]⟩] 58) := ⟨_, rfl⟩
            have hzu8 : u7.heap.size < u8.heap.size := by rw [hu8]; simp
            have HAu8 : Hid (Below u7.heap.size u7 u8) := by show Below _ _ _; rw [hu8]; exact (Below.refl _ _).alloc (Nat.le_refl _) _
            have HBu8 := Lib.hid (HBu7.out.trans (HAu8.out.mono HBu7.out.size))
            have HPu8 := Lib.hid (HPu7.out.on HAu8.out)
            have HOu8 := Lib.hid (HOu7.out.on HAu8.out)
            have HZu8 := Lib.hid (HZu7.out.keep HAu8.out (HZu7.out.lt))
            obtain ⟨gl, hgl⟩ : ∃ x, x = u7.heap.size := ⟨_, rfl⟩
            have hzl := HZu7.out.lt
            have HLu8 : Hid (RowAt recK u8 (some ⟨gl, 0, none⟩) 1 1 [⟨sk, ⟨#[]⟩⟩]) := by show RowAt _ _ _ _ _ _; rw [hu8, hgl]; exact rowAt_lit recK_ok u7 [⟨sk, ⟨#[]⟩⟩] (by simp) _ rfl 1 rfl
            have HOBu8 : Hid (∀ k, v1.ownBlock = some k → k < u8.heap.size ∧ k ≠ gz ∧ k ≠ gl) := by
              intro k hk
              have h1 := HOBu7.out k hk
              omega
            have hgl2 : gl < u8.heap.size := by omega
            rw [← hu8, ← hgl]
            clear hu8 hgl
            have hHeld : (fun W => (Below W0.heap.size W0 W ∧ W.cell? ⟨w.heap.size, 6, none⟩ = some (.slice ad len cap)) ∧ (convert 34 9 vz).run Try.prog W = .ok (.string sk) W) u8 := ⟨⟨HBu8.out, HPu8.out.bx.c6⟩, conv_zero HZu8.out HSK.out HVZ.out⟩
            refine hC.out _ _ (fun _ => hHeld) (fun _ => ?_)
            clear hC C
            (try simp only [Act.put, List.setIfInBounds_toArray, List.set_cons_zero, List.set_cons_succ])
            refine wpAnyZ_ready (rs := [11]) (by kernel_rfl) (by simp) ?_
            refine AllReadyZ.cons (o := ⟨_, _, _, _, _, _⟩) rfl (fun C hC => ?_) AllReadyZ.nil
            refine held_row (by rfl) recK_ok (.tmp 58) (.tmp 65) rfl W0.heap.size l [⟨sk, ⟨#[]⟩⟩] v1 rfl HOu8.out HBu8.out.size (some ⟨gl, 0, none⟩) 1 1 rfl HLu8.out (by have := HLL.out; omega) ?_
            rintro v2 u9 hap
            have hzu9 := hap.2.1.size
            have HBu9 : Hid (Below W0.heap.size W0 u9) := HBu8.out.grown hap.2.1 HBu8.out.size fun k hk => ((HOu8.out.lt k hk).1)
            have HPu9 := Lib.hid (HPu8.out.grown hap.2.1 fun k hk => by have := (HOu8.out.lt k hk).1; have := HS0.out; omega)
            have HOu9 := Lib.hid hap.1
            have HZu9 : Hid (Own u9 gz (List.replicate kk 0)) := by
              show Own _ _ _
              unfold Own
              rw [hap.2.1.block gz (HZu8.out.lt) (fun e => (HOBu8.out gz e.symm).2.1 rfl)]
              exact HZu8.out
            have HLu9 := Lib.hid (HLu8.out.grown hap.2.1 fun a ha e => by cases ha; exact (HOBu8.out gl e.symm).2.2 rfl)
            clear hap
            have hHeld : (fun W => (Below W0.heap.size W0 W ∧ W.cell? ⟨w.heap.size, 6, none⟩ = some (.slice ad len cap)) ∧ (convert 34 9 vz).run Try.prog W = .ok (.string sk) W) u9 := ⟨⟨HBu9.out, HPu9.out.bx.c6⟩, conv_zero HZu9.out HSK.out HVZ.out⟩
            refine hC.out _ _ (fun _ => hHeld) (fun _ => ?_)
            clear hC C
            (try simp only [Act.put, List.setIfInBounds_toArray, List.set_cons_zero, List.set_cons_succ])
            obtain ⟨ad2, cap2, hv2, _, _⟩ := HOu9.out.at recK_ok
            obtain ⟨n2, hn2⟩ : ∃ n2, (l ++ [(⟨sk, ⟨#[]⟩⟩ : Rc)]).length = n2 := ⟨_, rfl⟩
            rw [hn2] at hv2
            subst hv2
            clear hn2
            refine wpAnyZ_take (i := 12) (oi := ⟨_, _, _, _, _, _⟩) (v := ?_) rfl (by kernel_rfl) (by kernel_rfl) (by kernel_rfl) (by kernel_rfl) (by kernel_rfl) (fun _ _ _ h => h) (Or.inl ⟨by rfl, ?_⟩) (by assumption) ?_
            rotate_left
            · intro W hSw
              (try dsimp only at hSw)
              go_simp
              (try with_reducible rfl)
            (try simp only [Act.put, List.setIfInBounds_toArray, List.set_cons_zero, List.set_cons_succ])
            have x0 := HPu9.out.bx.c6
            have x1 := HPu9.out.bx.free 6
            refine wpAnyZ_ready (rs := [13]) (by kernel_rfl) (by simp) ?_
            refine AllReadyZ.cons (o := ⟨_, _, _, _, _, _⟩) rfl (fun C hC => ?_) AllReadyZ.nil
            go_simp
            refine hC.out _ _ (zfree_no (by kernel_rfl)) (fun _ => ?_)
            clear hC C
            (try simp only [Act.put, List.setIfInBounds_toArray, List.set_cons_zero, List.set_cons_succ])
            refine wpAnyZ_done (by kernel_rfl) ?_ _
            refine NoPanic.normal ?_
            go_wp2
            go_meet
            case rel => exact odd_post (HPu9.out.s6 (.slice ad2 n2 cap2)) ((HOu9.out).grown (grow_set (grow_refl _ _) 6 (.slice ad2 n2 cap2)) fun k hk e => by cases e; have := ((HOu9.out).lt _ hk).1; have := HS0.out; omega) HS0.out (texts_snoc HT.out (by rw [HSK.out, str_size]; simp; omega) (by decide)) (by have := HLL.out; simp; omega) ⟨hw0, hw1, hw2, hw3, hw5⟩
          ·
            go_simp
            obtain ⟨u10, hu10⟩ : ∃ x, x = u6.alloc (.cells #[.string sk, .string ⟨#[]⟩] 58) := ⟨_, rfl⟩
            have hzu10 : u6.heap.size < u10.heap.size := by rw [hu10]; simp
            have HAu10 : Hid (Below u6.heap.size u6 u10) := by show Below _ _ _; rw [hu10]; exact (Below.refl _ _).alloc (Nat.le_refl _) _
            have HBu10 := Lib.hid (HBu6.out.trans (HAu10.out.mono HBu6.out.size))
            have HPu10 := Lib.hid (HPu6.out.on HAu10.out)
            have HOu10 := Lib.hid (HOu6.out.on HAu10.out)
            have HZu10 := Lib.hid (HZu6.out.keep HAu10.out (HZu6.out.lt))
            obtain ⟨gl, hgl⟩ : ∃ x, x = u6.heap.size := ⟨_, rfl⟩
            have hzl := HZu6.out.lt
            have HLu10 : Hid (RowAt recK u10 (some ⟨gl, 0, none⟩) 1 1 [⟨sk, ⟨#[]⟩⟩]) := by show RowAt _ _ _ _ _ _; rw [hu10, hgl]; exact rowAt_lit recK_ok u6 [⟨sk, ⟨#[]⟩⟩] (by simp) _ rfl 1 rfl
            have HOBu10 : Hid (∀ k, v0.ownBlock = some k → k < u10.heap.size ∧ k ≠ gz ∧ k ≠ gl) := by
              intro k hk
              have h1 := HOBu6.out k hk
              omega
            have hgl2 : gl < u10.heap.size := by omega
            rw [← hu10, ← hgl]
            clear hu10 hgl
            have hHeld : (fun W => (Below W0.heap.size W0 W ∧ W.cell? ⟨w.heap.size, 6, none⟩ = some (.slice ad len cap)) ∧ (convert 34 9 vz).run Try.prog W = .ok (.string sk) W) u10 := ⟨⟨HBu10.out, HPu10.out.bx.c6⟩, conv_zero HZu10.out HSK.out HVZ.out⟩
            refine hC.out _ _ (fun _ => hHeld) (fun _ => ?_)
            clear hC C
            (try simp only [Act.put, List.setIfInBounds_toArray, List.set_cons_zero, List.set_cons_succ])
            refine wpAnyZ_ready (rs := [3]) (by kernel_rfl) (by simp) ?_
            refine AllReadyZ.cons (o := ⟨_, _, _, _, _, _⟩) rfl (fun C hC => ?_) AllReadyZ.nil
            refine held_row (by rfl) recK_ok (.tmp 55) (.tmp 57) rfl W0.heap.size [] l v0 rfl HOu10.out HBu10.out.size ad len cap rfl (recsAt_row.1 (HR0.out.keep HBu10.out)) (by simp; omega) ?_
            rintro v1 u11 hap
            have hap : Appended recK u10 W0.heap.size v0 l v1 u11 := hap
            have hzu11 := hap.2.1.size
            have HBu11 : Hid (Below W0.heap.size W0 u11) := HBu10.out.grown hap.2.1 HBu10.out.size fun k hk => ((HOu10.out.lt k hk).1)
            have HPu11 := Lib.hid (HPu10.out.grown hap.2.1 fun k hk => by have := (HOu10.out.lt k hk).1; have := HS0.out; omega)
            have HOu11 := Lib.hid hap.1
            have HZu11 : Hid (Own u11 gz (List.replicate kk 0)) := by
              show Own _ _ _
              unfold Own
              rw [hap.2.1.block gz (HZu10.out.lt) (fun e => (HOBu10.out gz e.symm).2.1 rfl)]
              exact HZu10.out
            have HLu11 := Lib.hid (HLu10.out.grown hap.2.1 fun a ha e => by cases ha; exact (HOBu10.out gl e.symm).2.2 rfl)
            have HOBu11 : Hid (∀ k, v1.ownBlock = some k → k < u11.heap.size ∧ k ≠ gz ∧ k ≠ gl) := by
              intro k hk
              have h1 := (HOu11.out.lt k hk).2
              rcases hap.2.2.2 k hk with h2 | h2
              · have h3 := HOBu10.out k h2
                omega
              · have := HZu10.out.lt; omega
            clear hap
            have hHeld : (fun W => (Below W0.heap.size W0 W ∧ W.cell? ⟨w.heap.size, 6, none⟩ = some (.slice ad len cap)) ∧ (convert 34 9 vz).run Try.prog W = .ok (.string sk) W) u11 := ⟨⟨HBu11.out, HPu11.out.bx.c6⟩, conv_zero HZu11.out HSK.out HVZ.out⟩
            refine hC.out _ _ (fun _ => hHeld) (fun _ => ?_)
            clear hC C
            (try simp only [Act.put, List.setIfInBounds_toArray, List.set_cons_zero, List.set_cons_succ])
            refine wpAnyZ_ready (rs := [11]) (by kernel_rfl) (by simp) ?_
            refine AllReadyZ.cons (o := ⟨_, _, _, _, _, _⟩) rfl (fun C hC => ?_) AllReadyZ.nil
            refine held_row (by rfl) recK_ok (.tmp 58) (.tmp 65) rfl W0.heap.size l [⟨sk, ⟨#[]⟩⟩] v1 rfl HOu11.out HBu11.out.size (some ⟨gl, 0, none⟩) 1 1 rfl HLu11.out (by have := HLL.out; omega) ?_
            rintro v2 u12 hap
            have hzu12 := hap.2.1.size
            have HBu12 : Hid (Below W0.heap.size W0 u12) := HBu11.out.grown hap.2.1 HBu11.out.size fun k hk => ((HOu11.out.lt k hk).1)
            have HPu12 := Lib.hid (HPu11.out.grown hap.2.1 fun k hk => by have := (HOu11.out.lt k hk).1; have := HS0.out; omega)
            have HOu12 := Lib.hid hap.1
            have HZu12 : Hid (Own u12 gz (List.replicate kk 0)) := by
              show Own _ _ _
              unfold Own
              rw [hap.2.1.block gz (HZu11.out.lt) (fun e => (HOBu11.out gz e.symm).2.1 rfl)]
              exact HZu11.out
            have HLu12 := Lib.hid (HLu11.out.grown hap.2.1 fun a ha e => by cases ha; exact (HOBu11.out gl e.symm).2.2 rfl)
            clear hap
            have hHeld : (fun W => (Below W0.heap.size W0 W ∧ W.cell? ⟨w.heap.size, 6, none⟩ = some (.slice ad len cap)) ∧ (convert 34 9 vz).run Try.prog W = .ok (.string sk) W) u12 := ⟨⟨HBu12.out, HPu12.out.bx.c6⟩, conv_zero HZu12.out HSK.out HVZ.out⟩
            refine hC.out _ _ (fun _ => hHeld) (fun _ => ?_)
            clear hC C
            (try simp only [Act.put, List.setIfInBounds_toArray, List.set_cons_zero, List.set_cons_succ])
            obtain ⟨ad2, cap2, hv2, _, _⟩ := HOu12.out.at recK_ok
            obtain ⟨n2, hn2⟩ : ∃ n2, (l ++ [(⟨sk, ⟨#[]⟩⟩ : Rc)]).length = n2 := ⟨_, rfl⟩
            rw [hn2] at hv2
            subst hv2
            clear hn2
            refine wpAnyZ_take (i := 12) (oi := ⟨_, _, _, _, _, _⟩) (v := ?_) rfl (by kernel_rfl) (by kernel_rfl) (by kernel_rfl) (by kernel_rfl) (by kernel_rfl) (fun _ _ _ h => h) (Or.inl ⟨by rfl, ?_⟩) (by assumption) ?_
            rotate_left
            · intro W hSw
              (try dsimp only at hSw)
              go_simp
              (try with_reducible rfl)
            (try simp only [Act.put, List.setIfInBounds_toArray, List.set_cons_zero, List.set_cons_succ])
            have x0 := HPu12.out.bx.c6
            have x1 := HPu12.out.bx.free 6
            refine wpAnyZ_ready (rs := [13]) (by kernel_rfl) (by simp) ?_
            refine AllReadyZ.cons (o := ⟨_, _, _, _, _, _⟩) rfl (fun C hC => ?_) AllReadyZ.nil
            go_simp
            refine hC.out _ _ (zfree_no (by kernel_rfl)) (fun _ => ?_)
            clear hC C
            (try simp only [Act.put, List.setIfInBounds_toArray, List.set_cons_zero, List.set_cons_succ])
            refine wpAnyZ_done (by kernel_rfl) ?_ _
            refine NoPanic.normal ?_
            go_wp2
            go_meet
            case rel => exact odd_post (HPu12.out.s6 (.slice ad2 n2 cap2)) ((HOu12.out).grown (grow_set (grow_refl _ _) 6 (.slice ad2 n2 cap2)) fun k hk e => by cases e; have := ((HOu12.out).lt _ hk).1; have := HS0.out; omega) HS0.out (texts_snoc HT.out (by rw [HSK.out, str_size]; simp; omega) (by decide)) (by have := HLL.out; simp; omega) ⟨hw0, hw1, hw2, hw3, hw5⟩
      ·
        go_simp
        obtain ⟨u13, hu13⟩ : ∃ x, x = u0.alloc (.cells (vals (List.replicate kk 0)).toArray 5) := ⟨_, rfl⟩
        have hzu13 : u0.heap.size < u13.heap.size := by rw [hu13]; simp
        have HAu13 : Hid (Below u0.heap.size u0 u13) := by show Below _ _ _; rw [hu13]; exact (Below.refl _ _).alloc (Nat.le_refl _) _
        have HBu13 := Lib.hid (HBu0.out.trans (HAu13.out.mono HBu0.out.size))
        have HPu13 := Lib.hid (HPu0.out.on HAu13.out)
        obtain ⟨gz, hgz⟩ : ∃ x, x = u0.heap.size := ⟨_, rfl⟩
        have HZu13 : Hid (Own u13 gz (List.replicate kk 0)) := by show Own _ _ _; rw [hu13, hgz]; exact own_new _ _
        obtain ⟨vz, hvz⟩ : ∃ x : Value, x = .slice (some ⟨gz, 0, none⟩) kk kk := ⟨_, rfl⟩
        rw [← hu13, ← hgz, ← hvz]
        have HVZ := Lib.hid hvz
        clear hu13 hgz hvz
        have hHeld : (fun W => Below W0.heap.size W0 W ∧ W.cell? ⟨w.heap.size, 6, none⟩ = some (.slice ad len cap)) u13 := ⟨HBu13.out, HPu13.out.bx.c6⟩
        refine hC.out _ _ (fun _ => hHeld) (fun _ => ?_)
        clear hC C
        (try simp only [Act.put, List.setIfInBounds_toArray, List.set_cons_zero, List.set_cons_succ])
        refine wpAnyZ_strengthen (S' := (fun W => (Below W0.heap.size W0 W ∧ W.cell? ⟨w.heap.size, 6, none⟩ = some (.slice ad len cap)) ∧ (convert 34 9 vz).run Try.prog W = .ok (.string sk) W)) (fun W h => h.1) _ _ _ _ ?_
        clear hHeld
        have hHeld : (fun W => (Below W0.heap.size W0 W ∧ W.cell? ⟨w.heap.size, 6, none⟩ = some (.slice ad len cap)) ∧ (convert 34 9 vz).run Try.prog W = .ok (.string sk) W) u13 := ⟨⟨HBu13.out, HPu13.out.bx.c6⟩, conv_zero HZu13.out HSK.out HVZ.out⟩
        refine wpAnyZ_take (i := 8) (oi := ⟨_, _, _, _, _, _⟩) (v := ?_) rfl (by kernel_rfl) (by kernel_rfl) (by kernel_rfl) (by kernel_rfl) (by kernel_rfl) (fun _ _ _ h => h) (Or.inl ⟨by rfl, ?_⟩) (by assumption) ?_
        rotate_left
        · intro W hSw
          (try dsimp only at hSw)
          go_simp
          (try with_reducible rfl)
        (try simp only [Act.put, List.setIfInBounds_toArray, List.set_cons_zero, List.set_cons_succ])
        refine wpAnyZ_take (i := 9) (oi := ⟨_, _, _, _, _, _⟩) (v := ?_) rfl (by kernel_rfl) (by kernel_rfl) (by kernel_rfl) (by kernel_rfl) (by kernel_rfl) (fun _ _ _ h => h) (Or.inl ⟨by rfl, ?_⟩) (by assumption) ?_
        rotate_left
        · intro W hSw
          (try dsimp only at hSw)
          go_simp
          (try with_reducible rfl)
        (try simp only [Act.put, List.setIfInBounds_toArray, List.set_cons_zero, List.set_cons_succ])
        refine wpAnyZ_ready (rs := [0, 10]) (by kernel_rfl) (by simp) ?_
        refine AllReadyZ.cons (o := ⟨_, _, _, _, _, _⟩) rfl (fun C hC => ?_) (AllReadyZ.cons (o := ⟨_, _, _, _, _, _⟩) rfl (fun C hC => ?_) AllReadyZ.nil)
        ·
          go_simp
          obtain ⟨u14, hu14⟩ : ∃ x, x = u13.alloc (.cells #[] 58) := ⟨_, rfl⟩
          have hzu14 : u13.heap.size < u14.heap.size := by rw [hu14]; simp
          have HAu14 : Hid (Below u13.heap.size u13 u14) := by show Below _ _ _; rw [hu14]; exact (Below.refl _ _).alloc (Nat.le_refl _) _
          have HBu14 := Lib.hid (HBu13.out.trans (HAu14.out.mono HBu13.out.size))
          have HPu14 := Lib.hid (HPu13.out.on HAu14.out)
          have HZu14 := Lib.hid (HZu13.out.keep HAu14.out (HZu13.out.lt))
          obtain ⟨g0, hg0⟩ : ∃ x, x = u13.heap.size := ⟨_, rfl⟩
          have HOu14 : Hid (OwnRow recK u14 W0.heap.size (.slice (some ⟨g0, 0, none⟩) 0 0) []) := by show OwnRow _ _ _ _ _; rw [hu14, hg0]; exact ownRow_lit recK_ok u13 _ [] HBu13.out.size (by simp) _ rfl 0 rfl
          obtain ⟨v0, hv0⟩ : ∃ x : Value, x = .slice (some ⟨g0, 0, none⟩) 0 0 := ⟨_, rfl⟩
          have hzl := HZu13.out.lt
          have HOBu14 : Hid (∀ k, v0.ownBlock = some k → k < u14.heap.size ∧ k ≠ gz) := by
            intro k hk
            rw [hv0] at hk
            have hk : g0 = k := Option.some.inj hk
            omega
          rw [← hv0] at HOu14
          rw [← hu14, ← hg0, ← hv0]
          clear hu14 hg0 hv0
          have hHeld : (fun W => (Below W0.heap.size W0 W ∧ W.cell? ⟨w.heap.size, 6, none⟩ = some (.slice ad len cap)) ∧ (convert 34 9 vz).run Try.prog W = .ok (.string sk) W) u14 := ⟨⟨HBu14.out, HPu14.out.bx.c6⟩, conv_zero HZu14.out HSK.out HVZ.out⟩
          refine hC.out _ _ (fun _ => hHeld) (fun _ => ?_)
          clear hC C
          (try simp only [Act.put, List.setIfInBounds_toArray, List.set_cons_zero, List.set_cons_succ])
          refine wpAnyZ_ready (rs := [3, 10]) (by kernel_rfl) (by simp) ?_
          refine AllReadyZ.cons (o := ⟨_, _, _, _, _, _⟩) rfl (fun C hC => ?_) (AllReadyZ.cons (o := ⟨_, _, _, _, _, _⟩) rfl (fun C hC => ?_) AllReadyZ.nil)
          ·
            refine held_row (by rfl) recK_ok (.tmp 55) (.tmp 57) rfl W0.heap.size [] l v0 rfl HOu14.out HBu14.out.size ad len cap rfl (recsAt_row.1 (HR0.out.keep HBu14.out)) (by simp; omega) ?_
            rintro v1 u15 hap
            have hap : Appended recK u14 W0.heap.size v0 l v1 u15 := hap
            have hzu15 := hap.2.1.size
            have HBu15 : Hid (Below W0.heap.size W0 u15) := HBu14.out.grown hap.2.1 HBu14.out.size fun k hk => ((HOu14.out.lt k hk).1)
            have HPu15 := Lib.hid (HPu14.out.grown hap.2.1 fun k hk => by have := (HOu14.out.lt k hk).1; have := HS0.out; omega)
            have HOu15 := Lib.hid hap.1
            have HZu15 : Hid (Own u15 gz (List.replicate kk 0)) := by
              show Own _ _ _
              unfold Own
              rw [hap.2.1.block gz (HZu14.out.lt) (fun e => (HOBu14.out gz e.symm).2 rfl)]
              exact HZu14.out
            have HOBu15 : Hid (∀ k, v1.ownBlock = some k → k < u15.heap.size ∧ k ≠ gz) := by
              intro k hk
              have h1 := (HOu15.out.lt k hk).2
              rcases hap.2.2.2 k hk with h2 | h2
              · have h3 := HOBu14.out k h2
                omega
              · have := HZu14.out.lt; omega
            clear hap
            have hHeld : (fun W => (Below W0.heap.size W0 W ∧ W.cell? ⟨w.heap.size, 6, none⟩ = some (.slice ad len cap)) ∧ (convert 34 9 vz).run Try.prog W = .ok (.string sk) W) u15 := ⟨⟨HBu15.out, HPu15.out.bx.c6⟩, conv_zero HZu15.out HSK.out HVZ.out⟩
            refine hC.out _ _ (fun _ => hHeld) (fun _ => ?_)
            clear hC C
            (try simp only [Act.put, List.setIfInBounds_toArray, List.set_cons_zero, List.set_cons_succ])
            refine wpAnyZ_ready (rs := [10]) (by kernel_rfl) (by simp) ?_
            refine AllReadyZ.cons (o := ⟨_, _, _, _, _, _⟩) rfl (fun C hC => ?_) AllReadyZ.nil
            go_simp
            obtain ⟨u16, hu16⟩ : ∃ x, x = u15.alloc (.cells #[.string sk, .string ⟨#[]⟩] 58) := ⟨_, rfl⟩
            have hzu16 : u15.heap.size < u16.heap.size := by rw [hu16]; simp
            have HAu16 : Hid (Below u15.heap.size u15 u16) := by show Below _ _ _; rw [hu16]; exact (Below.refl _ _).alloc (Nat.le_refl _) _
            have HBu16 := Lib.hid (HBu15.out.trans (HAu16.out.mono HBu15.out.size))
            have HPu16 := Lib.hid (HPu15.out.on HAu16.out)
            have HOu16 := Lib.hid (HOu15.out.on HAu16.out)
            have HZu16 := Lib.hid (HZu15.out.keep HAu16.out (HZu15.out.lt))
            obtain ⟨gl, hgl⟩ : ∃ x, x = u15.heap.size := ⟨_, rfl⟩
            have hzl := HZu15.out.lt
            have HLu16 : Hid (RowAt recK u16 (some ⟨gl, 0, none⟩) 1 1 [⟨sk, ⟨#[]⟩⟩]) := by show RowAt _ _ _ _ _ _; rw [hu16, hgl]; exact rowAt_lit recK_ok u15 [⟨sk, ⟨#[]⟩⟩] (by simp) _ rfl 1 rfl
            have HOBu16 : Hid (∀ k, v1.ownBlock = some k → k < u16.heap.size ∧ k ≠ gz ∧ k ≠ gl) := by
              intro k hk
              have h1 := HOBu15.out k hk
              omega
            have hgl2 : gl < u16.heap.size := by omega
            rw [← hu16, ← hgl]
            clear hu16 hgl
            have hHeld : (fun W => (Below W0.heap.size W0 W ∧ W.cell? ⟨w.heap.size, 6, none⟩ = some (.slice ad len cap)) ∧ (convert 34 9 vz).run Try.prog W = .ok (.string sk) W) u16 := ⟨⟨HBu16.out, HPu16.out.bx.c6⟩, conv_zero HZu16.out HSK.out HVZ.out⟩
            refine hC.out _ _ (fun _ => hHeld) (fun _ => ?_)
            clear hC C
            (try simp only [Act.put, List.setIfInBounds_toArray, List.set_cons_zero, List.set_cons_succ])
            refine wpAnyZ_ready (rs := [11]) (by kernel_rfl) (by simp) ?_
            refine AllReadyZ.cons (o := ⟨_, _, _, _, _, _⟩) rfl (fun C hC => ?_) AllReadyZ.nil
            refine held_row (by rfl) recK_ok (.tmp 58) (.tmp 65) rfl W0.heap.size l [⟨sk, ⟨#[]⟩⟩] v1 rfl HOu16.out HBu16.out.size (some ⟨gl, 0, none⟩) 1 1 rfl HLu16.out (by have := HLL.out; omega) ?_
            rintro v2 u17 hap
            have hzu17 := hap.2.1.size
            have HBu17 : Hid (Below W0.heap.size W0 u17) := HBu16.out.grown hap.2.1 HBu16.out.size fun k hk => ((HOu16.out.lt k hk).1)
            have HPu17 := Lib.hid (HPu16.out.grown hap.2.1 fun k hk => by have := (HOu16.out.lt k hk).1; have := HS0.out; omega)
            have HOu17 := Lib.hid hap.1
            have HZu17 : Hid (Own u17 gz (List.replicate kk 0)) := by
              show Own _ _ _
              unfold Own
              rw [hap.2.1.block gz (HZu16.out.lt) (fun e => (HOBu16.out gz e.symm).2.1 rfl)]
              exact HZu16.out
            have HLu17 := Lib.hid (HLu16.out.grown hap.2.1 fun a ha e => by cases ha; exact (HOBu16.out gl e.symm).2.2 rfl)
            clear hap
            have hHeld : (fun W => (Below W0.heap.size W0 W ∧ W.cell? ⟨w.heap.size, 6, none⟩ = some (.slice ad len cap)) ∧ (convert 34 9 vz).run Try.prog W = .ok (.string sk) W) u17 := ⟨⟨HBu17.out, HPu17.out.bx.c6⟩, conv_zero HZu17.out HSK.out HVZ.out⟩
            refine hC.out _ _ (fun _ => hHeld) (fun _ => ?_)
            clear hC C
            (try simp only [Act.put, List.setIfInBounds_toArray, List.set_cons_zero, List.set_cons_succ])
            obtain ⟨ad2, cap2, hv2, _, _⟩ := HOu17.out.at recK_ok
            obtain ⟨n2, hn2⟩ : ∃ n2, (l ++ [(⟨sk, ⟨#[]⟩⟩ : Rc)]).length = n2 := ⟨_, rfl⟩
            rw [hn2] at hv2
            subst hv2
            clear hn2
            refine wpAnyZ_take (i := 12) (oi := ⟨_, _, _, _, _, _⟩) (v := ?_) rfl (by kernel_rfl) (by kernel_rfl) (by kernel_rfl) (by kernel_rfl) (by kernel_rfl) (fun _ _ _ h => h) (Or.inl ⟨by rfl, ?_⟩) (by assumption) ?_
            rotate_left
            · intro W hSw
              (try dsimp only at hSw)
              go_simp
              (try with_reducible rfl)
            (try simp only [Act.put, List.setIfInBounds_toArray, List.set_cons_zero, List.set_cons_succ])
            have x0 := HPu17.out.bx.c6
            have x1 := HPu17.out.bx.free 6
            refine wpAnyZ_ready (rs := [13]) (by kernel_rfl) (by simp) ?_
            refine AllReadyZ.cons (o := ⟨_, _, _, _, _, _⟩) rfl (fun C hC => ?_) AllReadyZ.nil
            go_simp
            refine hC.out _ _ (zfree_no (by kernel_rfl)) (fun _ => ?_)
            clear hC C
            (try simp only [Act.put, List.setIfInBounds_toArray, List.set_cons_zero, List.set_cons_succ])
            refine wpAnyZ_done (by kernel_rfl) ?_ _
            refine NoPanic.normal ?_
            go_wp2
            go_meet
            case rel => exact odd_post (HPu17.out.s6 (.slice ad2 n2 cap2)) ((HOu17.out).grown (grow_set (grow_refl _ _) 6 (.slice ad2 n2 cap2)) fun k hk e => by cases e; have := ((HOu17.out).lt _ hk).1; have := HS0.out; omega) HS0.out (texts_snoc HT.out (by rw [HSK.out, str_size]; simp; omega) (by decide)) (by have := HLL.out; simp; omega) ⟨hw0, hw1, hw2, hw3, hw5⟩
          ·
            go_simp
            obtain ⟨u18, hu18⟩ : ∃ x, x = u14.alloc (.cells #[.string sk, .string ⟨#[]⟩] 58) := ⟨_, rfl⟩
            have hzu18 : u14.heap.size < u18.heap.size := by rw [hu18]; simp
            have HAu18 : Hid (Below u14.heap.size u14 u18) := by show Below _ _ _; rw [hu18]; exact (Below.refl _ _).alloc (Nat.le_refl _) _
            have HBu18 := Lib.hid (HBu14.out.trans (HAu18.out.mono HBu14.out.size))
            have HPu18 := Lib.hid (HPu14.out.on HAu18.out)
            have HOu18 := Lib.hid (HOu14.out.on HAu18.out)
            have HZu18 := Lib.hid (HZu14.out.keep HAu18.out (HZu14.out.lt))
            obtain ⟨gl, hgl⟩ : ∃ x, x = u14.heap.size := ⟨_, rfl⟩
            have hzl := HZu14.out.lt
            have HLu18 : Hid (RowAt recK u18 (some ⟨gl, 0, none⟩) 1 1 [⟨sk, ⟨#[]⟩⟩]) := by show RowAt _ _ _ _ _ _; rw [hu18, hgl]; exact rowAt_lit recK_ok u14 [⟨sk, ⟨#[]⟩⟩] (by simp) _ rfl 1 rfl
            have HOBu18 : Hid (∀ k, v0.ownBlock = some k → k < u18.heap.size ∧ k ≠ gz ∧ k ≠ gl) := by
              intro k hk
              have h1 := HOBu14.out k hk
              omega
            have hgl2 : gl < u18.heap.size := by omega
            rw [← hu18, ← hgl]
            clear hu18 hgl
            have hHeld : (fun W => (Below W0.heap.size W0 W ∧ W.cell? ⟨w.heap.size, 6, none⟩ = some (.slice ad len cap)) ∧ (convert 34 9 vz).run Try.prog W = .ok (.string sk) W) u18 := ⟨⟨HBu18.out, HPu18.out.bx.c6⟩, conv_zero HZu18.out HSK.out HVZ.out⟩
            refine hC.out _ _ (fun _ => hHeld) (fun _ => ?_)
            clear hC C
            (try simp only [Act.put, List.setIfInBounds_toArray, List.set_cons_zero, List.set_cons_succ])
            refine wpAnyZ_ready (rs := [3]) (by kernel_rfl) (by simp) ?_
            refine AllReadyZ.cons (o := ⟨_, _, _, _, _, _⟩) rfl (fun C hC => ?_) AllReadyZ.nil
            refine held_row (by rfl) recK_ok (.tmp 55) (.tmp 57) rfl W0.heap.size [] l v0 rfl HOu18.out HBu18.out.size ad len cap rfl (recsAt_row.1 (HR0.out.keep HBu18.out)) (by simp; omega) ?_
            rintro v1 u19 hap
            have hap : Appended recK u18 W0.heap.size v0 l v1 u19 := hap
            have hzu19 := hap.2.1.size
            have HBu19 : Hid (Below W0.heap.size W0 u19) := HBu18.out.grown hap.2.1 HBu18.out.size fun k hk => ((HOu18.out.lt k hk).1)
            have HPu19 := Lib.hid (HPu18.out.grown hap.2.1 fun k hk => by have := (HOu18.out.lt k hk).1; have := HS0.out; omega)
            have HOu19 := Lib.hid hap.1
            have HZu19 : Hid (Own u19 gz (List.replicate kk 0)) := by
              show Own _ _ _
              unfold Own
              rw [hap.2.1.block gz (HZu18.out.lt) (fun e => (HOBu18.out gz e.symm).2.1 rfl)]
              exact HZu18.out
            have HLu19 := Lib.hid (HLu18.out.grown hap.2.1 fun a ha e => by cases ha; exact (HOBu18.out gl e.symm).2.2 rfl)
            have HOBu19 : Hid (∀ k, v1.ownBlock = some k → k < u19.heap.size ∧ k ≠ gz ∧ k ≠ gl) := by
              intro k hk
              have h1 := (HOu19.out.lt k hk).2
              rcases hap.2.2.2 k hk with h2 | h2
              · have h3 := HOBu18.out k h2
                omega
              · have := HZu18.out.lt; omega
            clear hap
            have hHeld : (fun W => (Below W0.heap.size W0 W ∧ W.cell? ⟨w.heap.size, 6, none⟩ = some (.slice ad len cap)) ∧ (convert 34 9 vz).run Try.prog W = .ok (.string sk) W) u19 := ⟨⟨HBu19.out, HPu19.out.bx.c6⟩, conv_zero HZu19.out HSK.out HVZ.out⟩
            refine hC.out _ _ (fun _ => hHeld) (fun _ => ?_)
            clear hC C
            (try simp only [Act.put, List.setIfInBounds_toArray, List.set_cons_zero, List.set_cons_succ])
            refine wpAnyZ_ready (rs := [11]) (by kernel_rfl) (by simp) ?_
            refine AllReadyZ.cons (o := ⟨_, _, _, _, _, _⟩) rfl (fun C hC => ?_) AllReadyZ.nil
            refine held_row (by rfl) recK_ok (.tmp 58) (.tmp 65) rfl W0.heap.size l [⟨sk, ⟨#[]⟩⟩] v1 rfl HOu19.out HBu19.out.size (some ⟨gl, 0, none⟩) 1 1 rfl HLu19.out (by have := HLL.out; omega) ?_
            rintro v2 u20 hap
            have hzu20 := hap.2.1.size
            have HBu20 : Hid (Below W0.heap.size W0 u20) := HBu19.out.grown hap.2.1 HBu19.out.size fun k hk => ((HOu19.out.lt k hk).1)
            have HPu20 := Lib.hid (HPu19.out.grown hap.2.1 fun k hk => by have := (HOu19.out.lt k hk).1; have := HS0.out; omega)
            have HOu20 := Lib.hid hap.1
            have HZu20 : Hid (Own u20 gz (List.replicate kk 0)) := by
              show Own _ _ _
              unfold Own
              rw [hap.2.1.block gz (HZu19.out.lt) (fun e => (HOBu19.out gz e.symm).2.1 rfl)]
              exact HZu19.out
            have HLu20 := Lib.hid (HLu19.out.grown hap.2.1 fun a ha e => by cases ha; exact (HOBu19.out gl e.symm).2.2 rfl)
            clear hap
            have hHeld : (fun W => (Below W0.heap.size W0 W ∧ W.cell? ⟨w.heap.size, 6, none⟩ = some (.slice ad len cap)) ∧ (convert 34 9 vz).run Try.prog W = .ok (.string sk) W) u20 := ⟨⟨HBu20.out, HPu20.out.bx.c6⟩, conv_zero HZu20.out HSK.out HVZ.out⟩
            refine hC.out _ _ (fun _ => hHeld) (fun _ => ?_)
            clear hC C
            (try simp only [Act.put, List.setIfInBounds_toArray, List.set_cons_zero, List.set_cons_succ])
            obtain ⟨ad2, cap2, hv2, _, _⟩ := HOu20.out.at recK_ok
            obtain ⟨n2, hn2⟩ : ∃ n2, (l ++ [(⟨sk, ⟨#[]⟩⟩ : Rc)]).length = n2 := ⟨_, rfl⟩
            rw [hn2] at hv2
            subst hv2
            clear hn2
            refine wpAnyZ_take (i := 12) (oi := ⟨_, _, _, _, _, _⟩) (v := ?_) rfl (by kernel_rfl) (by kernel_rfl) (by kernel_rfl) (by kernel_rfl) (by kernel_rfl) (fun _ _ _ h => h) (Or.inl ⟨by rfl, ?_⟩) (by assumption) ?_
            rotate_left
            · intro W hSw
              (try dsimp only at hSw)
              go_simp
              (try with_reducible rfl)
            (try simp only [Act.put, List.setIfInBounds_toArray, List.set_cons_zero, List.set_cons_succ])
            have x0 := HPu20.out.bx.c6
            have x1 := HPu20.out.bx.free 6
            refine wpAnyZ_ready (rs := [13]) (by kernel_rfl) (by simp) ?_
            refine AllReadyZ.cons (o := ⟨_, _, _, _, _, _⟩) rfl (fun C hC => ?_) AllReadyZ.nil
            go_simp
            refine hC.out _ _ (zfree_no (by kernel_rfl)) (fun _ => ?_)
            clear hC C
            (try simp only [Act.put, List.setIfInBounds_toArray, List.set_cons_zero, List.set_cons_succ])
            refine wpAnyZ_done (by kernel_rfl) ?_ _
            refine NoPanic.normal ?_
            go_wp2
            go_meet
            case rel => exact odd_post (HPu20.out.s6 (.slice ad2 n2 cap2)) ((HOu20.out).grown (grow_set (grow_refl _ _) 6 (.slice ad2 n2 cap2)) fun k hk e => by cases e; have := ((HOu20.out).lt _ hk).1; have := HS0.out; omega) HS0.out (texts_snoc HT.out (by rw [HSK.out, str_size]; simp; omega) (by decide)) (by have := HLL.out; simp; omega) ⟨hw0, hw1, hw2, hw3, hw5⟩
        ·
          go_simp
          obtain ⟨u21, hu21⟩ : ∃ x, x = u13.alloc (.cells #[.string sk, .string ⟨#[]⟩] 58) := ⟨_, rfl⟩
          have hzu21 : u13.heap.size < u21.heap.size := by rw [hu21]; simp
          have HAu21 : Hid (Below u13.heap.size u13 u21) := by show Below _ _ _; rw [hu21]; exact (Below.refl _ _).alloc (Nat.le_refl _) _
          have HBu21 := Lib.hid (HBu13.out.trans (HAu21.out.mono HBu13.out.size))
          have HPu21 := Lib.hid (HPu13.out.on HAu21.out)
          have HZu21 := Lib.hid (HZu13.out.keep HAu21.out (HZu13.out.lt))
          obtain ⟨gl, hgl⟩ : ∃ x, x = u13.heap.size := ⟨_, rfl⟩
          have hzl := HZu13.out.lt
          have HLu21 : Hid (RowAt recK u21 (some ⟨gl, 0, none⟩) 1 1 [⟨sk, ⟨#[]⟩⟩]) := by show RowAt _ _ _ _ _ _; rw [hu21, hgl]; exact rowAt_lit recK_ok u13 [⟨sk, ⟨#[]⟩⟩] (by simp) _ rfl 1 rfl
          have hgl2 : gl < u21.heap.size := by omega
          rw [← hu21, ← hgl]
          clear hu21 hgl
          have hHeld : (fun W => (Below W0.heap.size W0 W ∧ W.cell? ⟨w.heap.size, 6, none⟩ = some (.slice ad len cap)) ∧ (convert 34 9 vz).run Try.prog W = .ok (.string sk) W) u21 := ⟨⟨HBu21.out, HPu21.out.bx.c6⟩, conv_zero HZu21.out HSK.out HVZ.out⟩
          refine hC.out _ _ (fun _ => hHeld) (fun _ => ?_)
          clear hC C
          (try simp only [Act.put, List.setIfInBounds_toArray, List.set_cons_zero, List.set_cons_succ])
          refine wpAnyZ_ready (rs := [0]) (by kernel_rfl) (by simp) ?_
          refine AllReadyZ.cons (o := ⟨_, _, _, _, _, _⟩) rfl (fun C hC => ?_) AllReadyZ.nil
          go_simp
          obtain ⟨u22, hu22⟩ : ∃ x, x = u21.alloc (.cells #[] 58) := ⟨_, rfl⟩
          have hzu22 : u21.heap.size < u22.heap.size := by rw [hu22]; simp
          have HAu22 : Hid (Below u21.heap.size u21 u22) := by show Below _ _ _; rw [hu22]; exact (Below.refl _ _).alloc (Nat.le_refl _) _
          have HBu22 := Lib.hid (HBu21.out.trans (HAu22.out.mono HBu21.out.size))
          have HPu22 := Lib.hid (HPu21.out.on HAu22.out)
          have HZu22 := Lib.hid (HZu21.out.keep HAu22.out (HZu21.out.lt))
          have HLu22 := Lib.hid (HLu21.out.keep HAu22.out)
          obtain ⟨g0, hg0⟩ : ∃ x, x = u21.heap.size := ⟨_, rfl⟩
          have HOu22 : Hid (OwnRow recK u22 W0.heap.size (.slice (some ⟨g0, 0, none⟩) 0 0) []) := by show OwnRow _ _ _ _ _; rw [hu22, hg0]; exact ownRow_lit recK_ok u21 _ [] HBu21.out.size (by simp) _ rfl 0 rfl
          obtain ⟨v0, hv0⟩ : ∃ x : Value, x = .slice (some ⟨g0, 0, none⟩) 0 0 := ⟨_, rfl⟩
          have hzl := HZu21.out.lt
          have HOBu22 : Hid (∀ k, v0.ownBlock = some k → k < u22.heap.size ∧ k ≠ gz ∧ k ≠ gl) := by
            intro k hk
            rw [hv0] at hk
            have hk : g0 = k := Option.some.inj hk
            omega
          rw [← hv0] at HOu22
          rw [← hu22, ← hg0, ← hv0]
          clear hu22 hg0 hv0
          have hHeld : (fun W => (Below W0.heap.size W0 W ∧ W.cell? ⟨w.heap.size, 6, none⟩ = some (.slice ad len cap)) ∧ (convert 34 9 vz).run Try.prog W = .ok (.string sk) W) u22 := ⟨⟨HBu22.out, HPu22.out.bx.c6⟩, conv_zero HZu22.out HSK.out HVZ.out⟩
          refine hC.out _ _ (fun _ => hHeld) (fun _ => ?_)
          clear hC C
          (try simp only [Act.put, List.setIfInBounds_toArray, List.set_cons_zero, List.set_cons_succ])
          refine wpAnyZ_ready (rs := [3]) (by kernel_rfl) (by simp) ?_
          refine AllReadyZ.cons (o := ⟨_, _, _, _, _, _⟩) rfl (fun C hC => ?_) AllReadyZ.nil
          refine held_row (by rfl) recK_ok (.tmp 55) (.tmp 57) rfl W0.heap.size [] l v0 rfl HOu22.out HBu22.out.size ad len cap rfl (recsAt_row.1 (HR0.out.keep HBu22.out)) (by simp; omega) ?_
          rintro v1 u23 hap
          have hap : Appended recK u22 W0.heap.size v0 l v1 u23 := hap
          have hzu23 := hap.2.1.size
          have HBu23 : Hid (Below W0.heap.size W0 u23) := HBu22.out.grown hap.2.1 HBu22.out.size fun k hk => ((HOu22.out.lt k hk).1)
          have HPu23 := Lib.hid (HPu22.out.grown hap.2.1 fun k hk => by have := (HOu22.out.lt k hk).1; have := HS0.out; omega)
          have HOu23 := Lib.hid hap.1
          have HZu23 : Hid (Own u23 gz (List.replicate kk 0)) := by
            show Own _ _ _
            unfold Own
            rw [hap.2.1.block gz (HZu22.out.lt) (fun e => (HOBu22.out gz e.symm).2.1 rfl)]
            exact HZu22.out
          have HLu23 := Lib.hid (HLu22.out.grown hap.2.1 fun a ha e => by cases ha; exact (HOBu22.out gl e.symm).2.2 rfl)
          have HOBu23 : Hid (∀ k, v1.ownBlock = some k → k < u23.heap.size ∧ k ≠ gz ∧ k ≠ gl) := by
            intro k hk
            have h1 := (HOu23.out.lt k hk).2
            rcases hap.2.2.2 k hk with h2 | h2
            · have h3 := HOBu22.out k h2
              omega
            · have := HZu22.out.lt; omega
          clear hap
          have hHeld : (fun W => (Below W0.heap.size W0 W ∧ W.cell? ⟨w.heap.size, 6, none⟩ = some (.slice ad len cap)) ∧ (convert 34 9 vz).run Try.prog W = .ok (.string sk) W) u23 := ⟨⟨HBu23.out, HPu23.out.bx.c6⟩, conv_zero HZu23.out HSK.out HVZ.out⟩
          refine hC.out _ _ (fun _ => hHeld) (fun _ => ?_)
          clear hC C
          (try simp only [Act.put, List.setIfInBounds_toArray, List.set_cons_zero, List.set_cons_succ])
          refine wpAnyZ_ready (rs := [11]) (by kernel_rfl) (by simp) ?_
          refine AllReadyZ.cons (o := ⟨_, _, _, _, _, _⟩) rfl (fun C hC => ?_) AllReadyZ.nil
          refine held_row (by rfl) recK_ok (.tmp 58) (.tmp 65) rfl W0.heap.size l [⟨sk, ⟨#[]⟩⟩] v1 rfl HOu23.out HBu23.out.size (some ⟨gl, 0, none⟩) 1 1 rfl HLu23.out (by have := HLL.out; omega) ?_
          rintro v2 u24 hap
          have hzu24 := hap.2.1.size
          have HBu24 : Hid (Below W0.heap.size W0 u24) := HBu23.out.grown hap.2.1 HBu23.out.size fun k hk => ((HOu23.out.lt k hk).1)
          have HPu24 := Lib.hid (HPu23.out.grown hap.2.1 fun k hk => by have := (HOu23.out.lt k hk).1; have := HS0.out; omega)
          have HOu24 := Lib.hid hap.1
          have HZu24 : Hid (Own u24 gz (List.replicate kk 0)) := by
            show Own _ _ _
            unfold Own
            rw [hap.2.1.block gz (HZu23.out.lt) (fun e => (HOBu23.out gz e.symm).2.1 rfl)]
            exact HZu23.out
          have HLu24 := Lib.hid (HLu23.out.grown hap.2.1 fun a ha e => by cases ha; exact (HOBu23.out gl e.symm).2.2 rfl)
          clear hap
          have hHeld : (fun W => (Below W0.heap.size W0 W ∧ W.cell? ⟨w.heap.size, 6, none⟩ = some (.slice ad len cap)) ∧ (convert 34 9 vz).run Try.prog W = .ok (.string sk) W) u24 := ⟨⟨HBu24.out, HPu24.out.bx.c6⟩, conv_zero HZu24.out HSK.out HVZ.out⟩
          refine hC.out _ _ (fun _ => hHeld) (fun _ => ?_)
          clear hC C
          (try simp only [Act.put, List.setIfInBounds_toArray, List.set_cons_zero, List.set_cons_succ])
          obtain ⟨ad2, cap2, hv2, _, _⟩ := HOu24.out.at recK_ok
          obtain ⟨n2, hn2⟩ : ∃ n2, (l ++ [(⟨sk, ⟨#[]⟩⟩ : Rc)]).length = n2 := ⟨_, rfl⟩
          rw [hn2] at hv2
          subst hv2
          clear hn2
          refine wpAnyZ_take (i := 12) (oi := ⟨_, _, _, _, _, _⟩) (v := ?_) rfl (by kernel_rfl) (by kernel_rfl) (by kernel_rfl) (by kernel_rfl) (by kernel_rfl) (fun _ _ _ h => h) (Or.inl ⟨by rfl, ?_⟩) (by assumption) ?_
          rotate_left
          · intro W hSw
            (try dsimp only at hSw)
            go_simp
            (try with_reducible rfl)
          (try simp only [Act.put, List.setIfInBounds_toArray, List.set_cons_zero, List.set_cons_succ])
          have x0 := HPu24.out.bx.c6
          have x1 := HPu24.out.bx.free 6
          refine wpAnyZ_ready (rs := [13]) (by kernel_rfl) (by simp) ?_
          refine AllReadyZ.cons (o := ⟨_, _, _, _, _, _⟩) rfl (fun C hC => ?_) AllReadyZ.nil
          go_simp
          refine hC.out _ _ (zfree_no (by kernel_rfl)) (fun _ => ?_)
          clear hC C
          (try simp only [Act.put, List.setIfInBounds_toArray, List.set_cons_zero, List.set_cons_succ])
          refine wpAnyZ_done (by kernel_rfl) ?_ _
          refine NoPanic.normal ?_
          go_wp2
          go_meet
          case rel => exact odd_post (HPu24.out.s6 (.slice ad2 n2 cap2)) ((HOu24.out).grown (grow_set (grow_refl _ _) 6 (.slice ad2 n2 cap2)) fun k hk e => by cases e; have := ((HOu24.out).lt _ hk).1; have := HS0.out; omega) HS0.out (texts_snoc HT.out (by rw [HSK.out, str_size]; simp; omega) (by decide)) (by have := HLL.out; simp; omega) ⟨hw0, hw1, hw2, hw3, hw5⟩

    · have HBd : Hid (Below W0.heap.size W0 W0.drew) := (Below.refl _ _).drew
      have HPd := Lib.hid HP0.out.drew
      obtain ⟨kk, hkk⟩ : ∃ kk, kk = 64 + m := ⟨_, rfl⟩
      obtain ⟨sk, hsk⟩ : ∃ s, s = str (List.replicate kk 0) := ⟨_, rfl⟩
      have HSK := Lib.hid hsk
      have hkk65 : kk ≤ 65 := by omega
      have hm64 : IntKind.i64.wrap (64 + (m : Int)) = (kk : Int) := by rw [IntKind.wrap_i64]; omega
      have hmk := fun W => run_make_part W kk kk (Nat.le_refl _) (by omega)
      have HLL : Hid (l.length = len) := HR0.out.length
      clear hsk hkk
      go_upto_region 21 with fail
      refine wp_region_noPanic ?_
      refine wp_region_z [13] (fun W => Below W0.heap.size W0 W ∧ W.cell? ⟨w.heap.size, 6, none⟩ = some (.slice ad len cap)) (by kernel_rfl) ?_
      have hHeld : (fun W => Below W0.heap.size W0 W ∧ W.cell? ⟨w.heap.size, 6, none⟩ = some (.slice ad len cap)) _ := ⟨HBd.out, HPd.out.bx.c6⟩
      refine wpAnyZ_take (i := 1) (oi := ⟨_, _, _, _, _, _⟩) (v := ?_) rfl (by kernel_rfl) (by kernel_rfl) (by kernel_rfl) (by kernel_rfl) (by kernel_rfl) (fun _ _ _ h => h) (Or.inl ⟨by rfl, ?_⟩) (by assumption) ?_
      rotate_left
      · intro W hSw
        (try dsimp only at hSw)
        go_simp
        (try with_reducible rfl)
      (try simp only [Act.put, List.setIfInBounds_toArray, List.set_cons_zero, List.set_cons_succ])
      refine wpAnyZ_take (i := 2) (oi := ⟨_, _, _, _, _, _⟩) (v := ?_) rfl (by kernel_rfl) (by kernel_rfl) (by kernel_rfl) (by kernel_rfl) (by kernel_rfl) (fun _ _ _ h => h) (Or.inl ⟨by rfl, ?_⟩) (by assumption) ?_
      rotate_left
      · intro W hSw
        (try dsimp only at hSw)
        go_simp
        (try with_reducible rfl)
      (try simp only [Act.put, List.setIfInBounds_toArray, List.set_cons_zero, List.set_cons_succ])
      refine wpAnyZ_take (i := 4) (oi := ⟨_, _, _, _, _, _⟩) (v := ?_) rfl (by kernel_rfl) (by kernel_rfl) (by kernel_rfl) (by kernel_rfl) (by kernel_rfl) (fun _ _ _ h => h) (Or.inl ⟨by rfl, ?_⟩) (by assumption) ?_
      rotate_left
      · intro W hSw
        (try dsimp only at hSw)
        go_simp
        (try with_reducible rfl)
      (try simp only [Act.put, List.setIfInBounds_toArray, List.set_cons_zero, List.set_cons_succ])
      refine wpAnyZ_take (i := 5) (oi := ⟨_, _, _, _, _, _⟩) (v := ?_) rfl (by kernel_rfl) (by kernel_rfl) (by kernel_rfl) (by kernel_rfl) (by kernel_rfl) (fun _ _ _ h => h) (Or.inl ⟨by rfl, ?_⟩) (by assumption) ?_
      rotate_left
      · intro W hSw
        (try dsimp only at hSw)
        go_simp
        (try with_reducible rfl)
      (try simp only [Act.put, List.setIfInBounds_toArray, List.set_cons_zero, List.set_cons_succ])
      refine wpAnyZ_take (i := 6) (oi := ⟨_, _, _, _, _, _⟩) (v := ?_) rfl (by kernel_rfl) (by kernel_rfl) (by kernel_rfl) (by kernel_rfl) (by kernel_rfl) (fun _ _ _ h => h) (Or.inl ⟨by rfl, ?_⟩) (by assumption) ?_
      rotate_left
      · intro W hSw
        (try dsimp only at hSw)
        go_simp
        (try with_reducible rfl)
      (try simp only [Act.put, List.setIfInBounds_toArray, List.set_cons_zero, List.set_cons_succ])
      obtain ⟨u0, hu0⟩ : ∃ x, x = W0.drew := ⟨_, rfl⟩
      rw [← hu0] at hHeld HBd HPd
      rw [← hu0]
      clear hu0
      have HBu0 := HBd
      have HPu0 := HPd
      refine wpAnyZ_ready (rs := [0, 7]) (by kernel_rfl) (by simp) ?_
      refine AllReadyZ.cons (o := ⟨_, _, _, _, _, _⟩) rfl (fun C hC => ?_) (AllReadyZ.cons (o := ⟨_, _, _, _, _, _⟩) rfl (fun C hC => ?_) AllReadyZ.nil)
      ·
        go_simp
        obtain ⟨u1, hu1⟩ : ∃ x, x = u0.alloc (.cells #[] 58) := ⟨_, rfl⟩
        have hzu1 : u0.heap.size < u1.heap.size := by rw [hu1]; simp
        have HAu1 : Hid (Below u0.heap.size u0 u1) := by show Below _ _ _; rw [hu1]; exact (Below.refl _ _).alloc (Nat.le_refl _) _
        have HBu1 := Lib.hid (HBu0.out.trans (HAu1.out.mono HBu0.out.size))
        have HPu1 := Lib.hid (HPu0.out.on HAu1.out)
        obtain ⟨g0, hg0⟩ : ∃ x, x = u0.heap.size := ⟨_, rfl⟩
        have HOu1 : Hid (OwnRow recK u1 W0.heap.size (.slice (some ⟨g0, 0, none⟩) 0 0) []) := by show OwnRow _ _ _ _ _; rw [hu1, hg0]; exact ownRow_lit recK_ok u0 _ [] HBu0.out.size (by simp) _ rfl 0 rfl
        obtain ⟨v0, hv0⟩ : ∃ x : Value, x = .slice (some ⟨g0, 0, none⟩) 0 0 := ⟨_, rfl⟩
        have HOBu1 : Hid (∀ k, v0.ownBlock = some k → k < u1.heap.size) := by
          intro k hk
          rw [hv0] at hk
          have hk : g0 = k := Option.some.inj hk
          omega
        rw [← hv0] at HOu1
        rw [← hu1, ← hg0, ← hv0]
        clear hu1 hg0 hv0
        have hHeld : (fun W => Below W0.heap.size W0 W ∧ W.cell? ⟨w.heap.size, 6, none⟩ = some (.slice ad len cap)) u1 := ⟨HBu1.out, HPu1.out.bx.c6⟩
        refine hC.out _ _ (fun _ => hHeld) (fun _ => ?_)
        clear hC C
        (try simp only [Act.put, List.setIfInBounds_toArray, List.set_cons_zero, List.set_cons_succ])
        refine wpAnyZ_ready (rs := [3, 7]) (by kernel_rfl) (by simp) ?_
        refine AllReadyZ.cons (o := ⟨_, _, _, _, _, _⟩) rfl (fun C hC => ?_) (AllReadyZ.cons (o := ⟨_, _, _, _, _, _⟩) rfl (fun C hC => ?_) AllReadyZ.nil)
        ·
          refine held_row (by rfl) recK_ok (.tmp 70) (.tmp 72) rfl W0.heap.size [] l v0 rfl HOu1.out HBu1.out.size ad len cap rfl (recsAt_row.1 (HR0.out.keep HBu1.out)) (by simp; omega) ?_
          rintro v1 u2 hap
          have hap : Appended recK u1 W0.heap.size v0 l v1 u2 := hap
          have hzu2 := hap.2.1.size
          have HBu2 : Hid (Below W0.heap.size W0 u2) := HBu1.out.grown hap.2.1 HBu1.out.size fun k hk => ((HOu1.out.lt k hk).1)
          have HPu2 := Lib.hid (HPu1.out.grown hap.2.1 fun k hk => by have := (HOu1.out.lt k hk).1; have := HS0.out; omega)
          have HOu2 := Lib.hid hap.1
          have HOBu2 : Hid (∀ k, v1.ownBlock = some k → k < u2.heap.size) := by
            intro k hk
            have h1 := (HOu2.out.lt k hk).2
            rcases hap.2.2.2 k hk with h2 | h2
            · have h3 := HOBu1.out k h2
              omega
            · omega
          clear hap
          have hHeld : (fun W => Below W0.heap.size W0 W ∧ W.cell? ⟨w.heap.size, 6, none⟩ = some (.slice ad len cap)) u2 := ⟨HBu2.out, HPu2.out.bx.c6⟩
          refine hC.out _ _ (fun _ => hHeld) (fun _ => ?_)
          clear hC C
          (try simp only [Act.put, List.setIfInBounds_toArray, List.set_cons_zero, List.set_cons_succ])
          refine wpAnyZ_ready (rs := [7]) (by kernel_rfl) (by simp) ?_
          refine AllReadyZ.cons (o := ⟨_, _, _, _, _, _⟩) rfl (fun C hC => ?_) AllReadyZ.nil
          go_simp
          obtain ⟨u3, hu3⟩ : ∃ x, x = u2.alloc (.cells (vals (List.replicate kk 0)).toArray 5) := ⟨_, rfl⟩
          have hzu3 : u2.heap.size < u3.heap.size := by rw [hu3]; simp
          have HAu3 : Hid (Below u2.heap.size u2 u3) := by show Below _ _ _; rw [hu3]; exact (Below.refl _ _).alloc (Nat.le_refl _) _
          have HBu3 := Lib.hid (HBu2.out.trans (HAu3.out.mono HBu2.out.size))
          have HPu3 := Lib.hid (HPu2.out.on HAu3.out)
          have HOu3 := Lib.hid (HOu2.out.on HAu3.out)
          obtain ⟨gz, hgz⟩ : ∃ x, x = u2.heap.size := ⟨_, rfl⟩
          have HZu3 : Hid (Own u3 gz (List.replicate kk 0)) := by show Own _ _ _; rw [hu3, hgz]; exact own_new _ _
          obtain ⟨vz, hvz⟩ : ∃ x : Value, x = .slice (some ⟨gz, 0, none⟩) kk kk := ⟨_, rfl⟩
          have HOBu3 : Hid (∀ k, v1.ownBlock = some k → k < u3.heap.size ∧ k ≠ gz) := by
            intro k hk
            have h1 := HOBu2.out k hk
            omega
          rw [← hu3, ← hgz, ← hvz]
          have HVZ := Lib.hid hvz
          clear hu3 hgz hvz
          have hHeld : (fun W => Below W0.heap.size W0 W ∧ W.cell? ⟨w.heap.size, 6, none⟩ = some (.slice ad len cap)) u3 := ⟨HBu3.out, HPu3.out.bx.c6⟩
          refine hC.out _ _ (fun _ => hHeld) (fun _ => ?_)
          clear hC C
          (try simp only [Act.put, List.setIfInBounds_toArray, List.set_cons_zero, List.set_cons_succ])
          refine wpAnyZ_strengthen (S' := (fun W => (Below W0.heap.size W0 W ∧ W.cell? ⟨w.heap.size, 6, none⟩ = some (.slice ad len cap)) ∧ (convert 34 9 vz).run Try.prog W = .ok (.string sk) W)) (fun W h => h.1) _ _ _ _ ?_
          clear hHeld
          have hHeld : (fun W => (Below W0.heap.size W0 W ∧ W.cell? ⟨w.heap.size, 6, none⟩ = some (.slice ad len cap)) ∧ (convert 34 9 vz).run Try.prog W = .ok (.string sk) W) u3 := ⟨⟨HBu3.out, HPu3.out.bx.c6⟩, conv_zero HZu3.out HSK.out HVZ.out⟩
          refine wpAnyZ_take (i := 8) (oi := ⟨_, _, _, _, _, _⟩) (v := ?_) rfl (by kernel_rfl) (by kernel_rfl) (by kernel_rfl) (by kernel_rfl) (by kernel_rfl) (fun _ _ _ h => h) (Or.inl ⟨by rfl, ?_⟩) (by assumption) ?_
          rotate_left
          · intro W hSw
            (try dsimp only at hSw)
            go_simp
            (try with_reducible rfl)
          (try simp only [Act.put, List.setIfInBounds_toArray, List.set_cons_zero, List.set_cons_succ])
          refine wpAnyZ_take (i := 9) (oi := ⟨_, _, _, _, _, _⟩) (v := ?_) rfl (by kernel_rfl) (by kernel_rfl) (by kernel_rfl) (by kernel_rfl) (by kernel_rfl) (fun _ _ _ h => h) (Or.inl ⟨by rfl, ?_⟩) (by assumption) ?_
          rotate_left
          · intro W hSw
            (try dsimp only at hSw)
            go_simp
            (try with_reducible rfl)
          (try simp only [Act.put, List.setIfInBounds_toArray, List.set_cons_zero, List.set_cons_succ])
          refine wpAnyZ_ready (rs := [10]) (by kernel_rfl) (by simp) ?_
          refine AllReadyZ.cons (o := ⟨_, _, _, _, _, _⟩) rfl (fun C hC => ?_) AllReadyZ.nil
          go_simp
          obtain ⟨u4, hu4⟩ : ∃ x, x = u3.alloc (.cells #[.string ⟨#[]⟩, .string sk] 58) := ⟨_, rfl⟩
          have hzu4 : u3.heap.size < u4.heap.size := by rw [hu4]; simp
          have HAu4 : Hid (Below u3.heap.size u3 u4) := by show Below _ _ _; rw [hu4]; exact (Below.refl _ _).alloc (Nat.le_refl _) _
          have HBu4 := Lib.hid (HBu3.out.trans (HAu4.out.mono HBu3.out.size))
          have HPu4 := Lib.hid (HPu3.out.on HAu4.out)
          have HOu4 := Lib.hid (HOu3.out.on HAu4.out)
          have HZu4 := Lib.hid (HZu3.out.keep HAu4.out (HZu3.out.lt))
          obtain ⟨gl, hgl⟩ : ∃ x, x = u3.heap.size := ⟨_, rfl⟩
          have hzl := HZu3.out.lt
          have HLu4 : Hid (RowAt recK u4 (some ⟨gl, 0, none⟩) 1 1 [⟨⟨#[]⟩, sk⟩]) := by show RowAt _ _ _ _ _ _; rw [hu4, hgl]; exact rowAt_lit recK_ok u3 [⟨⟨#[]⟩, sk⟩] (by simp) _ rfl 1 rfl
          have HOBu4 : Hid (∀ k, v1.ownBlock = some k → k < u4.heap.size ∧ k ≠ gz ∧ k ≠ gl) := by
            intro k hk
            have h1 := HOBu3.out k hk
            omega
          have hgl2 : gl < u4.heap.size := by omega
          rw [← hu4, ← hgl]
          clear hu4 hgl
          have hHeld : (fun W => (Below W0.heap.size W0 W ∧ W.cell? ⟨w.heap.size, 6, none⟩ = some (.slice ad len cap)) ∧ (convert 34 9 vz).run Try.prog W = .ok (.string sk) W) u4 := ⟨⟨HBu4.out, HPu4.out.bx.c6⟩, conv_zero HZu4.out HSK.out HVZ.out⟩
          refine hC.out _ _ (fun _ => hHeld) (fun _ => ?_)
          clear hC C
          (try simp only [Act.put, List.setIfInBounds_toArray, List.set_cons_zero, List.set_cons_succ])
          refine wpAnyZ_ready (rs := [11]) (by kernel_rfl) (by simp) ?_
          refine AllReadyZ.cons (o := ⟨_, _, _, _, _, _⟩) rfl (fun C hC => ?_) AllReadyZ.nil
          refine held_row (by rfl) recK_ok (.tmp 73) (.tmp 80) rfl W0.heap.size l [⟨⟨#[]⟩, sk⟩] v1 rfl HOu4.out HBu4.out.size (some ⟨gl, 0, none⟩) 1 1 rfl HLu4.out (by have := HLL.out; omega) ?_
          rintro v2 u5 hap
          have hzu5 := hap.2.1.size
          have HBu5 : Hid (Below W0.heap.size W0 u5) := HBu4.out.grown hap.2.1 HBu4.out.size fun k hk => ((HOu4.out.lt k hk).1)
          have HPu5 := Lib.hid (HPu4.out.grown hap.2.1 fun k hk => by have := (HOu4.out.lt k hk).1; have := HS0.out; omega)
          have HOu5 := Lib.hid hap.1
          have HZu5 : Hid (Own u5 gz (List.replicate kk 0)) := by
            show Own _ _ _
            unfold Own
            rw [hap.2.1.block gz (HZu4.out.lt) (fun e => (HOBu4.out gz e.symm).2.1 rfl)]
            exact HZu4.out
          have HLu5 := Lib.hid (HLu4.out.grown hap.2.1 fun a ha e => by cases ha; exact (HOBu4.out gl e.symm).2.2 rfl)
          clear hap
          have hHeld : (fun W => (Below W0.heap.size W0 W ∧ W.cell? ⟨w.heap.size, 6, none⟩ = some (.slice ad len cap)) ∧ (convert 34 9 vz).run Try.prog W = .ok (.string sk) W) u5 := ⟨⟨HBu5.out, HPu5.out.bx.c6⟩, conv_zero HZu5.out HSK.out HVZ.out⟩
          refine hC.out _ _ (fun _ => hHeld) (fun _ => ?_)
          clear hC C
          (try simp only [Act.put, List.setIfInBounds_toArray, List.set_cons_zero, List.set_cons_succ])
          obtain ⟨ad2, cap2, hv2, _, _⟩ := HOu5.out.at recK_ok
          obtain ⟨n2, hn2⟩ : ∃ n2, (l ++ [(⟨⟨#[]⟩, sk⟩ : Rc)]).length = n2 := ⟨_, rfl⟩
          rw [hn2] at hv2
          subst hv2
          clear hn2
          refine wpAnyZ_take (i := 12) (oi := ⟨_, _, _, _, _, _⟩) (v := ?_) rfl (by kernel_rfl) (by kernel_rfl) (by kernel_rfl) (by kernel_rfl) (by kernel_rfl) (fun _ _ _ h => h) (Or.inl ⟨by rfl, ?_⟩) (by assumption) ?_
          rotate_left
          · intro W hSw
            (try dsimp only at hSw)
            go_simp
            (try with_reducible rfl)
          (try simp only [Act.put, List.setIfInBounds_toArray, List.set_cons_zero, List.set_cons_succ])
          have x0 := HPu5.out.bx.c6
          have x1 := HPu5.out.bx.free 6
          refine wpAnyZ_ready (rs := [13]) (by kernel_rfl) (by simp) ?_
          refine AllReadyZ.cons (o := ⟨_, _, _, _, _, _⟩) rfl (fun C hC => ?_) AllReadyZ.nil
          go_simp
          refine hC.out _ _ (zfree_no (by kernel_rfl)) (fun _ => ?_)
          clear hC C
          (try simp only [Act.put, List.setIfInBounds_toArray, List.set_cons_zero, List.set_cons_succ])
          refine wpAnyZ_done (by kernel_rfl) ?_ _
          refine NoPanic.normal ?_
          go_wp2
          go_meet
          case rel => exact odd_post (HPu5.out.s6 (.slice ad2 n2 cap2)) ((HOu5.out).grown (grow_set (grow_refl _ _) 6 (.slice ad2 n2 cap2)) fun k hk e => by cases e; have := ((HOu5.out).lt _ hk).1; have := HS0.out; omega) HS0.out (texts_snoc HT.out (by decide) (by rw [HSK.out, str_size]; simp; omega)) (by have := HLL.out; simp; omega) ⟨hw0, hw1, hw2, hw3, hw5⟩
        ·
          go_simp
          obtain ⟨u6, hu6⟩ : ∃ x, x = u1.alloc (.cells (vals (List.replicate kk 0)).toArray 5) := ⟨_, rfl⟩
          have hzu6 : u1.heap.size < u6.heap.size := by rw [hu6]; simp
          have HAu6 : Hid (Below u1.heap.size u1 u6) := by show Below _ _ _; rw [hu6]; exact (Below.refl _ _).alloc (Nat.le_refl _) _
          have HBu6 := Lib.hid (HBu1.out.trans (HAu6.out.mono HBu1.out.size))
          have HPu6 := Lib.hid (HPu1.out.on HAu6.out)
          have HOu6 := Lib.hid (HOu1.out.on HAu6.out)
          obtain ⟨gz, hgz⟩ : ∃ x, x = u1.heap.size := ⟨_, rfl⟩
          have HZu6 : Hid (Own u6 gz (List.replicate kk 0)) := by show Own _ _ _; rw [hu6, hgz]; exact own_new _ _
          obtain ⟨vz, hvz⟩ : ∃ x : Value, x = .slice (some ⟨gz, 0, none⟩) kk kk := ⟨_, rfl⟩
          have HOBu6 : Hid (∀ k, v0.ownBlock = some k → k < u6.heap.size ∧ k ≠ gz) := by
            intro k hk
            have h1 := HOBu1.out k hk
            omega
          rw [← hu6, ← hgz, ← hvz]
          have HVZ := Lib.hid hvz
          clear hu6 hgz hvz
          have hHeld : (fun W => Below W0.heap.size W0 W ∧ W.cell? ⟨w.heap.size, 6, none⟩ = some (.slice ad len cap)) u6 := ⟨HBu6.out, HPu6.out.bx.c6⟩
          refine hC.out _ _ (fun _ => hHeld) (fun _ => ?_)
          clear hC C
          (try simp only [Act.put, List.setIfInBounds_toArray, List.set_cons_zero, List.set_cons_succ])
          refine wpAnyZ_strengthen (S' := (fun W => (Below W0.heap.size W0 W ∧ W.cell? ⟨w.heap.size, 6, none⟩ = some (.slice ad len cap)) ∧ (convert 34 9 vz).run Try.prog W = .ok (.string sk) W)) (fun W h => h.1) _ _ _ _ ?_
          clear hHeld
          have hHeld : (fun W => (Below W0.heap.size W0 W ∧ W.cell? ⟨w.heap.size, 6, none⟩ = some (.slice ad len cap)) ∧ (convert 34 9 vz).run Try.prog W = .ok (.string sk) W) u6 := ⟨⟨HBu6.out, HPu6.out.bx.c6⟩, conv_zero HZu6.out HSK.out HVZ.out⟩
          refine wpAnyZ_take (i := 8) (oi := ⟨_, _, _, _, _, _⟩) (v := ?_) rfl (by kernel_rfl) (by kernel_rfl) (by kernel_rfl) (by kernel_rfl) (by kernel_rfl) (fun _ _ _ h => h) (Or.inl ⟨by rfl, ?_⟩) (by assumption) ?_
          rotate_left
          · intro W hSw
            (try dsimp only at hSw)
            go_simp
            (try with_reducible rfl)
          (try simp only [Act.put, List.setIfInBounds_toArray, List.set_cons_zero, List.set_cons_succ])
          refine wpAnyZ_take (i := 9) (oi := ⟨_, _, _, _, _, _⟩) (v := ?_) rfl (by kernel_rfl) (by kernel_rfl) (by kernel_rfl) (by kernel_rfl) (by kernel_rfl) (fun _ _ _ h => h) (Or.inl ⟨by rfl, ?_⟩) (by assumption) ?_
          rotate_left
          · intro W hSw
            (try dsimp only at hSw)
            go_simp
            (try with_reducible rfl)
          (try simp only [Act.put, List.setIfInBounds_toArray, List.set_cons_zero, List.set_cons_succ])
          refine wpAnyZ_ready (rs := [3, 10]) (by kernel_rfl) (by simp) ?_
          refine AllReadyZ.cons (o := ⟨_, _, _, _, _, _⟩) rfl (fun C hC => ?_) (AllReadyZ.cons (o := ⟨_, _, _, _, _, _⟩) rfl (fun C hC => ?_) AllReadyZ.nil)
          ·
            refine held_row (by rfl) recK_ok (.tmp 70) (.tmp 72) rfl W0.heap.size [] l v0 rfl HOu6.out HBu6.out.size ad len cap rfl (recsAt_row.1 (HR0.out.keep HBu6.out)) (by simp; omega) ?_
            rintro v1 u7 hap
            have hap : Appended recK u6 W0.heap.size v0 l v1 u7 := hap
            have hzu7 := hap.2.1.size
            have HBu7 : Hid (Below W0.heap.size W0 u7) := HBu6.out.grown hap.2.1 HBu6.out.size fun k hk => ((HOu6.out.lt k hk).1)
            have HPu7 := Lib.hid (HPu6.out.grown hap.2.1 fun k hk => by have := (HOu6.out.lt k hk).1; have := HS0.out; omega)
            have HOu7 := Lib.hid hap.1
            have HZu7 : Hid (Own u7 gz (List.replicate kk 0)) := by
              show Own _ _ _
              unfold Own
              rw [hap.2.1.block gz (HZu6.out.lt) (fun e => (HOBu6.out gz e.symm).2 rfl)]
              exact HZu6.out
            have HOBu7 : Hid (∀ k, v1.ownBlock = some k → k < u7.heap.size ∧ k ≠ gz) := by
              intro k hk
              have h1 := (HOu7.out.lt k hk).2
              rcases hap.2.2.2 k hk with h2 | h2
              · have h3 := HOBu6.out k h2
                omega
              · have := HZu6.out.lt; omega
            clear hap
            have hHeld : (fun W => (Below W0.heap.size W0 W ∧ W.cell? ⟨w.heap.size, 6, none⟩ = some (.slice ad len cap)) ∧ (convert 34 9 vz).run Try.prog W = .ok (.string sk) W) u7 := ⟨⟨HBu7.out, HPu7.out.bx.c6⟩, conv_zero HZu7.out HSK.out HVZ.out⟩
            refine hC.out _ _ (fun _ => hHeld) (fun _ => ?_)
            clear hC C
            (try simp only [Act.put, List.setIfInBounds_toArray, List.set_cons_zero, List.set_cons_succ])
            refine wpAnyZ_ready (rs := [10]) (by kernel_rfl) (by simp) ?_
            refine AllReadyZ.cons (o := ⟨_, _, _, _, _, _⟩) rfl (fun C hC => ?_) AllReadyZ.nil
            go_simp
            obtain ⟨u8, hu8⟩ : ∃ x, x = u7.alloc (.cells #[.string ⟨#[]⟩, .string sk] 58) := ⟨_, rfl⟩
            have hzu8 : u7.heap.size < u8.heap.size := by rw [hu8]; simp
            have HAu8 : Hid (Below u7.heap.size u7 u8) := by show Below _ _ _; rw [hu8]; exact (Below.refl _ _).alloc (Nat.le_refl _) _
            have HBu8 := Lib.hid (HBu7.out.trans (HAu8.out.mono HBu7.out.size))
            have HPu8 := Lib.hid (HPu7.out.on HAu8.out)
            have HOu8 := Lib.hid (HOu7.out.on HAu8.out)
            have HZu8 := Lib.hid (HZu7.out.keep HAu8.out (HZu7.out.lt))
            obtain ⟨gl, hgl⟩ : ∃ x, x = u7.heap.size := ⟨_, rfl⟩
            have hzl := HZu7.out.lt
            have HLu8 : Hid (RowAt recK u8 (some ⟨gl, 0, none⟩) 1 1 [⟨⟨#[]⟩, sk⟩]) := by show RowAt _ _ _ _ _ _; rw [hu8, hgl]; exact rowAt_lit recK_ok u7 [⟨⟨#[]⟩, sk⟩] (by simp) _ rfl 1 rfl
            have HOBu8 : Hid (∀ k, v1.ownBlock = some k → k < u8.heap.size ∧ k ≠ gz ∧ k ≠ gl) := by
              intro k hk
              have h1 := HOBu7.out k hk
              omega
            have hgl2 : gl < u8.heap.size := by omega
            rw [← hu8, ← hgl]
            clear hu8 hgl
            have hHeld : (fun W => (Below W0.heap.size W0 W ∧ W.cell? ⟨w.heap.size, 6, none⟩ = some (.slice ad len cap)) ∧ (convert 34 9 vz).run Try.prog W = .ok (.string sk) W) u8 := ⟨⟨HBu8.out, HPu8.out.bx.c6⟩, conv_zero HZu8.out HSK.out HVZ.out⟩
            refine hC.out _ _ (fun _ => hHeld) (fun _ => ?_)
            clear hC C
            (try simp only [Act.put, List.setIfInBounds_toArray, List.set_cons_zero, List.set_cons_succ])
            refine wpAnyZ_ready (rs := [11]) (by kernel_rfl) (by simp) ?_
            refine AllReadyZ.cons (o := ⟨_, _, _, _, _, _⟩) rfl (fun C hC => ?_) AllReadyZ.nil
            refine held_row (by rfl) recK_ok (.tmp 73) (.tmp 80) rfl W0.heap.size l [⟨⟨#[]⟩, sk⟩] v1 rfl HOu8.out HBu8.out.size (some ⟨gl, 0, none⟩) 1 1 rfl HLu8.out (by have := HLL.out; omega) ?_
            rintro v2 u9 hap
            have hzu9 := hap.2.1.size
            have HBu9 : Hid (Below W0.heap.size W0 u9) := HBu8.out.grown hap.2.1 HBu8.out.size fun k hk => ((HOu8.out.lt k hk).1)
            have HPu9 := Lib.hid (HPu8.out.grown hap.2.1 fun k hk => by have := (HOu8.out.lt k hk).1; have := HS0.out; omega)
            have HOu9 := Lib.hid hap.1
            have HZu9 : Hid (Own u9 gz (List.replicate kk 0)) := by
              show Own _ _ _
              unfold Own
              rw [hap.2.1.block gz (HZu8.out.lt) (fun e => (HOBu8.out gz e.symm).2.1 rfl)]
              exact HZu8.out
            have HLu9 := Lib.hid (HLu8.out.grown hap.2.1 fun a ha e => by cases ha; exact (HOBu8.out gl e.symm).2.2 rfl)
            clear hap
            have hHeld : (fun W => (Below W0.heap.size W0 W ∧ W.cell? ⟨w.heap.size, 6, none⟩ = some (.slice ad len cap)) ∧ (convert 34 9 vz).run Try.prog W = .ok (.string sk) W) u9 := ⟨⟨HBu9.out, HPu9.out.bx.c6⟩, conv_zero HZu9.out HSK.out HVZ.out⟩
            refine hC.out _ _ (fun _ => hHeld) (fun _ => ?_)
            clear hC C
            (try simp only [Act.put, List.setIfInBounds_toArray, List.set_cons_zero, List.set_cons_succ])
            obtain ⟨ad2, cap2, hv2, _, _⟩ := HOu9.out.at recK_ok
            obtain ⟨n2, hn2⟩ : ∃ n2, (l ++ [(⟨⟨#[]⟩, sk⟩ : Rc)]).length = n2 := ⟨_, rfl⟩
            rw [hn2] at hv2
            subst hv2
            clear hn2
            refine wpAnyZ_take (i := 12) (oi := ⟨_, _, _, _, _, _⟩) (v := ?_) rfl (by kernel_rfl) (by kernel_rfl) (by kernel_rfl) (by kernel_rfl) (by kernel_rfl) (fun _ _ _ h => h) (Or.inl ⟨by rfl, ?_⟩) (by assumption) ?_
            rotate_left
            · intro W hSw
              (try dsimp only at hSw)
              go_simp
              (try with_reducible rfl)
            (try simp only [Act.put, List.setIfInBounds_toArray, List.set_cons_zero, List.set_cons_succ])
            have x0 := HPu9.out.bx.c6
            have x1 := HPu9.out.bx.free 6
            refine wpAnyZ_ready (rs := [13]) (by kernel_rfl) (by simp) ?_
            refine AllReadyZ.cons (o := ⟨_, _, _, _, _, _⟩) rfl (fun C hC => ?_) AllReadyZ.nil
            go_simp
            refine hC.out _ _ (zfree_no (by kernel_rfl)) (fun _ => ?_)
            clear hC C
            (try simp only [Act.put, List.setIfInBounds_toArray, List.set_cons_zero, List.set_cons_succ])
            refine wpAnyZ_done (by kernel_rfl) ?_ _
            refine NoPanic.normal ?_
            go_wp2
            go_meet
            case rel => exact odd_post (HPu9.out.s6 (.slice ad2 n2 cap2)) ((HOu9.out).grown (grow_set (grow_refl _ _) 6 (.slice ad2 n2 cap2)) fun k hk e => by cases e; have := ((HOu9.out).lt _ hk).1; have := HS0.out; omega) HS0.out (texts_snoc HT.out (by decide) (by rw [HSK.out, str_size]; simp; omega)) (by have := HLL.out; simp; omega) ⟨hw0, hw1, hw2, hw3, hw5⟩
          ·
            go_simp
            obtain ⟨u10, hu10⟩ : ∃ x, x = u6.alloc (.cells #[.string ⟨#[]⟩, .string sk] 58) := ⟨_, rfl⟩
            have hzu10 : u6.heap.size < u10.heap.size := by rw [hu10]; simp
            have HAu10 : Hid (Below u6.heap.size u6 u10) := by show Below _ _ _; rw [hu10]; exact (Below.refl _ _).alloc (Nat.le_refl _) _
            have HBu10 := Lib.hid (HBu6.out.trans (HAu10.out.mono HBu6.out.size))
            have HPu10 := Lib.hid (HPu6.out.on HAu10.out)
            have HOu10 := Lib.hid (HOu6.out.on HAu10.out)
            have HZu10 := Lib.hid (HZu6.out.keep HAu10.out (HZu6.out.lt))
            obtain ⟨gl, hgl⟩ : ∃ x, x = u6.heap.size := ⟨_, rfl⟩
            have hzl := HZu6.out.lt
            have HLu10 : Hid (RowAt recK u10 (some ⟨gl, 0, none⟩) 1 1 [⟨⟨#[]⟩, sk⟩]) := by show RowAt _ _ _ _ _ _; rw [hu10, hgl]; exact rowAt_lit recK_ok u6 [⟨⟨#[]⟩, sk⟩] (by simp) _ rfl 1 rfl
            have HOBu10 : Hid (∀ k, v0.ownBlock = some k → k < u10.heap.size ∧ k ≠ gz ∧ k ≠ gl) := by
              intro k hk
              have h1 := HOBu6.out k hk
              omega
            have hgl2 : gl < u10.heap.size := by omega
            rw [← hu10, ← hgl]
            clear hu10 hgl
            have hHeld : (fun W => (Below W0.heap.size W0 W ∧ W.cell? ⟨w.heap.size, 6, none⟩ = some (.slice ad len cap)) ∧ (convert 34 9 vz).run Try.prog W = .ok (.string sk) W) u10 := ⟨⟨HBu10.out, HPu10.out.bx.c6⟩, conv_zero HZu10.out HSK.out HVZ.out⟩
            refine hC.out _ _ (fun _ => hHeld) (fun _ => ?_)
            clear hC C
            (try simp only [Act.put, List.setIfInBounds_toArray, List.set_cons_zero, List.set_cons_succ])
            refine wpAnyZ_ready (rs := [3]) (by kernel_rfl) (by simp) ?_
            refine AllReadyZ.cons (o := ⟨_, _, _, _, _, _⟩) rfl (fun C hC => ?_) AllReadyZ.nil
            refine held_row (by rfl) recK_ok (.tmp 70) (.tmp 72) rfl W0.heap.size [] l v0 rfl HOu10.out HBu10.out.size ad len cap rfl (recsAt_row.1 (HR0.out.keep HBu10.out)) (by simp; omega) ?_
            rintro v1 u11 hap
            have hap : Appended recK u10 W0.heap.size v0 l v1 u11 := hap
            have hzu11 := hap.2.1.size
            have HBu11 : Hid (Below W0.heap.size W0 u11) := HBu10.out.grown hap.2.1 HBu10.out.size fun k hk => ((HOu10.out.lt k hk).1)
            have HPu11 := Lib.hid (HPu10.out.grown hap.2.1 fun k hk => by have := (HOu10.out.lt k hk).1; have := HS0.out; omega)
            have HOu11 := Lib.hid hap.1
            have HZu11 : Hid (Own u11 gz (List.replicate kk 0)) := by
              show Own _ _ _
              unfold Own
              rw [hap.2.1.block gz (HZu10.out.lt) (fun e => (HOBu10.out gz e.symm).2.1 rfl)]
              exact HZu10.out
            have HLu11 := Lib.hid (HLu10.out.grown hap.2.1 fun a ha e => by cases ha; exact (HOBu10.out gl e.symm).2.2 rfl)
            have HOBu11 : Hid (∀ k, v1.ownBlock = some k → k < u11.heap.size ∧ k ≠ gz ∧ k ≠ gl) := by
              intro k hk
              have h1 := (HOu11.out.lt k hk).2
              rcases hap.2.2.2 k hk with h2 | h2
              · have h3 := HOBu10.out k h2
                omega
              · have := HZu10.out.lt; omega
            clear hap
            have hHeld : (fun W => (Below W0.heap.size W0 W ∧ W.cell? ⟨w.heap.size, 6, none⟩ = some (.slice ad len cap)) ∧ (convert 34 9 vz).run Try.prog W = .ok (.string sk) W) u11 := ⟨⟨HBu11.out, HPu11.out.bx.c6⟩, conv_zero HZu11.out HSK.out HVZ.out⟩
            refine hC.out _ _ (fun _ => hHeld) (fun _ => ?_)
            clear hC C
            (try simp only [Act.put, List.setIfInBounds_toArray, List.set_cons_zero, List.set_cons_succ])
            refine wpAnyZ_ready (rs := [11]) (by kernel_rfl) (by simp) ?_
            refine AllReadyZ.cons (o := ⟨_, _, _, _, _, _⟩) rfl (fun C hC => ?_) AllReadyZ.nil
            refine held_row (by rfl) recK_ok (.tmp 73) (.tmp 80) rfl W0.heap.size l [⟨⟨#[]⟩, sk⟩] v1 rfl HOu11.out HBu11.out.size (some ⟨gl, 0, none⟩) 1 1 rfl HLu11.out (by have := HLL.out; omega) ?_
            rintro v2 u12 hap
            have hzu12 := hap.2.1.size
            have HBu12 : Hid (Below W0.heap.size W0 u12) := HBu11.out.grown hap.2.1 HBu11.out.size fun k hk => ((HOu11.out.lt k hk).1)
            have HPu12 := Lib.hid (HPu11.out.grown hap.2.1 fun k hk => by have := (HOu11.out.lt k hk).1; have := HS0.out; omega)
            have HOu12 := Lib.hid hap.1
            have HZu12 : Hid (Own u12 gz (List.replicate kk 0)) := by
              show Own _ _ _
              unfold Own
              rw [hap.2.1.block gz (HZu11.out.lt) (fun e => (HOBu11.out gz e.symm).2.1 rfl)]
              exact HZu11.out
            have HLu12 := Lib.hid (HLu11.out.grown hap.2.1 fun a ha e => by cases ha; exact (HOBu11.out gl e.symm).2.2 rfl)
            clear hap
            have hHeld : (fun W => (Below W0.heap.size W0 W ∧ W.cell? ⟨w.heap.size, 6, none⟩ = some (.slice ad len cap)) ∧ (convert 34 9 vz).run Try.prog W = .ok (.string sk) W) u12 := ⟨⟨HBu12.out, HPu12.out.bx.c6⟩, conv_zero HZu12.out HSK.out HVZ.out⟩
            refine hC.out _ _ (fun _ => hHeld) (fun _ => ?_)
            clear hC C
            (try simp only [Act.put, List.setIfInBounds_toArray, List.set_cons_zero, List.set_cons_succ])
            obtain ⟨ad2, cap2, hv2, _, _⟩ := HOu12.out.at recK_ok
            obtain ⟨n2, hn2⟩ : ∃ n2, (l ++ [(⟨⟨#[]⟩, sk⟩ : Rc)]).length = n2 := ⟨_, rfl⟩
            rw [hn2] at hv2
            subst hv2
            clear hn2
            refine wpAnyZ_take (i := 12) (oi := ⟨_, _, _, _, _, _⟩) (v := ?_) rfl (by kernel_rfl) (by kernel_rfl) (by kernel_rfl) (by kernel_rfl) (by kernel_rfl) (fun _ _ _ h => h) (Or.inl ⟨by rfl, ?_⟩) (by assumption) ?_
            rotate_left
            · intro W hSw
              (try dsimp only at hSw)
              go_simp
              (try with_reducible rfl)
            (try simp only [Act.put, List.setIfInBounds_toArray, List.set_cons_zero, List.set_cons_succ])
            have x0 := HPu12.out.bx.c6
            have x1 := HPu12.out.bx.free 6
            refine wpAnyZ_ready (rs := [13]) (by kernel_rfl) (by simp) ?_
            refine AllReadyZ.cons (o := ⟨_, _, _, _, _, _⟩) rfl (fun C hC => ?_) AllReadyZ.nil
            go_simp
            refine hC.out _ _ (zfree_no (by kernel_rfl)) (fun _ => ?_)
            clear hC C
            (try simp only [Act.put, List.setIfInBounds_toArray, List.set_cons_zero, List.set_cons_succ])
            refine wpAnyZ_done (by kernel_rfl) ?_ _
            refine NoPanic.normal ?_
            go_wp2
            go_meet
            case rel => exact odd_post (HPu12.out.s6 (.slice ad2 n2 cap2)) ((HOu12.out).grown (grow_set (grow_refl _ _) 6 (.slice ad2 n2 cap2)) fun k hk e => by cases e; have := ((HOu12.out).lt _ hk).1; have := HS0.out; omega) HS0.out (texts_snoc HT.out (by decide) (by rw [HSK.out, str_size]; simp; omega)) (by have := HLL.out; simp; omega) ⟨hw0, hw1, hw2, hw3, hw5⟩
      ·
        go_simp
        obtain ⟨u13, hu13⟩ : ∃ x, x = u0.alloc (.cells (vals (List.replicate kk 0)).toArray 5) := ⟨_, rfl⟩
        have hzu13 : u0.heap.size < u13.heap.size := by rw [hu13]; simp
        have HAu13 : Hid (Below u0.heap.size u0 u13) := by show Below _ _ _; rw [hu13]; exact (Below.refl _ _).alloc (Nat.le_refl _) _
        have HBu13 := Lib.hid (HBu0.out.trans (HAu13.out.mono HBu0.out.size))
        have HPu13 := Lib.hid (HPu0.out.on HAu13.out)
        obtain ⟨gz, hgz⟩ : ∃ x, x = u0.heap.size := ⟨_, rfl⟩
        have HZu13 : Hid (Own u13 gz (List.replicate kk 0)) := by show Own _ _ _; rw [hu13, hgz]; exact own_new _ _
        obtain ⟨vz, hvz⟩ : ∃ x : Value, x = .slice (some ⟨gz, 0, none⟩) kk kk := ⟨_, rfl⟩
        rw [← hu13, ← hgz, ← hvz]
        have HVZ := Lib.hid hvz
        clear hu13 hgz hvz
        have hHeld : (fun W => Below W0.heap.size W0 W ∧ W.cell? ⟨w.heap.size, 6, none⟩ = some (.slice ad len cap)) u13 := ⟨HBu13.out, HPu13.out.bx.c6⟩
        refine hC.out _ _ (fun _ => hHeld) (fun _ => ?_)
        clear hC C
        (try simp only [Act.put, List.setIfInBounds_toArray, List.set_cons_zero, List.set_cons_succ])
        refine wpAnyZ_strengthen (S' := (fun W => (Below W0.heap.size W0 W ∧ W.cell? ⟨w.heap.size, 6, none⟩ = some (.slice ad len cap)) ∧ (convert 34 9 vz).run Try.prog W = .ok (.string sk) W)) (fun W h => h.1) _ _ _ _ ?_
        clear hHeld
        have hHeld : (fun W => (Below W0.heap.size W0 W ∧ W.cell? ⟨w.heap.size, 6, none⟩ = some (.slice ad len cap)) ∧ (convert 34 9 vz).run Try.prog W = .ok (.string sk) W) u13 := ⟨⟨HBu13.out, HPu13.out.bx.c6⟩, conv_zero HZu13.out HSK.out HVZ.out⟩
        refine wpAnyZ_take (i := 8) (oi := ⟨_, _, _, _, _, _⟩) (v := ?_) rfl (by kernel_rfl) (by kernel_rfl) (by kernel_rfl) (by kernel_rfl) (by kernel_rfl) (fun _ _ _ h => h) (Or.inl ⟨by rfl, ?_⟩) (by assumption) ?_
        rotate_left
        · intro W hSw
          (try dsimp only at hSw)
          go_simp
          (try with_reducible rfl)
        (try simp only [Act.put, List.setIfInBounds_toArray, List.set_cons_zero, List.set_cons_succ])
        refine wpAnyZ_take (i := 9) (oi := ⟨_, _, _, _, _, _⟩) (v := ?_) rfl (by kernel_rfl) (by kernel_rfl) (by kernel_rfl) (by kernel_rfl) (by kernel_rfl) (fun _ _ _ h => h) (Or.inl ⟨by rfl, ?_⟩) (by assumption) ?_
        rotate_left
        · intro W hSw
          (try dsimp only at hSw)
          go_simp
          (try with_reducible rfl)
        (try simp only [Act.put, List.setIfInBounds_toArray, List.set_cons_zero, List.set_cons_succ])
        refine wpAnyZ_ready (rs := [0, 10]) (by kernel_rfl) (by simp) ?_
        refine AllReadyZ.cons (o := ⟨_, _, _, _, _, _⟩) rfl (fun C hC => ?_) (AllReadyZ.cons (o := ⟨_, _, _, _, _, _⟩) rfl (fun C hC => ?_) AllReadyZ.nil)
        ·
          go_simp
          obtain ⟨u14, hu14⟩ : ∃ x, x = u13.alloc (.cells #[] 58) := ⟨_, rfl⟩
          have hzu14 : u13.heap.size < u14.heap.size := by rw [hu14]; simp
          have HAu14 : Hid (Below u13.heap.size u13 u14) := by show Below _ _ _; rw [hu14]; exact (Below.refl _ _).alloc (Nat.le_refl _) _
          have HBu14 := Lib.hid (HBu13.out.trans (HAu14.out.mono HBu13.out.size))
          have HPu14 := Lib.hid (HPu13.out.on HAu14.out)
          have HZu14 := Lib.hid (HZu13.out.keep HAu14.out (HZu13.out.lt))
          obtain ⟨g0, hg0⟩ : ∃ x, x = u13.heap.size := ⟨_, rfl⟩
          have HOu14 : Hid (OwnRow recK u14 W0.heap.size (.slice (some ⟨g0, 0, none⟩) 0 0) []) := by show OwnRow _ _ _ _ _; rw [hu14, hg0]; exact ownRow_lit recK_ok u13 _ [] HBu13.out.size (by simp) _ rfl 0 rfl
          obtain ⟨v0, hv0⟩ : ∃ x : Value, x = .slice (some ⟨g0, 0, none⟩) 0 0 := ⟨_, rfl⟩
          have hzl := HZu13.out.lt
          have HOBu14 : Hid (∀ k, v0.ownBlock = some k → k < u14.heap.size ∧ k ≠ gz) := by
            intro k hk
            rw [hv0] at hk
            have hk : g0 = k := Option.some.inj hk
            omega
          rw [← hv0] at HOu14
          rw [← hu14, ← hg0, ← hv0]
          clear hu14 hg0 hv0
          have hHeld : (fun W => (Below W0.heap.size W0 W ∧ W.cell? ⟨w.heap.size, 6, none⟩ = some (.slice ad len cap)) ∧ (convert 34 9 vz).run Try.prog W = .ok (.string sk) W) u14 := ⟨⟨HBu14.out, HPu14.out.bx.c6⟩, conv_zero HZu14.out HSK.out HVZ.out⟩
          refine hC.out _ _ (fun _ => hHeld) (fun _ => ?_)
          clear hC C
          (try simp only [Act.put, List.setIfInBounds_toArray, List.set_cons_zero, List.set_cons_succ])
          refine wpAnyZ_ready (rs := [3, 10]) (by kernel_rfl) (by simp) ?_
          refine AllReadyZ.cons (o := ⟨_, _, _, _, _, _⟩) rfl (fun C hC => ?_) (AllReadyZ.cons (o := ⟨_, _, _, _, _, _⟩) rfl (fun C hC => ?_) AllReadyZ.nil)
          ·
            refine held_row (by rfl) recK_ok (.tmp 70) (.tmp 72) rfl W0.heap.size [] l v0 rfl HOu14.out HBu14.out.size ad len cap rfl (recsAt_row.1 (HR0.out.keep HBu14.out)) (by simp; omega) ?_
            rintro v1 u15 hap
            have hap : Appended recK u14 W0.heap.size v0 l v1 u15 := hap
            have hzu15 := hap.2.1.size
            have HBu15 : Hid (Below W0.heap.size W0 u15) := HBu14.out.grown hap.2.1 HBu14.out.size fun k hk => ((HOu14.out.lt k hk).1)
            have HPu15 := Lib.hid (HPu14.out.grown hap.2.1 fun k hk => by have := (HOu14.out.lt k hk).1; have := HS0.out; omega)
            have HOu15 := Lib.hid hap.1
            have HZu15 : Hid (Own u15 gz (List.replicate kk 0)) := by
              show Own _ _ _
              unfold Own
              rw [hap.2.1.block gz (HZu14.out.lt) (fun e => (HOBu14.out gz e.symm).2 rfl)]
              exact HZu14.out
            have HOBu15 : Hid (∀ k, v1.ownBlock = some k → k < u15.heap.size ∧ k ≠ gz) := by
              intro k hk
              have h1 := (HOu15.out.lt k hk).2
              rcases hap.2.2.2 k hk with h2 | h2
              · have h3 := HOBu14.out k h2
                omega
              · have := HZu14.out.lt; omega
            clear hap
            have hHeld : (fun W => (Below W0.heap.size W0 W ∧ W.cell? ⟨w.heap.size, 6, none⟩ = some (.slice ad len cap)) ∧ (convert 34 9 vz).run Try.prog W = .ok (.string sk) W) u15 := ⟨⟨HBu15.out, HPu15.out.bx.c6⟩, conv_zero HZu15.out HSK.out HVZ.out⟩
            refine hC.out _ _ (fun _ => hHeld) (fun _ => ?_)
            clear hC C
            (try simp only [Act.put, List.setIfInBounds_toArray, List.set_cons_zero, List.set_cons_succ])
            refine wpAnyZ_ready (rs := [10]) (by kernel_rfl) (by simp) ?_
            refine AllReadyZ.cons (o := ⟨_, _, _, _, _, _⟩) rfl (fun C hC => ?_) AllReadyZ.nil
            go_simp
            obtain ⟨u16, hu16⟩ : ∃ x, x = u15.alloc (.cells #[.string ⟨#[]⟩, .string sk] 58) := ⟨_, rfl⟩
            have hzu16 : u15.heap.size < u16.heap.size := by rw [hu16]; simp
            have HAu16 : Hid (Below u15.heap.size u15 u16) := by show Below _ _ _; rw [hu16]; exact (Below.refl _ _).alloc (Nat.le_refl _) _
            have HBu16 := Lib.hid (HBu15.out.trans (HAu16.out.mono HBu15.out.size))
            have HPu16 := Lib.hid (HPu15.out.on HAu16.out)
            have HOu16 := Lib.hid (HOu15.out.on HAu16.out)
            have HZu16 := Lib.hid (HZu15.out.keep HAu16.out (HZu15.out.lt))
            obtain ⟨gl, hgl⟩ : ∃ x, x = u15.heap.size := ⟨_, rfl⟩
            have hzl := HZu15.out.lt
            have HLu16 : Hid (RowAt recK u16 (some ⟨gl, 0, none⟩) 1 1 [⟨⟨#[]⟩, sk⟩]) := by show RowAt _ _ _ _ _ _; rw [hu16, hgl]; exact rowAt_lit recK_ok u15 [⟨⟨#[]⟩, sk⟩] (by simp) _ rfl 1 rfl
            have HOBu16 : Hid (∀ k, v1.ownBlock = some k → k < u16.heap.size ∧ k ≠ gz ∧ k ≠ gl) := by
              intro k hk
              have h1 := HOBu15.out k hk
              omega
            have hgl2 : gl < u16.heap.size := by omega
            rw [← hu16, ← hgl]
            clear hu16 hgl
            have hHeld : (fun W => (Below W0.heap.size W0 W ∧ W.cell? ⟨w.heap.size, 6, none⟩ = some (.slice ad len cap)) ∧ (convert 34 9 vz).run Try.prog W = .ok (.string sk) W) u16 := ⟨⟨HBu16.out, HPu16.out.bx.c6⟩, conv_zero HZu16.out HSK.out HVZ.out⟩
            refine hC.out _ _ (fun _ => hHeld) (fun _ => ?_)
            clear hC C
            (try simp only [Act.put, List.setIfInBounds_toArray, List.set_cons_zero, List.set_cons_succ])
            refine wpAnyZ_ready (rs := [11]) (by kernel_rfl) (by simp) ?_
            refine AllReadyZ.cons (o := ⟨_, _, _, _, _, _⟩) rfl (fun C hC => ?_) AllReadyZ.nil
            refine held_row (by rfl) recK_ok (.tmp 73) (.tmp 80) rfl W0.heap.size l [⟨⟨#[]⟩, sk⟩] v1 rfl HOu16.out HBu16.out.size (some ⟨gl, 0, none⟩) 1 1 rfl HLu16.out (by have := HLL.out; omega) ?_
            rintro v2 u17 hap
            have hzu17 := hap.2.1.size
            have HBu17 : Hid (Below W0.heap.size W0 u17) := HBu16.out.grown hap.2.1 HBu16.out.size fun k hk => ((HOu16.out.lt k hk).1)
            have HPu17 := Lib.hid (HPu16.out.grown hap.2.1 fun k hk => by have := (HOu16.out.lt k hk).1; have := HS0.out; omega)
            have HOu17 := Lib.hid hap.1
            have HZu17 : Hid (Own u17 gz (List.replicate kk 0)) := by
              show Own _ _ _
              unfold Own
              rw [hap.2.1.block gz (HZu16.out.lt) (fun e => (HOBu16.out gz e.symm).2.1 rfl)]
              exact HZu16.out
            have HLu17 := Lib.hid (HLu16.out.grown hap.2.1 fun a ha e => by cases ha; exact (HOBu16.out gl e.symm).2.2 rfl)
            clear hap
            have hHeld : (fun W => (Below W0.heap.size W0 W ∧ W.cell? ⟨w.heap.size, 6, none⟩ = some (.slice ad len cap)) ∧ (convert 34 9 vz).run Try.prog W = .ok (.string sk) W) u17 := ⟨⟨HBu17.out, HPu17.out.bx.c6⟩, conv_zero HZu17.out HSK.out HVZ.out⟩
            refine hC.out _ _ (fun _ => hHeld) (fun _ => ?_)
            clear hC C
            (try simp only [Act.put, List.setIfInBounds_toArray, List.set_cons_zero, List.set_cons_succ])
            obtain ⟨ad2, cap2, hv2, _, _⟩ := HOu17.out.at recK_ok
            obtain ⟨n2, hn2⟩ : ∃ n2, (l ++ [(⟨⟨#[]⟩, sk⟩ : Rc)]).length = n2 := ⟨_, rfl⟩
            rw [hn2] at hv2
            subst hv2
            clear hn2
            refine wpAnyZ_take (i := 12) (oi := ⟨_, _, _, _, _, _⟩) (v := ?_) rfl (by kernel_rfl) (by kernel_rfl) (by kernel_rfl) (by kernel_rfl) (by kernel_rfl) (fun _ _ _ h => h) (Or.inl ⟨by rfl, ?_⟩) (by assumption) ?_
            rotate_left
            · intro W hSw
              (try dsimp only at hSw)
              go_simp
              (try with_reducible rfl)
            (try simp only [Act.put, List.setIfInBounds_toArray, List.set_cons_zero, List.set_cons_succ])
            have x0 := HPu17.out.bx.c6
            have x1 := HPu17.out.bx.free 6
            refine wpAnyZ_ready (rs := [13]) (by kernel_rfl) (by simp) ?_
            refine AllReadyZ.cons (o := ⟨_, _, _, _, _, _⟩) rfl (fun C hC => ?_) AllReadyZ.nil
            go_simp
            refine hC.out _ _ (zfree_no (by kernel_rfl)) (fun _ => ?_)
            clear hC C
            (try simp only [Act.put, List.setIfInBounds_toArray, List.set_cons_zero, List.set_cons_succ])
            refine wpAnyZ_done (by kernel_rfl) ?_ _
            refine NoPanic.normal ?_
            go_wp2
            go_meet
            case rel => exact odd_post (HPu17.out.s6 (.slice ad2 n2 cap2)) ((HOu17.out).grown (grow_set (grow_refl _ _) 6 (.slice ad2 n2 cap2)) fun k hk e => by cases e; have := ((HOu17.out).lt _ hk).1; have := HS0.out; omega) HS0.out (texts_snoc HT.out (by decide) (by rw [HSK.out, str_size]; simp; omega)) (by have := HLL.out; simp; omega) ⟨hw0, hw1, hw2, hw3, hw5⟩
          ·
            go_simp
            obtain ⟨u18, hu18⟩ : ∃ x, x = u14.alloc (.cells #[.string ⟨#[]⟩, .string sk] 58) := ⟨_, rfl⟩
            have hzu18 : u14.heap.size < u18.heap.size := by rw [hu18]; simp
            have HAu18 : Hid (Below u14.heap.size u14 u18) := by show Below _ _ _; rw [hu18]; exact (Below.refl _ _).alloc (Nat.le_refl _) _
            have HBu18 := Lib.hid (HBu14.out.trans (HAu18.out.mono HBu14.out.size))
            have HPu18 := Lib.hid (HPu14.out.on HAu18.out)
            have HOu18 := Lib.hid (HOu14.out.on HAu18.out)
            have HZu18 := Lib.hid (HZu14.out.keep HAu18.out (HZu14.out.lt))
            obtain ⟨gl, hgl⟩ : ∃ x, x = u14.heap.size := ⟨_, rfl⟩
            have hzl := HZu14.out.lt
            have HLu18 : Hid (RowAt recK u18 (some ⟨gl, 0, none⟩) 1 1 [⟨⟨#[]⟩, sk⟩]) := by show RowAt _ _ _ _ _ _; rw [hu18, hgl]; exact rowAt_lit recK_ok u14 [⟨⟨#[]⟩, sk⟩] (by simp) _ rfl 1 rfl
            have HOBu18 : Hid (∀ k, v0.ownBlock = some k → k < u18.heap.size ∧ k ≠ gz ∧ k ≠ gl) := by
              intro k hk
              have h1 := HOBu14.out k hk
              omega
            have hgl2 : gl < u18.heap.size := by omega
            rw [← hu18, ← hgl]
            clear hu18 hgl
            have hHeld : (fun W => (Below W0.heap.size W0 W ∧ W.cell? ⟨w.heap.size, 6, none⟩ = some (.slice ad len cap)) ∧ (convert 34 9 vz).run Try.prog W = .ok (.string sk) W) u18 := ⟨⟨HBu18.out, HPu18.out.bx.c6⟩, conv_zero HZu18.out HSK.out HVZ.out⟩
            refine hC.out _ _ (fun _ => hHeld) (fun _ => ?_)
            clear hC C
            (try simp only [Act.put, List.setIfInBounds_toArray, List.set_cons_zero, List.set_cons_succ])
            refine wpAnyZ_ready (rs := [3]) (by kernel_rfl) (by simp) ?_
            refine AllReadyZ.cons (o := ⟨_, _, _, _, _, _⟩) rfl (fun C hC => ?_) AllReadyZ.nil
            refine held_row (by rfl) recK_ok (.tmp 70) (.tmp 72) rfl W0.heap.size [] l v0 rfl HOu18.out HBu18.out.size ad len cap rfl (recsAt_row.1 (HR0.out.keep HBu18.out)) (by simp; omega) ?_
            rintro v1 u19 hap
            have hap : Appended recK u18 W0.heap.size v0 l v1 u19 := hap
            have hzu19 := hap.2.1.size
            have HBu19 : Hid (Below W0.heap.size W0 u19) := HBu18.out.grown hap.2.1 HBu18.out.size fun k hk => ((HOu18.out.lt k hk).1)
            have HPu19 := Lib.hid (HPu18.out.grown hap.2.1 fun k hk => by have := (HOu18.out.lt k hk).1; have := HS0.out; omega)
            have HOu19 := Lib.hid hap.1
            have HZu19 : Hid (Own u19 gz (List.replicate kk 0)) := by
              show Own _ _ _
              unfold Own
              rw [hap.2.1.block gz (HZu18.out.lt) (fun e => (HOBu18.out gz e.symm).2.1 rfl)]
              exact HZu18.out
            have HLu19 := Lib.hid (HLu18.out.grown hap.2.1 fun a ha e => by cases ha; exact (HOBu18.out gl e.symm).2.2 rfl)
            have HOBu19 : Hid (∀ k, v1.ownBlock = some k → k < u19.heap.size ∧ k ≠ gz ∧ k ≠ gl) := by
              intro k hk
              have h1 := (HOu19.out.lt k hk).2
              rcases hap.2.2.2 k hk with h2 | h2
              · have h3 := HOBu18.out k h2
                omega
              · have := HZu18.out.lt; omega
            clear hap
            have hHeld : (fun W => (Below W0.heap.size W0 W ∧ W.cell? ⟨w.heap.size, 6, none⟩ = some (.slice ad len cap)) ∧ (convert 34 9 vz).run Try.prog W = .ok (.string sk) W) u19 := ⟨⟨HBu19.out, HPu19.out.bx.c6⟩, conv_zero HZu19.out HSK.out HVZ.out⟩
            refine hC.out _ _ (fun _ => hHeld) (fun _ => ?_)
            clear hC C
            (try simp only [Act.put, List.setIfInBounds_toArray, List.set_cons_zero, List.set_cons_succ])
            refine wpAnyZ_ready (rs := [11]) (by kernel_rfl) (by simp) ?_
            refine AllReadyZ.cons (o := ⟨_, _, _, _, _, _⟩) rfl (fun C hC => ?_) AllReadyZ.nil
            refine held_row (by rfl) recK_ok (.tmp 73) (.tmp 80) rfl W0.heap.size l [⟨⟨#[]⟩, sk⟩] v1 rfl HOu19.out HBu19.out.size (some ⟨gl, 0, none⟩) 1 1 rfl HLu19.out (by have := HLL.out; omega) ?_
            rintro v2 u20 hap
            have hzu20 := hap.2.1.size
            have HBu20 : Hid (Below W0.heap.size W0 u20) := HBu19.out.grown hap.2.1 HBu19.out.size fun k hk => ((HOu19.out.lt k hk).1)
            have HPu20 := Lib.hid (HPu19.out.grown hap.2.1 fun k hk => by have := (HOu19.out.lt k hk).1; have := HS0.out; omega)
            have HOu20 := Lib.hid hap.1
            have HZu20 : Hid (Own u20 gz (List.replicate kk 0)) := by
              show Own _ _ _
              unfold Own
              rw [hap.2.1.block gz (HZu19.out.lt) (fun e => (HOBu19.out gz e.symm).2.1 rfl)]
              exact HZu19.out
            have HLu20 := Lib.hid (HLu19.out.grown hap.2.1 fun a ha e => by cases ha; exact (HOBu19.out gl e.symm).2.2 rfl)
            clear hap
            have hHeld : (fun W => (Below W0.heap.size W0 W ∧ W.cell? ⟨w.heap.size, 6, none⟩ = some (.slice ad len cap)) ∧ (convert 34 9 vz).run Try.prog W = .ok (.string sk) W) u20 := ⟨⟨HBu20.out, HPu20.out.bx.c6⟩, conv_zero HZu20.out HSK.out HVZ.out⟩
            refine hC.out _ _ (fun _ => hHeld) (fun _ => ?_)
            clear hC C
            (try simp only [Act.put, List.setIfInBounds_toArray, List.set_cons_zero, List.set_cons_succ])
            obtain ⟨ad2, cap2, hv2, _, _⟩ := HOu20.out.at recK_ok
            obtain ⟨n2, hn2⟩ : ∃ n2, (l ++ [(⟨⟨#[]⟩, sk⟩ : Rc)]).length = n2 := ⟨_, rfl⟩
            rw [hn2] at hv2
            subst hv2
            clear hn2
            refine wpAnyZ_take (i := 12) (oi := ⟨_, _, _, _, _, _⟩) (v := ?_) rfl (by kernel_rfl) (by kernel_rfl) (by kernel_rfl) (by kernel_rfl) (by kernel_rfl) (fun _ _ _ h => h) (Or.inl ⟨by rfl, ?_⟩) (by assumption) ?_
            rotate_left
            · intro W hSw
              (try dsimp only at hSw)
              go_simp
              (try with_reducible rfl)
            (try simp only [Act.put, List.setIfInBounds_toArray, List.set_cons_zero, List.set_cons_succ])
            have x0 := HPu20.out.bx.c6
            have x1 := HPu20.out.bx.free 6
            refine wpAnyZ_ready (rs := [13]) (by kernel_rfl) (by simp) ?_
            refine AllReadyZ.cons (o := ⟨_, _, _, _, _, _⟩) rfl (fun C hC => ?_) AllReadyZ.nil
            go_simp
            refine hC.out _ _ (zfree_no (by kernel_rfl)) (fun _ => ?_)
            clear hC C
            (try simp only [Act.put, List.setIfInBounds_toArray, List.set_cons_zero, List.set_cons_succ])
            refine wpAnyZ_done (by kernel_rfl) ?_ _
            refine NoPanic.normal ?_
            go_wp2
            go_meet
            case rel => exact odd_post (HPu20.out.s6 (.slice ad2 n2 cap2)) ((HOu20.out).grown (grow_set (grow_refl _ _) 6 (.slice ad2 n2 cap2)) fun k hk e => by cases e; have := ((HOu20.out).lt _ hk).1; have := HS0.out; omega) HS0.out (texts_snoc HT.out (by decide) (by rw [HSK.out, str_size]; simp; omega)) (by have := HLL.out; simp; omega) ⟨hw0, hw1, hw2, hw3, hw5⟩
        ·
          go_simp
          obtain ⟨u21, hu21⟩ : ∃ x, x = u13.alloc (.cells #[.string ⟨#[]⟩, .string sk] 58) := ⟨_, rfl⟩
          have hzu21 : u13.heap.size < u21.heap.size := by rw [hu21]; simp
          have HAu21 : Hid (Below u13.heap.size u13 u21) := by show Below _ _ _; rw [hu21]; exact (Below.refl _ _).alloc (Nat.le_refl _) _
          have HBu21 := Lib.hid (HBu13.out.trans (HAu21.out.mono HBu13.out.size))
          have HPu21 := Lib.hid (HPu13.out.on HAu21.out)
          have HZu21 := Lib.hid (HZu13.out.keep HAu21.out (HZu13.out.lt))
          obtain ⟨gl, hgl⟩ : ∃ x, x = u13.heap.size := ⟨_, rfl⟩
          have hzl := HZu13.out.lt
          have HLu21 : Hid (RowAt recK u21 (some ⟨gl, 0, none⟩) 1 1 [⟨⟨#[]⟩, sk⟩]) := by show RowAt _ _ _ _ _ _; rw [hu21, hgl]; exact rowAt_lit recK_ok u13 [⟨⟨#[]⟩, sk⟩] (by simp) _ rfl 1 rfl
          have hgl2 : gl < u21.heap.size := by omega
          rw [← hu21, ← hgl]
          clear hu21 hgl
          have hHeld : (fun W => (Below W0.heap.size W0 W ∧ W.cell? ⟨w.heap.size, 6, none⟩ = some (.slice ad len cap)) ∧ (convert 34 9 vz).run Try.prog W = .ok (.string sk) W) u21 := ⟨⟨HBu21.out, HPu21.out.bx.c6⟩, conv_zero HZu21.out HSK.out HVZ.out⟩
          refine hC.out _ _ (fun _ => hHeld) (fun _ => ?_)
          clear hC C
          (try simp only [Act.put, List.setIfInBounds_toArray, List.set_cons_zero, List.set_cons_succ])
          refine wpAnyZ_ready (rs := [0]) (by kernel_rfl) (by simp) ?_
          refine AllReadyZ.cons (o := ⟨_, _, _, _, _, _⟩) rfl (fun C hC => ?_) AllReadyZ.nil
          go_simp
          obtain ⟨u22, hu22⟩ : ∃ x, x = u21.alloc (.cells #[] 58) := ⟨_, rfl⟩
          have hzu22 : u21.heap.size < u22.heap.size := by rw [hu22]; simp
          have HAu22 : Hid (Below u21.heap.size u21 u22) := by show Below _ _ _; rw [hu22]; exact (Below.refl _ _).alloc (Nat.le_refl _) _
          have HBu22 := Lib.hid (HBu21.out.trans (HAu22.out.mono HBu21.out.size))
          have HPu22 := Lib.hid (HPu21.out.on HAu22.out)
          have HZu22 := Lib.hid (HZu21.out.keep HAu22.out (HZu21.out.lt))
          have HLu22 := Lib.hid (HLu21.out.keep HAu22.out)
          obtain ⟨g0, hg0⟩ : ∃ x, x = u21.heap.size := ⟨_, rfl⟩
          have HOu22 : Hid (OwnRow recK u22 W0.heap.size (.slice (some ⟨g0, 0, none⟩) 0 0) []) := by show OwnRow _ _ _ _ _; rw [hu22, hg0]; exact ownRow_lit recK_ok u21 _ [] HBu21.out.size (by simp) _ rfl 0 rfl
          obtain ⟨v0, hv0⟩ : ∃ x : Value, x = .slice (some ⟨g0, 0, none⟩) 0 0 := ⟨_, rfl⟩
          have hzl := HZu21.out.lt
          have HOBu22 : Hid (∀ k, v0.ownBlock = some k → k < u22.heap.size ∧ k ≠ gz ∧ k ≠ gl) := by
            intro k hk
            rw [hv0] at hk
            have hk : g0 = k := Option.some.inj hk
            omega
          rw [← hv0] at HOu22
          rw [← hu22, ← hg0, ← hv0]
          clear hu22 hg0 hv0
          have hHeld : (fun W => (Below W0.heap.size W0 W ∧ W.cell? ⟨w.heap.size, 6, none⟩ = some (.slice ad len cap)) ∧ (convert 34 9 vz).run Try.prog W = .ok (.string sk) W) u22 := ⟨⟨HBu22.out, HPu22.out.bx.c6⟩, conv_zero HZu22.out HSK.out HVZ.out⟩
          refine hC.out _ _ (fun _ => hHeld) (fun _ => ?_)
          clear hC C
          (try simp only [Act.put, List.setIfInBounds_toArray, List.set_cons_zero, List.set_cons_succ])
          refine wpAnyZ_ready (rs := [3]) (by kernel_rfl) (by simp) ?_
          refine AllReadyZ.cons (o := ⟨_, _, _, _, _, _⟩) rfl (fun C hC => ?_) AllReadyZ.nil
          refine held_row (by rfl) recK_ok (.tmp 70) (.tmp 72) rfl W0.heap.size [] l v0 rfl HOu22.out HBu22.out.size ad len cap rfl (recsAt_row.1 (HR0.out.keep HBu22.out)) (by simp; omega) ?_
          rintro v1 u23 hap
          have hap : Appended recK u22 W0.heap.size v0 l v1 u23 := hap
          have hzu23 := hap.2.1.size
          have HBu23 : Hid (Below W0.heap.size W0 u23) := HBu22.out.grown hap.2.1 HBu22.out.size fun k hk => ((HOu22.out.lt k hk).1)
          have HPu23 := Lib.hid (HPu22.out.grown hap.2.1 fun k hk => by have := (HOu22.out.lt k hk).1; have := HS0.out; omega)
          have HOu23 := Lib.hid hap.1
          have HZu23 : Hid (Own u23 gz (List.replicate kk 0)) := by
            show Own _ _ _
            unfold Own
            rw [hap.2.1.block gz (HZu22.out.lt) (fun e => (HOBu22.out gz e.symm).2.1 rfl)]
            exact HZu22.out
          have HLu23 := Lib.hid (HLu22.out.grown hap.2.1 fun a ha e => by cases ha; exact (HOBu22.out gl e.symm).2.2 rfl)
          have HOBu23 : Hid (∀ k, v1.ownBlock = some k → k < u23.heap.size ∧ k ≠ gz ∧ k ≠ gl) := by
            intro k hk
            have h1 := (HOu23.out.lt k hk).2
            rcases hap.2.2.2 k hk with h2 | h2
            · have h3 := HOBu22.out k h2
              omega
            · have := HZu22.out.lt; omega
          clear hap
          have hHeld : (fun W => (Below W0.heap.size W0 W ∧ W.cell? ⟨w.heap.size, 6, none⟩ = some (.slice ad len cap)) ∧ (convert 34 9 vz).run Try.prog W = .ok (.string sk) W) u23 := ⟨⟨HBu23.out, HPu23.out.bx.c6⟩, conv_zero HZu23.out HSK.out HVZ.out⟩
          refine hC.out _ _ (fun _ => hHeld) (fun _ => ?_)
          clear hC C
          (try simp only [Act.put, List.setIfInBounds_toArray, List.set_cons_zero, List.set_cons_succ])
          refine wpAnyZ_ready (rs := [11]) (by kernel_rfl) (by simp) ?_
          refine AllReadyZ.cons (o := ⟨_, _, _, _, _, _⟩) rfl (fun C hC => ?_) AllReadyZ.nil
          refine held_row (by rfl) recK_ok (.tmp 73) (.tmp 80) rfl W0.heap.size l [⟨⟨#[]⟩, sk⟩] v1 rfl HOu23.out HBu23.out.size (some ⟨gl, 0, none⟩) 1 1 rfl HLu23.out (by have := HLL.out; omega) ?_
          rintro v2 u24 hap
          have hzu24 := hap.2.1.size
          have HBu24 : Hid (Below W0.heap.size W0 u24) := HBu23.out.grown hap.2.1 HBu23.out.size fun k hk => ((HOu23.out.lt k hk).1)
          have HPu24 := Lib.hid (HPu23.out.grown hap.2.1 fun k hk => by have := (HOu23.out.lt k hk).1; have := HS0.out; omega)
          have HOu24 := Lib.hid hap.1
          have HZu24 : Hid (Own u24 gz (List.replicate kk 0)) := by
            show Own _ _ _
            unfold Own
            rw [hap.2.1.block gz (HZu23.out.lt) (fun e => (HOBu23.out gz e.symm).2.1 rfl)]
            exact HZu23.out
          have HLu24 := Lib.hid (HLu23.out.grown hap.2.1 fun a ha e => by cases ha; exact (HOBu23.out gl e.symm).2.2 rfl)
          clear hap
          have hHeld : (fun W => (Below W0.heap.size W0 W ∧ W.cell? ⟨w.heap.size, 6, none⟩ = some (.slice ad len cap)) ∧ (convert 34 9 vz).run Try.prog W = .ok (.string sk) W) u24 := ⟨⟨HBu24.out, HPu24.out.bx.c6⟩, conv_zero HZu24.out HSK.out HVZ.out⟩
          refine hC.out _ _ (fun _ => hHeld) (fun _ => ?_)
          clear hC C
          (try simp only [Act.put, List.setIfInBounds_toArray, List.set_cons_zero, List.set_cons_succ])
          obtain ⟨ad2, cap2, hv2, _, _⟩ := HOu24.out.at recK_ok
          obtain ⟨n2, hn2⟩ : ∃ n2, (l ++ [(⟨⟨#[]⟩, sk⟩ : Rc)]).length = n2 := ⟨_, rfl⟩
          rw [hn2] at hv2
          subst hv2
          clear hn2
          refine wpAnyZ_take (i := 12) (oi := ⟨_, _, _, _, _, _⟩) (v := ?_) rfl (by kernel_rfl) (by kernel_rfl) (by kernel_rfl) (by kernel_rfl) (by kernel_rfl) (fun _ _ _ h => h) (Or.inl ⟨by rfl, ?_⟩) (by assumption) ?_
          rotate_left
          · intro W hSw
            (try dsimp only at hSw)
            go_simp
            (try with_reducible rfl)
          (try simp only [Act.put, List.setIfInBounds_toArray, List.set_cons_zero, List.set_cons_succ])
          have x0 := HPu24.out.bx.c6
          have x1 := HPu24.out.bx.free 6
          refine wpAnyZ_ready (rs := [13]) (by kernel_rfl) (by simp) ?_
          refine AllReadyZ.cons (o := ⟨_, _, _, _, _, _⟩) rfl (fun C hC => ?_) AllReadyZ.nil
          go_simp
          refine hC.out _ _ (zfree_no (by kernel_rfl)) (fun _ => ?_)
          clear hC C
          (try simp only [Act.put, List.setIfInBounds_toArray, List.set_cons_zero, List.set_cons_succ])
          refine wpAnyZ_done (by kernel_rfl) ?_ _
          refine NoPanic.normal ?_
          go_wp2
          go_meet
          case rel => exact odd_post (HPu24.out.s6 (.slice ad2 n2 cap2)) ((HOu24.out).grown (grow_set (grow_refl _ _) 6 (.slice ad2 n2 cap2)) fun k hk e => by cases e; have := ((HOu24.out).lt _ hk).1; have := HS0.out; omega) HS0.out (texts_snoc HT.out (by decide) (by rw [HSK.out, str_size]; simp; omega)) (by have := HLL.out; simp; omega) ⟨hw0, hw1, hw2, hw3, hw5⟩

    · have HLL : Hid (l.length = len) := HR0.out.length
      go_wp2_with fail
      go_loopw [] (fun wr => OddLoop w b0 b1 b2 b3 b4 b5 len wr) (fun wr => 17 - recsLen wr w.heap.size)
      case atStart => exact ⟨l, ad, len, cap, HP0.out, recsAt_row.1 HR0.out, HT.out, by omega, or_and_ne HNE1.out HNE2.out⟩
      case round =>
        obtain ⟨l', ad', n', cap', hp', hr', ht', hn', hk'⟩ := hrel
        have HP' := Lib.hid hp'
        have HR' := Lib.hid hr'
        have HT' := Lib.hid ht'
        have HK' := Lib.hid hk'
        have hnl := hr'.length
        have HNL := Lib.hid hnl
        clear hp' hr' ht' hk' hnl
        have p6 := HP'.out.bx.c6
        by_cases hlt : n' < 16 + m
        · have hm64 : IntKind.i64.wrap (16 + (m : Int)) = 16 + (m : Int) := by rw [IntKind.wrap_i64]; omega
          have hdec : decide ((n' : Int) < 16 + (m : Int)) = true := decide_eq_true (by omega)
          have HB1 : Hid (Below wr.heap.size wr (wr.alloc (.cells #[] 58))) := (Below.refl _ _).alloc (Nat.le_refl _) _
          have HO1 : Hid (OwnRow recK (wr.alloc (.cells #[] 58)) wr.heap.size (.slice (some ⟨wr.heap.size, 0, none⟩) 0 0) []) := ownRow_lit recK_ok wr _ [] (Nat.le_refl _) (by simp) _ rfl 0 rfl
          have HR1 := Lib.hid (HR'.out.keep HB1.out)
          have HP1 := Lib.hid (HP'.out.on HB1.out)
          have hw2 := HP'.out.rs.lt
          have p6b := HP1.out.bx.c6
          have hlt17 : n' < 17 := by omega
          clear hlt
          go_wp2_with (at_builtin; refine list_row (by rfl) recK_ok (.tmp 16) (.tmp 18) rfl wr.heap.size [] l' _ rfl HO1.out HB1.out.size ad' n' cap' rfl HR1.out (by simp; omega) ?_)
          rintro v1 w1 hap
          have hap : Appended recK _ wr.heap.size _ l' v1 w1 := hap
          have HB2 : Hid (Below wr.heap.size wr w1) := HB1.out.grown hap.2.1 HB1.out.size fun k hk => by cases hk; exact Nat.le_refl _
          have HO2 := Lib.hid hap.1
          have HB3 : Hid (Below w1.heap.size w1 (w1.alloc (.cells #[.string ⟨#[]⟩, .string ⟨#[]⟩] 58))) := (Below.refl _ _).alloc (Nat.le_refl _) _
          have HL3 : Hid (RowAt recK (w1.alloc (.cells #[.string ⟨#[]⟩, .string ⟨#[]⟩] 58)) (some ⟨w1.heap.size, 0, none⟩) 1 1 [⟨⟨#[]⟩, ⟨#[]⟩⟩]) := rowAt_lit recK_ok w1 [⟨⟨#[]⟩, ⟨#[]⟩⟩] (by simp) _ rfl 1 rfl
          have HO3 := Lib.hid (HO2.out.on HB3.out)
          have HB4 := Lib.hid (HB2.out.trans (HB3.out.mono HB2.out.size))
          clear hap
          go_wp2_with (at_builtin; refine list_row (by rfl) recK_ok (.tmp 19) (.tmp 21) rfl wr.heap.size l' [⟨⟨#[]⟩, ⟨#[]⟩⟩] _ rfl HO3.out HB4.out.size _ 1 1 rfl HL3.out (by have := HNL.out; omega) ?_)
          rintro v2 w2 hap
          have HB5 : Hid (Below wr.heap.size wr w2) := HB4.out.grown hap.2.1 HB4.out.size fun k hk => (HO3.out.lt k hk).1
          have HO5 := Lib.hid hap.1
          have HP5 := Lib.hid (HP'.out.on HB5.out)
          obtain ⟨ad2, cap2, hv2, _, _⟩ := HO5.out.at recK_ok
          obtain ⟨n2, hn2⟩ : ∃ n2, (l' ++ [(⟨⟨#[]⟩, ⟨#[]⟩⟩ : Rc)]).length = n2 := ⟨_, rfl⟩
          rw [hn2] at hv2
          subst hv2
          clear hn2
          clear hap p6 p6b
          have x0 := HP5.out.bx.c6
          have x1 := HP5.out.bx.free 6
          go_wp2
          go_roundw
          case rel => exact oddLoop_next (HP5.out.s6 (.slice ad2 n2 cap2)) ((HO5.out).grown (grow_set (grow_refl _ _) 6 (.slice ad2 n2 cap2)) fun k hk e => by cases e; have := ((HO5.out).lt _ hk).1; omega) hw2 (texts_snoc HT'.out (by decide) (by decide)) (by have := HNL.out; simp; omega)
          case measure => exact recsLen_less HP'.out.bx.c6 (HP5.out.s6 (.slice ad2 n2 cap2)).bx.c6 HO5.out (by have := HNL.out; simp; omega) (by omega)
        · have hm64 : IntKind.i64.wrap (16 + (m : Int)) = 16 + (m : Int) := by rw [IntKind.wrap_i64]; omega
          have hdec : decide ((n' : Int) < 16 + (m : Int)) = false := decide_eq_false (by omega)
          go_wp2
          go_meet
          case rel => exact ⟨b0, b1, b2, b3, b4, b5, l', ad', n', cap', HP'.out, recsAt_row.2 HR'.out, HT'.out, (by show n' ≤ _; omega), HK'.out.imp id fun h a ha => (h a ha).2, ⟨hw0, hw1, hw2, hw3, hw5⟩⟩
  case rest =>
    obtain ⟨c0, c1, c2, c3, c4, c5, l', ad', n', cap', HP, HR, HT', HN', HK', HW'⟩ := hcut
    have p0 := HP.out.bx.c0
    have p1 := HP.out.bx.c1
    have p2 := HP.out.bx.c2
    have p3 := HP.out.bx.c3
    have p4 := HP.out.bx.c4
    have p5 := HP.out.bx.c5
    have p6 := HP.out.bx.c6
    have r0 := HP.out.rs.c0
    have r1 := HP.out.rs.c1
    have r2 := HP.out.rs.c2
    have r3 := HP.out.rs.c3
    have r4 := HP.out.rs.c4
    have r5 := HP.out.rs.c5
    have r6 := HP.out.rs.c6
    have q0 := HP.out.rs.free 0
    have q1 := HP.out.rs.free 1
    have q2 := HP.out.rs.free 2
    have q3 := HP.out.rs.free 3
    have q4 := HP.out.rs.free 4
    have q5 := HP.out.rs.free 5
    have q6 := HP.out.rs.free 6
    go_wp2
    exact bodyPost_ret (resultsOdd (((((((HP.out.rs.s0 c0).s1 c1).s2 c2).s3 c3).s4 c4).s5 c5).s6 (.slice ad' n' cap')) rfl) rfl (gives_odd HP.out HR.out HT'.out HN'.out HK'.out HW'.out)
end Go.Proofs.Ytlpmfhccfihnfaa
