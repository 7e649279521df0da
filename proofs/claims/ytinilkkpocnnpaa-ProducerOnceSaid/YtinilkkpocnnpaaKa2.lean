/- Parts of a proof, merged: BatCodeA, CrcUnseal, BatRead, BatCodeB, Within, Tape, TapeBatch, BatLaw1, ProdMem, RegionZ, ProdDup, ProdCheck, SeqAdd, SeqLast, SeqGap, SeqFollows, PrSmall. -/
import Derived.Deep.RegionHeld3
import Derived.Deep.RegionWith
import Derived.BigQuiet
import Derived.Deep.CutRange
import Derived.Deep.CutBlock
import Derived.WalkKit
import Derived.IntWalk
import Derived.Lib.Hide
import Derived.Outline
import Derived.Laws.StructEq
import Derived.Test.YtinilkkpocnnpaaKa1
/-! The code's own batch, chapter 6: offset, unowned, owned, rightMarker, rightData: which errors a batch has. -/
namespace Go.Proofs.Ytinilkkpocnnpaa
open Go.RowKit
open Go.SeqMath
open Go.BatMath
set_option linter.unusedVariables false

end Go.Proofs.Ytinilkkpocnnpaa

/-! The code's own batch, chapter 6: rightData: which errors data have. -/
namespace Go.Proofs.Ytinilkkpocnnpaa
open Go.RowKit
open Go.SeqMath
open Go.BatMath
set_option linter.unusedVariables false

end Go.Proofs.Ytinilkkpocnnpaa

/-! The code's own batch, chapter 6: split, record, length, kind, Count. -/
namespace Go.Proofs.Ytinilkkpocnnpaa
open Go.RowKit
open Go.SeqMath
open Go.BatMath hiding AllB getD_lt take_all
open Go.VarMath (longB textB beB length_beB beB_take)
set_option linter.unusedVariables false

/-- What stands before round i of split's loop. -/
def SplitAt (w : World) (K u i : Nat) (wr : World) : Prop := Own wr w.heap.size ((beB K u).take i ++ List.replicate (K - i) 0) ∧ Below w.heap.size w wr
theorem SplitAt.free {w wr : World} {K u i : Nat} (h : SplitAt w K u i wr) (j : Nat) : wr.frozen? ⟨w.heap.size, j, none⟩ = false := h.1.free j
theorem SplitAt.cell {w wr : World} {K u i : Nat} (h : SplitAt w K u i wr) (hi : i < K) : ∃ x, wr.cell? ⟨w.heap.size, i, none⟩ = some x := ⟨_, h.1.cell i (by simp [length_beB]; omega)⟩
theorem SplitAt.next {w wr : World} {K u i z : Nat} (h : SplitAt w K u i wr) (hi : i < K) (hz : z = u / 256 ^ (K - 1 - i) % 256) : SplitAt w K u (i + 1) (wr.setCell ⟨w.heap.size, i, none⟩ (.int .u8 (z : Int))) := by
  refine ⟨?_, h.2.setCell (Nat.le_refl _) _⟩
  have hs := h.1.set i z
  have e : ((beB K u).take i ++ List.replicate (K - i) 0).set i z = (beB K u).take (i + 1) ++ List.replicate (K - (i + 1)) 0 := by
    rw [beB_take i K u hi, ← hz]
    have hl : ((beB K u).take i).length = i := by rw [List.length_take, length_beB]; omega
    obtain ⟨m, hm⟩ : ∃ m, K - i = m + 1 := ⟨K - i - 1, by omega⟩
    rw [hm, show K - (i + 1) = m by omega, List.set_append_right _ _ (by omega), hl, Nat.sub_self, List.replicate_succ, List.set_cons_zero, List.append_assoc]
    rfl
  rw [e] at hs
  exact hs
theorem batCount_any (w : World) (b0 b1 b2 b3 : Int) (b4 : Bool) (b5 : Int) (ad : Option Addr) (len cap : Nat) (n : Int) (hn : (if b5 ≠ 0 then 1 else (len : Int)) = n) :
    Calls Try.prog 55 #[.agg #[.int .i64 b0, .int .i64 b1, .int .i64 b2, .int .i64 b3, .bool b4, .int .i64 b5, .slice ad len cap]] w (Says n w) := by
  by_cases h : b5 = 0
  · subst h
    obtain rfl : (len : Int) = n := by rw [← hn, if_neg (by decide)]
    clear hn
    go_enter Try.func55, Try.ntmps55
    go_wp2
    go_ret
    exact says_mk rfl ((Below.refl _ _).alloc (Nat.le_refl _) _)
  · have h1 : (b5 != 0) = true := by simpa using h
    obtain rfl : 1 = n := by rw [← hn, if_pos h]
    clear hn
    go_enter Try.func55, Try.ntmps55
    go_wp2
    go_ret
    exact says_mk rfl ((Below.refl _ _).alloc (Nat.le_refl _) _)
end Go.Proofs.Ytinilkkpocnnpaa

/-! The code's own batch, chapter 6: Right, Size. -/
namespace Go.Proofs.Ytinilkkpocnnpaa
open Go.RowKit
open Go.SeqMath
open Go.BatMath hiding AllB getD_lt take_all
set_option linter.unusedVariables false

end Go.Proofs.Ytinilkkpocnnpaa

/-! The code's own batch, chapter 6: body: what stands under the sum of a batch that is right. -/
namespace Go.Proofs.Ytinilkkpocnnpaa
open Go.RowKit
open Go.SeqMath
open Go.BatMath hiding AllB getD_lt take_all
open Go.VarMath (longB textB beB length_beB)
set_option linter.unusedVariables false

end Go.Proofs.Ytinilkkpocnnpaa

/-! The code's own batch, chapter 6: Bytes. -/
namespace Go.Proofs.Ytinilkkpocnnpaa
open Go.RowKit
open Go.SeqMath
open Go.BatMath hiding AllB getD_lt take_all
open Go.VarMath (longB textB beB length_beB)
open Go.CrcMath (sealB)
set_option linter.unusedVariables false

end Go.Proofs.Ytinilkkpocnnpaa

/-! The code's own batch, chapter 6: Same. -/
namespace Go.Proofs.Ytinilkkpocnnpaa
open Go.RowKit
open Go.SeqMath
open Go.BatMath
set_option linter.unusedVariables false

end Go.Proofs.Ytinilkkpocnnpaa
namespace Go.Proofs.Ytinilkkpocnnpaa
open Go.RowKit
set_option linter.unusedVariables false

/-- 'Within' from 0 on gives a place up to the last one. -/
theorem within_in (n hi : Int) (w : World) (h0 : 0 ≤ n) (h1 : n ≤ hi) : Calls Try.prog 16 #[.int .i64 n, .int .i64 0, .int .i64 hi] w fun e w' => e = .returned (.int .i64 n) ∧ w = w' := by
  go_enter Try.func16, Try.ntmps16
  go_wp2
  go_ret
  exact ⟨rfl, rfl⟩
theorem as_nat {X hi : Int} {w : World} (h0 : 0 ≤ X) (h1 : X ≤ hi) : ∃ k : Nat, Ending.returned (.int .i64 X) = .returned (.int .i64 k) ∧ (k : Int) ≤ hi ∧ w = w :=
  ⟨X.toNat, by rw [Int.toNat_of_nonneg h0], by omega, rfl⟩
theorem within_any (n hi : Int) (w : World) (hn : -9223372036854775808 ≤ n ∧ n ≤ 9223372036854775807) (hh : 0 ≤ hi ∧ hi ≤ 281474976710656) :
    Calls Try.prog 16 #[.int .i64 n, .int .i64 0, .int .i64 hi] w fun e w' => ∃ k : Nat, e = .returned (.int .i64 k) ∧ (k : Int) ≤ hi ∧ w = w' := by
  by_cases h : 0 ≤ n ∧ n ≤ hi
  · refine (within_in n hi w h.1 h.2).mono ?_
    rintro e w' ⟨rfl, rfl⟩
    exact ⟨n.toNat, by rw [Int.toNat_of_nonneg h.1], by omega, rfl⟩
  · have hg : (decide (0 ≤ n) && decide (n ≤ hi)) = false := by
      simp only [Bool.and_eq_false_iff, decide_eq_false_iff_not]; omega
    have m1 : n.tmod (hi + 1) < hi + 1 := Int.tmod_lt_of_pos _ (by omega)
    have m2 : -(hi + 1) < n.tmod (hi + 1) := by
      have := Int.tmod_lt_of_pos (-n) (b := hi + 1) (by omega)
      rw [Int.neg_tmod] at this
      omega
    have m3 : n % (hi + 1) < hi + 1 := Int.emod_lt_of_pos _ (by omega)
    have m4 : 0 ≤ n % (hi + 1) := Int.emod_nonneg _ (by omega)
    go_enter Try.func16, Try.ntmps16
    go_wp2
    all_goals
      go_ret
      exact as_nat (by omega) (by omega)
end Go.Proofs.Ytinilkkpocnnpaa
namespace Go.Proofs.Ytinilkkpocnnpaa
open Go.RowKit
open Go.BatMath hiding AllB getD_lt take_all
set_option linter.unusedVariables false

/-- Block kt is a tape that stands at its i-th number. -/
structure TapeAt (w : World) (kt : Nat) (ad : Option Addr) (len cap i : Nat) : Prop where
  blk : w.heap[kt]? = some (.cells #[.slice ad len cap, .int .i64 (i : Int)] 26 (0, 0))
  le : i ≤ len
  big : len ≤ 140737488355328
  nums : ∀ j, j < len → ∃ b off n, ad = some ⟨b, off, none⟩ ∧ b < kt ∧ w.cell? ⟨b, off + j, none⟩ = some (.int .i64 n) ∧ In64 n
section
variable {w w' w1 w2 : World} {kt len cap i : Nat} {ad : Option Addr}
theorem TapeAt.c0 (h : TapeAt w kt ad len cap i) : w.cell? ⟨kt, 0, none⟩ = some (.slice ad len cap) := by rw [cell_of_row _ _ 0 _ _ _ h.blk]; rfl
theorem TapeAt.c1 (h : TapeAt w kt ad len cap i) : w.cell? ⟨kt, 1, none⟩ = some (.int .i64 (i : Int)) := by rw [cell_of_row _ _ 1 _ _ _ h.blk]; rfl
theorem TapeAt.free (h : TapeAt w kt ad len cap i) (j : Nat) : w.frozen? ⟨kt, j, none⟩ = false := frozen_of_row w kt j _ _ h.blk
theorem TapeAt.lt (h : TapeAt w kt ad len cap i) : kt < w.heap.size := lt_of_block h.blk
theorem TapeAt.on (h : TapeAt w kt ad len cap i) (hb : Below w.heap.size w w') : TapeAt w' kt ad len cap i := by
  refine ⟨(hb.block kt h.lt).trans h.blk, h.le, h.big, fun j hj => ?_⟩
  obtain ⟨b, off, n, e, hne, hc, hn⟩ := h.nums j hj
  exact ⟨b, off, n, e, hne, (hb.cell (World.block_lt_of_cell? _ _ hc)).trans hc, hn⟩
theorem TapeAt.drewN (h : TapeAt w kt ad len cap i) (n : Nat) : TapeAt (w.drewN n) kt ad len cap i := h.on (bel_drewN (Below.refl _ _) n)
theorem TapeAt.grow {r : Option Nat} (h : TapeAt w kt ad len cap i) (hg : w.grownBy w' r) (hr : ∀ k, r = some k → kt < k) : TapeAt w' kt ad len cap i := by
  refine ⟨(hg.block kt h.lt (fun e => by have := hr kt e.symm; omega)).trans h.blk, h.le, h.big, fun j hj => ?_⟩
  obtain ⟨b, off, n, e, hne, hc, hn⟩ := h.nums j hj
  exact ⟨b, off, n, e, hne, hg.cell hc (fun e => by have := hr b e.symm; omega), hn⟩
theorem OwnRecs.tape {base : Nat} {v : Value} {l : List Rc} (h : OwnRecs w base v l) (hg : w.grownBy w' (some kt)) (hk : kt < base) : OwnRecs w' base v l := by
  refine ⟨h.1, ?_⟩
  rcases h.2 with hn | ⟨g, cap, cur, rfl, hbg, hh, r⟩
  · exact .inl hn
  · exact .inr ⟨g, cap, cur, rfl, hbg, (hg.block g (lt_of_block hh) (fun e => by have := Option.some.inj e; omega)).trans hh, r⟩
theorem RecsAt.tape {cap2 : Nat} {a : Option Addr} {l : List Rc} {n : Nat} (h : RecsAt w a n cap2 l) (hg : w.grownBy w' (some kt)) (hk : ∀ x, a = some x → x.block ≠ kt) : RecsAt w' a n cap2 l := by
  refine ⟨h.length, h.fits, h.room, ?_⟩
  rcases h.cells with h0 | ⟨b, off, e, hlt, hc⟩
  · exact .inl h0
  · refine .inr ⟨b, off, e, Nat.lt_of_lt_of_le hlt hg.size, fun i r hi => ?_⟩
    have hne : b ≠ kt := hk _ e
    obtain ⟨c1, c2⟩ := hc i r hi
    exact ⟨hg.cell c1 (fun e => hne (Option.some.inj e)), hg.cell c2 (fun e => hne (Option.some.inj e))⟩
theorem BoxAt.tape {k : Nat} {b0 b1 b2 b3 : Int} {b4 : Bool} {b5 : Int} {v : Value} (h : BoxAt w k b0 b1 b2 b3 b4 b5 v) (hg : w.grownBy w' (some kt)) (hk : k ≠ kt) : BoxAt w' k b0 b1 b2 b3 b4 b5 v := by
  unfold BoxAt at *
  rw [hg.block k (lt_of_block h) (fun e => hk (Option.some.inj e))]
  exact h
end
end Go.Proofs.Ytinilkkpocnnpaa
namespace Go.Proofs.Ytinilkkpocnnpaa
open Go.RowKit
open Go.SeqMath
open Go.BatMath hiding AllB getD_lt take_all
set_option linter.unusedVariables false

theorem TapeAt.other {w : World} {kt len cap i k j : Nat} {ad : Option Addr} (h : TapeAt w kt ad len cap i) (hk : kt < k) (u : Value) : TapeAt (w.setCell ⟨k, j, none⟩ u) kt ad len cap i := by
  have hx : ∀ b, b < k → (w.setCell ⟨k, j, none⟩ u).heap[b]? = w.heap[b]? := fun b hb => by
    show (w.heap.modify k _)[b]? = _
    rw [Array.getElem?_modify, if_neg (by omega)]
  refine ⟨(hx kt hk).trans h.blk, h.le, h.big, fun j' hj => ?_⟩
  obtain ⟨b, off, n, e, hne, hc, hn⟩ := h.nums j' hj
  exact ⟨b, off, n, e, hne, (World.cell?_of_block (a := ⟨b, off + j', none⟩) (hx b (by omega))).trans hc, hn⟩
/-- Block kt is a tape, wherever it stands. -/
def TapeT (w : World) (kt : Nat) (ad : Option Addr) (len cap : Nat) : Prop := ∃ i, TapeAt w kt ad len cap i
theorem TapeT.other {w : World} {kt len cap k j : Nat} {ad : Option Addr} (h : TapeT w kt ad len cap) (hk : kt < k) (u : Value) : TapeT (w.setCell ⟨k, j, none⟩ u) kt ad len cap := by
  obtain ⟨i, h⟩ := h
  exact ⟨i, h.other hk u⟩
/-- The walk's state: the batch that is being made, the result that is none yet, the tape, what has turned since w. -/
structure TB (w : World) (kt : Nat) (ad : Option Addr) (len cap kr kb : Nat) (b0 b1 b2 b3 : Int) (b4 : Bool) (b5 : Int) (v : Value) (W : World) : Prop where
  box : BoxAt W kb b0 b1 b2 b3 b4 b5 v
  res : BoxAt W kr 0 0 0 0 false 0 (.slice none 0 0)
  lo : w.heap.size ≤ kb
  lr : w.heap.size ≤ kr
  ne : kb ≠ kr
  ht : kt < w.heap.size
  tape : TapeT W kt ad len cap
  grow : w.grownBy W (some kt)
section
variable {w W W' : World} {kt len cap kr kb : Nat} {ad : Option Addr} {b0 b1 b2 b3 : Int} {b4 : Bool} {b5 : Int} {v : Value}
theorem TB.s2 (h : TB w kt ad len cap kr kb b0 b1 b2 b3 b4 b5 v W) (n : Int) : TB w kt ad len cap kr kb b0 b1 n b3 b4 b5 v (W.setCell ⟨kb, 2, none⟩ (.int .i64 n)) := ⟨h.box.s2 n, h.res.off h.ne _, h.lo, h.lr, h.ne, h.ht, h.tape.other (by have := h.lo; have := h.ht; omega) _, grow_new h.grow h.lo _⟩
theorem TB.s3 (h : TB w kt ad len cap kr kb b0 b1 b2 b3 b4 b5 v W) (n : Int) : TB w kt ad len cap kr kb b0 b1 b2 n b4 b5 v (W.setCell ⟨kb, 3, none⟩ (.int .i64 n)) := ⟨h.box.s3 n, h.res.off h.ne _, h.lo, h.lr, h.ne, h.ht, h.tape.other (by have := h.lo; have := h.ht; omega) _, grow_new h.grow h.lo _⟩
theorem TB.s4 (h : TB w kt ad len cap kr kb b0 b1 b2 b3 b4 b5 v W) (n : Bool) : TB w kt ad len cap kr kb b0 b1 b2 b3 n b5 v (W.setCell ⟨kb, 4, none⟩ (.bool n)) := ⟨h.box.s4 n, h.res.off h.ne _, h.lo, h.lr, h.ne, h.ht, h.tape.other (by have := h.lo; have := h.ht; omega) _, grow_new h.grow h.lo _⟩
theorem TB.next (h : TB w kt ad len cap kr kb b0 b1 b2 b3 b4 b5 v W) (hg : W.grownBy W' (some kt)) (ht : TapeT W' kt ad len cap) : TB w kt ad len cap kr kb b0 b1 b2 b3 b4 b5 v W' :=
  ⟨h.box.tape hg (by have := h.lo; have := h.ht; omega), h.res.tape hg (by have := h.lr; have := h.ht; omega), h.lo, h.lr, h.ne, h.ht, ht, grow_trans h.grow hg⟩
end
end Go.Proofs.Ytinilkkpocnnpaa
namespace Go.Proofs.Ytinilkkpocnnpaa
open Go.RowKit
open Go.SeqMath
open Go.ProdMath
open Go.BatMath hiding AllB getD_lt take_all
set_option linter.unusedVariables false

theorem infoTr : (Try.prog.info? 59).map (fun i => (i.zero, i.size, i.bytes)) = some (some (.agg #[.int .i64 0, .int .i64 0, .int .i64 0]), 3, 24) := by kernel_rfl
def trK : Kind Tr := ⟨fun x => [.int .i64 x.f, .int .i64 x.l, .int .i64 x.b], 3, 59, 38⟩
theorem trK_ok : trK.Ok 24 where
  und := Try.underlying38
  info := by
    obtain ⟨i, hi, hz, hs, hb⟩ := info_parts infoTr
    exact ⟨i, _, hi, hz, hs, hb, rfl⟩
  len := fun _ => rfl
  pos := by decide
  one := fun r u hu => by
    simp only [trK, List.mem_cons, List.not_mem_nil, or_false] at hu
    rcases hu with rfl | rfl | rfl <;> rfl
  few := by decide
/-- A producer, and where its latest batches lie. -/
structure PM where
  p : Pd
  ad : Option Addr
  cap : Nat
def pdK : Kind PM := ⟨fun m => [.int .i64 m.p.id, .int .i64 m.p.epoch, .slice m.ad m.p.last.length m.cap, .int .i64 m.p.opn], 4, 40, 36⟩
/-- A batch, and where its records lie. -/
structure BM where
  b : Bat
  ad : Option Addr
  cap : Nat
theorem infoBat : (Try.prog.info? 33).map (fun i => (i.zero, i.size, i.bytes)) = some (some (.agg #[.int .i64 0, .int .i64 0, .int .i64 0, .int .i64 0, .bool false, .int .i64 0, .slice none 0 0]), 7, 72) := by kernel_rfl
def batK : Kind BM := ⟨fun m => [.int .i64 m.b.base, .int .i64 m.b.prod, .int .i64 m.b.epoch, .int .i64 m.b.seq, .bool m.b.txn, .int .i64 m.b.marker, .slice m.ad m.b.recs.length m.cap], 7, 33, 28⟩
theorem batK_ok : batK.Ok 72 where
  und := Try.underlying28
  info := by
    obtain ⟨i, hi, hz, hs, hb⟩ := info_parts infoBat
    exact ⟨i, _, hi, hz, hs, hb, rfl⟩
  len := fun _ => rfl
  pos := by decide
  one := fun r u hu => by
    simp only [batK, List.mem_cons, List.not_mem_nil, or_false] at hu
    rcases hu with rfl | rfl | rfl | rfl | rfl | rfl | rfl <;> rfl
  few := by decide
/-- A producer's latest batches in memory. -/
abbrev LastAt (w : World) (m : PM) : Prop := RowAt trK w m.ad m.p.last.length m.cap m.p.last
abbrev RecAt (w : World) (m : BM) : Prop := RecsAt w m.ad m.b.recs.length m.cap m.b.recs
def LastsAt (w : World) (ms : List PM) : Prop := ∀ m ∈ ms, LastAt w m
def RecssAt (w : World) (ms : List BM) : Prop := ∀ m ∈ ms, RecAt w m
theorem LastsAt.keep {w w' : World} {ms : List PM} (h : LastsAt w ms) (hb : Below w.heap.size w w') : LastsAt w' ms := fun m hm => (h m hm).keep hb
theorem RecssAt.keep {w w' : World} {ms : List BM} (h : RecssAt w ms) (hb : Below w.heap.size w w') : RecssAt w' ms := fun m hm => (h m hm).keep hb
/-- Producers, batches in a slice. -/
structure PdsAt (w : World) (ad : Option Addr) (len cap : Nat) (ms : List PM) : Prop where
  row : RowAt pdK w ad len cap ms
  ins : LastsAt w ms
theorem PdsAt.keep {w w' : World} {ad : Option Addr} {len cap : Nat} {ms : List PM} (h : PdsAt w ad len cap ms) (hb : Below w.heap.size w w') : PdsAt w' ad len cap ms := ⟨h.row.keep hb, h.ins.keep hb⟩
structure BatsAt (w : World) (ad : Option Addr) (len cap : Nat) (ms : List BM) : Prop where
  row : RowAt batK w ad len cap ms
  ins : RecssAt w ms
theorem BatsAt.keep {w w' : World} {ad : Option Addr} {len cap : Nat} {ms : List BM} (h : BatsAt w ad len cap ms) (hb : Below w.heap.size w w') : BatsAt w' ad len cap ms := ⟨h.row.keep hb, h.ins.keep hb⟩
/-- The cells of the batch at i. -/
theorem BatsAt.get {w : World} {ad : Option Addr} {len cap : Nat} {ms : List BM} (h : BatsAt w ad len cap ms) {i : Nat} (hi : i < len) :
    ∃ b off m, ad = some ⟨b, off, none⟩ ∧ b < w.heap.size ∧ ms[i]? = some m ∧ RecAt w m ∧ w.cell? ⟨b, off + i * 7, none⟩ = some (.int .i64 m.b.base) ∧ w.cell? ⟨b, off + i * 7 + 1, none⟩ = some (.int .i64 m.b.prod) ∧ w.cell? ⟨b, off + i * 7 + 2, none⟩ = some (.int .i64 m.b.epoch) ∧ w.cell? ⟨b, off + i * 7 + 3, none⟩ = some (.int .i64 m.b.seq) ∧ w.cell? ⟨b, off + i * 7 + 4, none⟩ = some (.bool m.b.txn) ∧ w.cell? ⟨b, off + i * 7 + 5, none⟩ = some (.int .i64 m.b.marker) ∧ w.cell? ⟨b, off + i * 7 + 6, none⟩ = some (.slice m.ad m.b.recs.length m.cap) := by
  obtain ⟨b, off, m, e, hb, hm, hc⟩ := h.row.get hi
  exact ⟨b, off, m, e, hb, hm, h.ins m (List.mem_of_getElem? hm), hc 0 _ rfl, hc 1 _ rfl, hc 2 _ rfl, hc 3 _ rfl, hc 4 _ rfl, hc 5 _ rfl, hc 6 _ rfl⟩
theorem PdsAt.get {w : World} {ad : Option Addr} {len cap : Nat} {ms : List PM} (h : PdsAt w ad len cap ms) {i : Nat} (hi : i < len) :
    ∃ b off m, ad = some ⟨b, off, none⟩ ∧ b < w.heap.size ∧ ms[i]? = some m ∧ LastAt w m ∧ w.cell? ⟨b, off + i * 4, none⟩ = some (.int .i64 m.p.id) ∧ w.cell? ⟨b, off + i * 4 + 1, none⟩ = some (.int .i64 m.p.epoch) ∧ w.cell? ⟨b, off + i * 4 + 2, none⟩ = some (.slice m.ad m.p.last.length m.cap) ∧ w.cell? ⟨b, off + i * 4 + 3, none⟩ = some (.int .i64 m.p.opn) := by
  obtain ⟨b, off, m, e, hb, hm, hc⟩ := h.row.get hi
  exact ⟨b, off, m, e, hb, hm, h.ins m (List.mem_of_getElem? hm), hc 0 _ rfl, hc 1 _ rfl, hc 2 _ rfl, hc 3 _ rfl⟩
theorem tr_get {w : World} {ad : Option Addr} {len cap : Nat} {l : List Tr} (h : RowAt trK w ad len cap l) {i : Nat} (hi : i < len) :
    ∃ b off x, ad = some ⟨b, off, none⟩ ∧ b < w.heap.size ∧ l[i]? = some x ∧ w.cell? ⟨b, off + i * 3, none⟩ = some (.int .i64 x.f) ∧ w.cell? ⟨b, off + i * 3 + 1, none⟩ = some (.int .i64 x.l) ∧ w.cell? ⟨b, off + i * 3 + 2, none⟩ = some (.int .i64 x.b) := by
  obtain ⟨b, off, m, e, hb, hm, hc⟩ := h.get hi
  exact ⟨b, off, m, e, hb, hm, hc 0 _ rfl, hc 1 _ rfl, hc 2 _ rfl⟩
/-- A block that is one producer; three numbers. -/
def PBox (w : World) (k : Nat) (b0 b1 : Int) (v : Value) (b3 : Int) : Prop := w.heap[k]? = some (.cells #[.int .i64 b0, .int .i64 b1, v, .int .i64 b3] 40 (0, 0))
section
variable {w w' : World} {k : Nat} {b0 b1 b3 : Int} {v : Value}
theorem PBox.c0 (h : PBox w k b0 b1 v b3) : w.cell? ⟨k, 0, none⟩ = some (.int .i64 b0) := by rw [cell_of_row _ _ 0 _ _ _ h]; rfl
theorem PBox.c1 (h : PBox w k b0 b1 v b3) : w.cell? ⟨k, 1, none⟩ = some (.int .i64 b1) := by rw [cell_of_row _ _ 1 _ _ _ h]; rfl
theorem PBox.c2 (h : PBox w k b0 b1 v b3) : w.cell? ⟨k, 2, none⟩ = some v := by rw [cell_of_row _ _ 2 _ _ _ h]; rfl
theorem PBox.c3 (h : PBox w k b0 b1 v b3) : w.cell? ⟨k, 3, none⟩ = some (.int .i64 b3) := by rw [cell_of_row _ _ 3 _ _ _ h]; rfl
theorem PBox.free (h : PBox w k b0 b1 v b3) (j : Nat) : w.frozen? ⟨k, j, none⟩ = false := frozen_of_row w k j _ _ h
theorem PBox.lt (h : PBox w k b0 b1 v b3) : k < w.heap.size := lt_of_block h
theorem PBox.keep {B : Nat} (h : PBox w k b0 b1 v b3) (hb : Below B w w') (hk : k < B) : PBox w' k b0 b1 v b3 := by
  unfold PBox at *
  rw [hb.block k hk]
  exact h
theorem PBox.on (h : PBox w k b0 b1 v b3) (hb : Below w.heap.size w w') : PBox w' k b0 b1 v b3 := h.keep hb h.lt
theorem PBox.s0 (h : PBox w k b0 b1 v b3) (n : Int) : PBox (w.setCell ⟨k, 0, none⟩ (.int .i64 n)) k n b1 v b3 := box_set h 0 _
theorem PBox.s1 (h : PBox w k b0 b1 v b3) (n : Int) : PBox (w.setCell ⟨k, 1, none⟩ (.int .i64 n)) k b0 n v b3 := box_set h 1 _
theorem PBox.s2 (h : PBox w k b0 b1 v b3) (u : Value) : PBox (w.setCell ⟨k, 2, none⟩ u) k b0 b1 u b3 := box_set h 2 _
theorem PBox.s3 (h : PBox w k b0 b1 v b3) (n : Int) : PBox (w.setCell ⟨k, 3, none⟩ (.int .i64 n)) k b0 b1 v n := box_set h 3 _
theorem PBox.off (h : PBox w k b0 b1 v b3) {j i : Nat} (hj : j ≠ k) (u : Value) : PBox (w.setCell ⟨j, i, none⟩ u) k b0 b1 v b3 := box_off h hj u
theorem PBox.grown {r : Option Nat} (h : PBox w k b0 b1 v b3) (hg : w.grownBy w' r) (hr : r ≠ some k) : PBox w' k b0 b1 v b3 := by
  have hlt := h.lt
  unfold PBox at *
  rw [hg.block k hlt (fun e => hr e.symm)]
  exact h
theorem pbox_new (w : World) (b0 b1 : Int) (v : Value) (b3 : Int) : PBox (w.alloc (.cells #[.int .i64 b0, .int .i64 b1, v, .int .i64 b3] 40)) w.heap.size b0 b1 v b3 := heap_alloc_new w _
theorem BoxAt.grows {b2 : Int} {b4 : Bool} {b5 : Int} {r : Option Nat} (h : BoxAt w k b0 b1 b2 b3 b4 b5 v) (hg : w.grownBy w' r) (hr : r ≠ some k) : BoxAt w' k b0 b1 b2 b3 b4 b5 v := by
  have hlt := h.lt
  unfold BoxAt at *
  rw [hg.block k hlt (fun e => hr e.symm)]
  exact h
end
end Go.Proofs.Ytinilkkpocnnpaa
namespace Go.Proofs.Ytinilkkpocnnpaa
open Go
set_option linter.unusedVariables false

section
variable {P : Program} {ops : Array Oper} {Q : Exit → Act → World → Prop} {md : Region.Mode} {S : World → Prop} {Z : List Nat}
/-- What has come up came up behind what it waits for. -/
def Closed (md : Region.Mode) (ops : Array Oper) (L : Array Bool) : Prop := ∀ j o, ops[j]? = some o → L.getD j false = true → ∀ e ∈ o.after, Region.binds md e = true → L.getD e.on false = true
def closedB (md : Region.Mode) (ops : Array Oper) (L : Array Bool) : Bool := (List.range ops.size).all fun j => !(L.getD j false) || match ops[j]? with | some o => o.after.all fun e => !(Region.binds md e) || L.getD e.on false | none => true
theorem closed_of {L : Array Bool} (h : closedB md ops L = true) : Closed md ops L := by
  intro j o ho hl e he hb
  have hj : j < ops.size := (Array.getElem?_eq_some_iff.1 ho).1
  have h1 := List.all_eq_true.1 h j (List.mem_range.2 hj)
  rw [hl, ho] at h1
  simp only [Bool.not_true, Bool.false_or, Array.all_eq_true'] at h1
  have h2 := h1 e he
  rw [hb] at h2
  simpa using h2
/-- Does z wait for i, by some steps? -/
def waitsB (md : Region.Mode) (ops : Array Oper) (i : Nat) : Nat → Nat → Bool
  | 0, _ => false
  | n + 1, z => match ops[z]? with | some o => o.after.any fun e => Region.binds md e && (e.on == i || waitsB md ops i n e.on) | none => false
theorem waits_closed {i : Nat} {L : Array Bool} (hc : Closed md ops L) : ∀ (n z : Nat), waitsB md ops i n z = true → L.getD z false = true → L.getD i false = true
  | 0, z, h, _ => by cases h
  | n + 1, z, h, hz => by
    unfold waitsB at h
    cases ho : ops[z]? with
    | none => rw [ho] at h; cases h
    | some o =>
      rw [ho] at h
      obtain ⟨e, he, h1⟩ := Array.any_eq_true'.1 h
      rw [Bool.and_eq_true, Bool.or_eq_true] at h1
      have h2 := hc z o ho hz e he h1.1
      rcases h1.2 with h3 | h3
      · rw [beq_iff_eq] at h3; rw [← h3]; exact h2
      · exact waits_closed hc n _ h3 h2
/-- None of Z has come up. -/
def ZFree (Z : List Nat) (L : Array Bool) : Prop := ∀ z ∈ Z, L.getD z false = false
/-- Whatever order is picked from here on; S holds behind every operation as long as none of Z has come up. -/
def wpAnyZ (P : Program) (md : Region.Mode) (ops : Array Oper) (Q : Exit → Act → World → Prop) (Z : List Nat) (S : World → Prop) : Nat → Array Bool → Act → World → Prop
  | 0, listed, a, w => Region.ready md ops listed = [] ∧ Q .normal a w
  | fuel + 1, listed, a, w =>
    (Region.ready md ops listed = [] → Q .normal a w) ∧
    ∀ i ∈ Region.ready md ops listed, wpOp P ops Q i (fun a' w' => (ZFree Z (listed.setIfInBounds i true) → S w') ∧ wpAnyZ P md ops Q Z S fuel (listed.setIfInBounds i true) a' w') a w
theorem wpAny_of_z : ∀ (fuel : Nat) (listed : Array Bool) (a : Act) (w : World), wpAnyZ P md ops Q Z S fuel listed a w → wpAny P md ops Q fuel listed a w
  | 0, _, _, _, h => h
  | fuel + 1, _, _, _, h => ⟨h.1, fun i hi => wpOp_mono (fun a' w' h' => wpAny_of_z fuel _ a' w' h'.2) (h.2 i hi)⟩
theorem closed_step {j : Nat} {L : Array Bool} (hc : Closed md ops L) (hj : j ∈ Region.ready md ops L) : Closed md ops (L.setIfInBounds j true) := by
  intro k o ho hl e he hb
  by_cases hkj : j = k
  · subst hkj
    obtain ⟨_, o', ho', hall⟩ := mem_ready.1 hj
    rw [ho] at ho'
    cases ho'
    exact getD_set_true (hall e he hb)
  · rw [getD_set_ne false hkj] at hl
    exact getD_set_true (hc k o ho hl e he hb)
theorem unlisted {i : Nat} {L : Array Bool} (h : L.getD i true = false) : L.getD i false = false := by
  rcases Nat.lt_or_ge i L.size with h' | h'
  · simp [h'] at h ⊢; exact h
  · simp [Array.getElem?_eq_none h'] at h
theorem wpAnyZ_first {i n : Nat} {oi : Oper} {v : Value} (hi : ops[i]? = some oi) (hsel : ∀ (j : Nat) (o : Oper) cs b, ops[j]? = some o → o.op ≠ .select cs b)
    (hQ : ∀ c a w, Q (.panic c) (a.put oi.dst v) w → Q (.panic c) a w) (hz : ∀ z ∈ Z, waitsB md ops i n z = true) (hiz : i ∉ Z) :
    ∀ (fuel : Nat) (listed : Array Bool) (a : Act) (w : World),
      (∀ j oj, ops[j]? = some oj → j ≠ i → listed.getD j true = false → (∀ e ∈ oj.after, Region.binds md e = true → e.on ≠ i) → oi.apart ops oj = true) →
      i ∈ Region.ready md ops listed → Closed md ops listed → YieldsIf P ops S oi v a → S w →
      wpAnyZ P md ops Q Z S fuel (listed.setIfInBounds i true) (a.put oi.dst v) w → wpAnyZ P md ops Q Z S (fuel + 1) listed a w := by
  have free : ∀ L, Closed md ops L → L.getD i true = false → ZFree Z L := fun L hc hu z hzZ => by
    cases hzl : L.getD z false
    · rfl
    · have := waits_closed hc n z (hz z hzZ) hzl
      rw [unlisted hu] at this
      cases this
  intro fuel
  induction fuel with
  | zero =>
    intro listed a w _ hr _ hy hS H
    refine ⟨fun h => (by rw [h] at hr; cases hr), fun j hj => ?_⟩
    by_cases hji : j = i
    · subst hji; exact hy.wpOp hi hS ⟨fun _ => hS, H⟩
    · have := ready_mono hj hji
      rw [H.1] at this
      cases this
  | succ fuel ih =>
    intro listed a w hfree hr hc hy hS H
    refine ⟨fun h => (by rw [h] at hr; cases hr), fun j hj => ?_⟩
    by_cases hji : j = i
    · subst hji; exact hy.wpOp hi hS ⟨fun _ => hS, H⟩
    · have h1 := H.2 j (ready_mono hj hji)
      obtain ⟨hjun, oj, hoj, hall⟩ := mem_ready.1 hj
      have hnot : ∀ e ∈ oj.after, Region.binds md e = true → e.on ≠ i := fun e he hb heq => by
        have h1 := hall e he hb
        have h0 := (mem_ready.1 hr).1
        rw [heq] at h1
        rw [unlisted h0] at h1
        cases h1
      have h2 := wpOp_putIf hoj (hfree j oj hoj hji hjun hnot) (fun cs b => hsel i oi cs b hi) (fun cs b => hsel j oj cs b hoj) hQ hy h1
      have hfree' : ∀ k ok, ops[k]? = some ok → k ≠ i → (listed.setIfInBounds j true).getD k true = false →
          (∀ e ∈ ok.after, Region.binds md e = true → e.on ≠ i) → oi.apart ops ok = true := fun k ok hk hki hun hno => by
        refine hfree k ok hk hki ?_ hno
        by_cases hjk : j = k
        · subst hjk; exact hjun
        · rw [getD_set_ne true hjk] at hun; exact hun
      have hr' := ready_mono hr (Ne.symm hji)
      have hc' := closed_step hc hj
      have hzf := free _ hc' (mem_ready.1 hr').1
      have hzf2 : ZFree Z ((listed.setIfInBounds i true).setIfInBounds j true) := fun z hzZ => by
        have hne : i ≠ z := fun e => hiz (e ▸ hzZ)
        rw [Array.setIfInBounds_comm _ _ (Ne.symm hji), getD_set_ne false hne]
        exact hzf z hzZ
      refine wpOp_mono (fun a' w' h3 => ⟨fun _ => h3.2.1 hzf2, ih (listed.setIfInBounds j true) a' w' hfree' hr' hc' h3.1 (h3.2.1 hzf2) ?_⟩) h2
      rw [Array.setIfInBounds_comm _ _ hji]
      exact h3.2.2
theorem wpAnyZ_take {i : Nat} {oi : Oper} {v : Value} {fuel : Nat} {listed : Array Bool} {a : Act} {w : World} (hi : ops[i]? = some oi)
    (hs : Region.noSelect ops = true) (hf : Region.free md ops listed i = true) (hr : (Region.ready md ops listed).contains i = true) (hc : closedB md ops listed = true) (hz : (Z.all fun z => waitsB md ops i 12 z && !(z == i)) = true)
    (hQ : ∀ c a w, Q (.panic c) (a.put oi.dst v) w → Q (.panic c) a w) (hy : YieldsIf P ops S oi v a) (hS : S w)
    (h : wpAnyZ P md ops Q Z S fuel (listed.setIfInBounds i true) (a.put oi.dst v) w) : wpAnyZ P md ops Q Z S (fuel + 1) listed a w := by
  have hz' := List.all_eq_true.1 hz
  refine wpAnyZ_first (n := 12) hi (Region.noSelect_spec hs) hQ (fun z hzZ => ?_) (fun hiZ => ?_) fuel listed a w (Region.free_spec hi hf) (by simpa using hr) (closed_of hc) hy hS h
  · have := hz' z hzZ; rw [Bool.and_eq_true] at this; exact this.1
  · have := hz' i hiZ; simp at this
/-- Each of the operations 'rs' comes up next. -/
def AllReadyZ (P : Program) (md : Region.Mode) (ops : Array Oper) (Q : Exit → Act → World → Prop) (Z : List Nat) (S : World → Prop) (fuel : Nat) (listed : Array Bool) (a : Act) (w : World) (rs : List Nat) : Prop :=
  ∀ i ∈ rs, wpOp P ops Q i (fun a' w' => (ZFree Z (listed.setIfInBounds i true) → S w') ∧ wpAnyZ P md ops Q Z S fuel (listed.setIfInBounds i true) a' w') a w
theorem AllReadyZ.nil {fuel : Nat} {listed : Array Bool} {a : Act} {w : World} : AllReadyZ P md ops Q Z S fuel listed a w [] := fun _ h => by cases h
theorem AllReadyZ.cons {fuel : Nat} {listed : Array Bool} {a : Act} {w : World} {i : Nat} {o : Oper} {rs : List Nat} (ho : ops[i]? = some o)
    (h : ∀ K' : Act → World → Prop, Shut (∀ a w, (ZFree Z (listed.setIfInBounds i true) → S w) → ((ZFree Z (listed.setIfInBounds i true) → S w) → wpAnyZ P md ops Q Z S fuel (listed.setIfInBounds i true) a w) → K' a w) → if Region.wanted o (yielded ops a.tmps) = true then Oper.wp P o a w K' Q else K' (a.put o.dst undef) w)
    (hs : AllReadyZ P md ops Q Z S fuel listed a w rs) : AllReadyZ P md ops Q Z S fuel listed a w (i :: rs) := fun j hj => by
  rcases List.mem_cons.1 hj with rfl | hj
  · exact wpOp_step ho (fun K' hK => h K' (fun a w hS hW => hK a w ⟨hS, hW hS⟩))
  · exact hs j hj
theorem wpAnyZ_ready {rs : List Nat} {fuel : Nat} {listed : Array Bool} {a : Act} {w : World} (hr : Region.ready md ops listed = rs) (hne : rs ≠ [])
    (h : AllReadyZ P md ops Q Z S fuel listed a w rs) : wpAnyZ P md ops Q Z S (fuel + 1) listed a w :=
  ⟨fun h0 => absurd (hr ▸ h0) hne, by rw [hr]; exact h⟩
theorem wpAnyZ_done {listed : Array Bool} {a : Act} {w : World} (hr : Region.ready md ops listed = []) (h : Q .normal a w) :
    ∀ fuel, wpAnyZ P md ops Q Z S fuel listed a w
  | 0 => ⟨hr, h⟩
  | _ + 1 => ⟨fun _ => h, by rw [hr]; simp⟩
theorem wp_region_z {id : Nat} {a : Act} {w : World} (Z : List Nat) (S : World → Prop) (hm : P.follows .mixedOrders = true)
    (h : wpAnyZ P .any ops Q Z S ops.size (Array.replicate ops.size false) a w.drew) : (Code.region id ops true).wp P Q a w :=
  wp_region_any hm (wpAny_of_z _ _ _ _ h)
/-- One way alone is left, and one operation: it turns the worlds as it likes. -/
theorem zfree_no {i : Nat} {listed : Array Bool} {Z : List Nat} {p : Prop} (h : (Z.contains i && decide (i < listed.size)) = true) : ZFree Z (listed.setIfInBounds i true) → p := by
  intro hz
  rw [Bool.and_eq_true] at h
  have := hz i (by simpa using h.1)
  have hlt : i < listed.size := of_decide_eq_true h.2
  simp [hlt] at this
end
end Go.Proofs.Ytinilkkpocnnpaa
namespace Go.Proofs.Ytinilkkpocnnpaa
open Go.RowKit
open Go.SeqMath
open Go.ProdMath
open Go.BatMath hiding AllB getD_lt take_all
set_option linter.unusedVariables false

/-- Three numbers in a block. -/
def TBox (w : World) (k : Nat) (x : Tr) : Prop := w.heap[k]? = some (.cells #[.int .i64 x.f, .int .i64 x.l, .int .i64 x.b] 59 (0, 0))
theorem TBox.c0 {w : World} {k : Nat} {x : Tr} (h : TBox w k x) : w.cell? ⟨k, 0, none⟩ = some (.int .i64 x.f) := by rw [cell_of_row _ _ 0 _ _ _ h]; rfl
theorem TBox.c1 {w : World} {k : Nat} {x : Tr} (h : TBox w k x) : w.cell? ⟨k, 1, none⟩ = some (.int .i64 x.l) := by rw [cell_of_row _ _ 1 _ _ _ h]; rfl
theorem TBox.c2 {w : World} {k : Nat} {x : Tr} (h : TBox w k x) : w.cell? ⟨k, 2, none⟩ = some (.int .i64 x.b) := by rw [cell_of_row _ _ 2 _ _ _ h]; rfl
theorem TBox.on {w w' : World} {k : Nat} {x : Tr} (h : TBox w k x) (hb : Below w.heap.size w w') : TBox w' k x := by
  have hlt := lt_of_block h
  unfold TBox at *
  rw [hb.block k hlt]
  exact h
theorem tbox_new (w : World) (x : Tr) : TBox (w.alloc (.cells #[.int .i64 x.f, .int .i64 x.l, .int .i64 x.b] 59)) w.heap.size x := heap_alloc_new w _
def GivesDup (w : World) (r : Option Int) (e : Ending) (w' : World) : Prop := e = .returned (.tuple #[.int .i64 (r.getD (-1)), .bool r.isSome]) ∧ Below w.heap.size w w'
theorem gives_dup_none {w w' : World} {r : Option Int} (h : r = none) (hb : Below w.heap.size w w') : GivesDup w r (.returned (.tuple #[.int .i64 (-1), .bool false])) w' := ⟨by rw [h]; rfl, hb⟩
theorem gives_dup_some {w w' : World} {r : Option Int} {v : Int} (h : r = some v) (hb : Below w.heap.size w w') : GivesDup w r (.returned (.tuple #[.int .i64 v, .bool true])) w' := ⟨by rw [h]; rfl, hb⟩
end Go.Proofs.Ytinilkkpocnnpaa
namespace Go.Proofs.Ytinilkkpocnnpaa
open Go.RowKit
open Go.SeqMath
open Go.ProdMath
open Go.BatMath hiding AllB getD_lt take_all
set_option linter.unusedVariables false

def GivesPair (w : World) (c : Int × Int) (e : Ending) (w' : World) : Prop := e = .returned (.tuple #[.int .i64 c.1, .int .i64 c.2]) ∧ Below w.heap.size w w'
theorem gives_pair {w w' : World} {c : Int × Int} {a b : Int} (h : c = (a, b)) (hb : Below w.heap.size w w') : GivesPair w c (.returned (.tuple #[.int .i64 a, .int .i64 b])) w' := ⟨by rw [h], hb⟩
end Go.Proofs.Ytinilkkpocnnpaa
namespace Go.Proofs.Ytinilkkpocnnpaa
open Go.RowKit
open Go.SeqMath
set_option linter.unusedVariables false

theorem seq_wrap (n : Int) (w : World) (v : Int) (h0 : -2147483648 ≤ n) (h1 : n ≤ 4294967295) (hv : n % 2147483648 = v) :
    Calls Try.prog 70 #[.int .i64 n] w fun e w' => e = .returned (.int .i64 v) ∧ w = w' := by
  have HV := Lib.hid hv
  clear hv
  go_enter Try.func70, Try.ntmps70
  go_wp2
  go_ret
  exact ⟨seq_ret (by have := HV.out; omega), rfl⟩
set_option maxHeartbeats 400000 in
theorem seq_add (n k : Int) (w : World) (v : Int) (k0 : -9223372036854775808 ≤ k) (k1 : k ≤ 9223372036854775807) (hv : addI n k = v) :
    Calls Try.prog 68 #[.int .i64 n, .int .i64 k] w fun e w' => e = .returned (.int .i64 v) ∧ w = w' := by
  rcases hr : rightB n with _ | _
  · have HV : Hid (v = -1) := by show _ = _; rw [← hv, add_no hr]
    have HR := Lib.hid hr
    clear hv hr
    go_enter Try.func68, Try.ntmps68
    go_wp2_with (go_at_call 69; refine (seq_right n _ false HR.out).mono ?_; rintro e w' ⟨rfl, rfl⟩)
    go_ret
    exact ⟨seq_ret HV.out.symm, rfl⟩
  · obtain ⟨n0, n1⟩ := of_right hr
    have HV : Hid ((n + k) % 2147483648 = v) := by show _ = _; rw [← hv, add_yes n0 n1]
    have HR := Lib.hid hr
    clear hv hr
    by_cases hk : 0 ≤ k
    · go_enter Try.func68, Try.ntmps68
      go_wp2_with (first | (go_at_call 69; refine (seq_right n _ true HR.out).mono ?_; rintro e w' ⟨rfl, rfl⟩) | (go_at_call 70; refine (seq_wrap _ _ v (by omega) (by omega) (by have := HV.out; omega)).mono ?_; rintro e w' ⟨rfl, rfl⟩))
      go_ret
      exact ⟨rfl, rfl⟩
    · have hk' : k < 0 := by omega
      obtain ⟨t, ht⟩ : ∃ t, t = k.tmod 2147483648 := ⟨_, rfl⟩
      have ht2 : t = -((-k) % 2147483648) := by
        rw [ht, ← Int.tmod_eq_emod_of_nonneg (by omega : 0 ≤ -k), Int.neg_tmod, Int.neg_neg]
      have HT : Hid (k.tmod 2147483648 = t) := ht.symm
      have HT2 := Lib.hid ht2
      have t0 : -2147483648 < t := by omega
      have t1 : t ≤ 0 := by omega
      have htt := HT.out
      clear ht ht2
      go_enter Try.func68, Try.ntmps68
      go_wp2_with (first | (go_at_call 69; refine (seq_right n _ true HR.out).mono ?_; rintro e w' ⟨rfl, rfl⟩) | (go_at_call 70; refine (seq_wrap _ _ v (by omega) (by omega) (by have := HV.out; have := HT2.out; omega)).mono ?_; rintro e w' ⟨rfl, rfl⟩))
      go_ret
      exact ⟨rfl, rfl⟩
end Go.Proofs.Ytinilkkpocnnpaa
namespace Go.Proofs.Ytinilkkpocnnpaa
open Go.RowKit
open Go.SeqMath
set_option linter.unusedVariables false

theorem seq_last (n c : Int) (w : World) (v : Int) (c0 : -9223372036854775808 ≤ c) (c1 : c ≤ 9223372036854775807) (hv : lastI n c = v) :
    Calls Try.prog 54 #[.int .i64 n, .int .i64 c] w fun e w' => e = .returned (.int .i64 v) ∧ w = w' := by
  by_cases h0 : c < 1
  · have HV : Hid (v = -1) := by show _ = _; rw [← hv, last_no (.inl h0)]
    clear hv
    go_enter Try.func54, Try.ntmps54
    go_wp2
    go_ret
    exact ⟨seq_ret HV.out.symm, rfl⟩
  · have h0' : 1 ≤ c := by omega
    by_cases h1 : 16 < c
    · have HV : Hid (v = -1) := by show _ = _; rw [← hv, last_no (.inr h1)]
      clear hv
      go_enter Try.func54, Try.ntmps54
      go_wp2
      go_ret
      exact ⟨seq_ret HV.out.symm, rfl⟩
    · have h1' : c ≤ 16 := by omega
      have HV : Hid (addI n (c - 1) = v) := by show _ = _; rw [← hv, last_yes h0' h1']
      clear hv
      go_enter Try.func54, Try.ntmps54
      go_wp2_with (go_at_call 68; refine (seq_add n _ _ v (by omega) (by omega) HV.out).mono ?_; rintro e w' ⟨rfl, rfl⟩)
      go_ret
      exact ⟨rfl, rfl⟩
end Go.Proofs.Ytinilkkpocnnpaa
namespace Go.Proofs.Ytinilkkpocnnpaa
open Go.RowKit
open Go.SeqMath
set_option linter.unusedVariables false

set_option maxHeartbeats 400000 in
theorem seq_gap (a b : Int) (w : World) (v : Int) (hv : gapI a b = v) :
    Calls Try.prog 56 #[.int .i64 a, .int .i64 b] w fun e w' => e = .returned (.int .i64 v) ∧ w = w' := by
  rcases ha : rightB a with _ | _
  · have HV : Hid (v = -1) := by show _ = _; rw [← hv, gap_no (.inl ha)]
    have HA := Lib.hid ha
    clear hv ha
    go_enter Try.func56, Try.ntmps56
    go_wp2_with (go_at_call 69; refine (seq_right a _ false HA.out).mono ?_; rintro e w' ⟨rfl, rfl⟩)
    go_ret
    exact ⟨seq_ret HV.out.symm, rfl⟩
  · rcases hb : rightB b with _ | _
    · have HV : Hid (v = -1) := by show _ = _; rw [← hv, gap_no (.inr hb)]
      have HA := Lib.hid ha
      have HB := Lib.hid hb
      clear hv ha hb
      go_enter Try.func56, Try.ntmps56
      go_wp2_with fail
      refine (seq_right a _ true HA.out).mono ?_
      rintro e w' ⟨rfl, rfl⟩
      go_wp2_with fail
      refine (seq_right b _ false HB.out).mono ?_
      rintro e w' ⟨rfl, rfl⟩
      go_wp2
      go_ret
      exact ⟨seq_ret HV.out.symm, rfl⟩
    · obtain ⟨a0, a1⟩ := of_right ha
      obtain ⟨b0, b1⟩ := of_right hb
      have HV : Hid ((b - a) % 2147483648 = v) := by show _ = _; rw [← hv, gap_yes a0 a1 b0 b1]
      have HA := Lib.hid ha
      have HB := Lib.hid hb
      clear hv ha hb
      go_enter Try.func56, Try.ntmps56
      go_wp2_with fail
      refine (seq_right a _ true HA.out).mono ?_
      rintro e w' ⟨rfl, rfl⟩
      go_wp2_with fail
      refine (seq_right b _ true HB.out).mono ?_
      rintro e w' ⟨rfl, rfl⟩
      go_wp2_with fail
      refine (seq_wrap _ _ v (by omega) (by omega) HV.out).mono ?_
      rintro e w' ⟨rfl, rfl⟩
      go_wp2
      go_ret
      exact ⟨rfl, rfl⟩
end Go.Proofs.Ytinilkkpocnnpaa
namespace Go.Proofs.Ytinilkkpocnnpaa
open Go.RowKit
open Go.SeqMath
set_option linter.unusedVariables false

set_option maxHeartbeats 400000 in
theorem seq_follows (l f : Int) (w : World) (r : Bool) (hr : followsB l f = r) :
    Calls Try.prog 57 #[.int .i64 l, .int .i64 f] w fun e w' => e = .returned (.bool r) ∧ w = w' := by
  by_cases hl : l = -1
  · subst hl
    rw [follows_none] at hr
    by_cases hf : f = 0
    · subst hf
      obtain rfl : r = true := by rw [← hr]; rfl
      clear hr
      go_enter Try.func57, Try.ntmps57
      go_wp2
      go_ret
      exact ⟨rfl, rfl⟩
    · obtain rfl : r = false := by rw [← hr]; exact decide_eq_false hf
      have hf1 : (f == 0) = false := by simpa using hf
      clear hr
      go_enter Try.func57, Try.ntmps57
      go_wp2
      go_ret
      exact ⟨rfl, rfl⟩
  · have hl1 : (l == -1) = false := by simpa using hl
    rcases hq : rightB l with _ | _
    · obtain rfl : r = false := by rw [← hr, follows_no hl hq]
      have HQ := Lib.hid hq
      clear hr hq
      go_enter Try.func57, Try.ntmps57
      go_wp2_with (go_at_call 69; refine (seq_right l _ false HQ.out).mono ?_; rintro e w' ⟨rfl, rfl⟩)
      go_ret
      exact ⟨rfl, rfl⟩
    · obtain ⟨l0, l1⟩ := of_right hq
      rw [follows_yes l0 l1] at hr
      obtain ⟨v, hv⟩ : ∃ v, addI l 1 = v := ⟨_, rfl⟩
      rw [hv] at hr
      have HV := Lib.hid hv
      have HQ := Lib.hid hq
      by_cases hf : f = v
      · subst hf
        obtain rfl : r = true := by rw [← hr]; exact decide_eq_true rfl
        clear hr hv hq
        go_enter Try.func57, Try.ntmps57
        go_wp2_with (first | (go_at_call 69; refine (seq_right l _ true HQ.out).mono ?_; rintro e w' ⟨rfl, rfl⟩) | (go_at_call 68; refine (seq_add l _ _ f (by omega) (by omega) HV.out).mono ?_; rintro e w' ⟨rfl, rfl⟩))
        go_ret
        exact ⟨rfl, rfl⟩
      · obtain rfl : r = false := by rw [← hr]; exact decide_eq_false hf
        have hf1 : (f == v) = false := by simpa using hf
        clear hr hv hq
        go_enter Try.func57, Try.ntmps57
        go_wp2_with (first | (go_at_call 69; refine (seq_right l _ true HQ.out).mono ?_; rintro e w' ⟨rfl, rfl⟩) | (go_at_call 68; refine (seq_add l _ _ v (by omega) (by omega) HV.out).mono ?_; rintro e w' ⟨rfl, rfl⟩))
        go_ret
        exact ⟨rfl, rfl⟩
end Go.Proofs.Ytinilkkpocnnpaa
namespace Go.Proofs.Ytinilkkpocnnpaa
open Go.RowKit
open Go.SeqMath
open Go.ProdMath
open Go.BatMath hiding AllB getD_lt take_all
set_option linter.unusedVariables false

/-- Three numbers as a value. -/
def Tr.val (x : Tr) : Value := .agg #[.int .i64 x.f, .int .i64 x.l, .int .i64 x.b]
theorem eq_three (a b c d e f : Int) (w : World) : (Op.equalIn 10000 59 (.agg #[.int .i64 a, .int .i64 b, .int .i64 c]) (.agg #[.int .i64 d, .int .i64 e, .int .i64 f])).run Try.prog w = .ok (a == d && (b == e && c == f)) w := by
  have u3 := Try.underlying2
  have a3 := Try.isAgg2
  have z3 := Try.sizeOf2
  rw [show (10000 : Nat) = 9999 + 1 from rfl, Op.equalIn]
  simp only [Sem.run_bind, run_underlying Try.underlying59, Result.andThen_ok]
  simp only [Std.Legacy.Range.forIn_eq_forIn_range', Std.Legacy.Range.size, Nat.sub_zero, Nat.add_sub_cancel, Nat.div_one, List.range'_succ, List.range'_zero, List.forIn_cons, List.forIn_nil]
  go_simp
  by_cases h1 : a = d <;> by_cases h2 : b = e <;> by_cases h3 : c = f <;> simp [h1, h2, h3]
theorem guard_three : Try.prog.eqGuardType Try.prog.depth 59 = false := by kernel_rfl
theorem neq_three (a b c d e f : Int) (r : Bool) (hr : (a == d && (b == e && c == f)) = r) (w : World) : (binOp .neq 59 (.agg #[.int .i64 a, .int .i64 b, .int .i64 c]) (.agg #[.int .i64 d, .int .i64 e, .int .i64 f])).run Try.prog w = .ok (.bool (!r)) w := by
  rw [run_neq_struct, eq_three, hr]; rfl
theorem eql_three (a b c d e f : Int) (r : Bool) (hr : (a == d && (b == e && c == f)) = r) (w : World) : (binOp .eql 59 (.agg #[.int .i64 a, .int .i64 b, .int .i64 c]) (.agg #[.int .i64 d, .int .i64 e, .int .i64 f])).run Try.prog w = .ok (.bool r) w := by
  rw [run_eql_struct, eq_three, hr]; rfl
theorem prOpen_any (w : World) (id ep op : Int) (ad : Option Addr) (n cap : Nat) (r : Bool) (hr : decide (0 ≤ op) = r) :
    Calls Try.prog 36 #[.agg #[.int .i64 id, .int .i64 ep, .slice ad n cap, .int .i64 op]] w fun e w' => e = .returned (.bool r) ∧ Below w.heap.size w w' := by
  have HR := Lib.hid hr
  clear hr
  obtain ⟨W0, hW0⟩ : ∃ W0, W0 = (w.alloc (.cells #[.int .i64 id, .int .i64 ep, .slice ad n cap, .int .i64 op] 40)) := ⟨_, rfl⟩
  have HB0 : Hid (Below w.heap.size w W0) := by show Below _ _ _; rw [hW0]; exact (Below.refl _ _).alloc (Nat.le_refl _) _
  have HP0 : Hid (PBox W0 w.heap.size (id) (ep) (.slice ad n cap) (op)) := by
    show PBox _ w.heap.size (id) (ep) (.slice ad n cap) (op)
    rw [hW0]
    have h1 := pbox_new w (id) (ep) (.slice ad n cap) (op)
    simpa using h1
  have HW0 := Lib.hid hW0
  clear hW0
  obtain ⟨B1, hB1⟩ : ∃ B, B = w.heap.size := ⟨_, rfl⟩
  rw [← hB1] at HP0
  go_enter Try.func36, Try.ntmps36
  go_upto_region 1 with fail
  rw [← HW0.out, ← hB1]
  clear HW0 hB1
  have q3 := HP0.out.c3
  go_wp2
  go_ret
  exact ⟨by rw [← HR.out]; rfl, HB0.out⟩
theorem prOffset_any (w : World) (n : Int) (r : Bool) (hr : (decide (0 ≤ n) && decide (n ≤ 1099511627776)) = r) :
    Calls Try.prog 37 #[.int .i64 n] w fun e w' => e = .returned (.bool r) ∧ w = w' := by
  have HR := Lib.hid hr
  clear hr
  by_cases h0 : 0 ≤ n
  · have hd0 : decide (0 ≤ n) = true := decide_eq_true h0
    go_enter Try.func37, Try.ntmps37
    go_wp2
    go_ret
    exact ⟨by rw [← HR.out, hd0]; rfl, rfl⟩
  · have hd0 : decide (0 ≤ n) = false := decide_eq_false h0
    go_enter Try.func37, Try.ntmps37
    go_wp2
    go_ret
    exact ⟨by rw [← HR.out, hd0]; rfl, rfl⟩
set_option maxHeartbeats 1000000 in
theorem prEnd_any (w : World) (b0 b1 b2 b3 : Int) (b4 : Bool) (b5 : Int) (rd : Option Addr) (rn rc : Nat) (hm : b5 = 0) (hrn : rn ≤ 140737488355328) (v : Int) (hv : lastI b3 rn = v) :
    Calls Try.prog 35 #[.agg #[.int .i64 b0, .int .i64 b1, .int .i64 b2, .int .i64 b3, .bool b4, .int .i64 b5, .slice rd rn rc]] w fun e w' => e = .returned (.int .i64 v) ∧ Below w.heap.size w w' := by
  have HM := Lib.hid hm
  have HV := Lib.hid hv
  clear hm hv
  obtain ⟨W0, hW0⟩ : ∃ W0, W0 = (w.alloc (.cells #[.int .i64 b0, .int .i64 b1, .int .i64 b2, .int .i64 b3, .bool b4, .int .i64 b5, .slice rd rn rc] 33)) := ⟨_, rfl⟩
  have HB0 : Hid (Below w.heap.size w W0) := by show Below _ _ _; rw [hW0]; exact (Below.refl _ _).alloc (Nat.le_refl _) _
  have HX0 : Hid (BoxAt W0 w.heap.size b0 b1 b2 b3 b4 b5 (.slice rd rn rc)) := by
    show BoxAt _ w.heap.size b0 b1 b2 b3 b4 b5 (.slice rd rn rc)
    rw [hW0]
    have h1 := boxAt_new w b0 b1 b2 b3 b4 b5 (.slice rd rn rc)
    simpa using h1
  have HW0 := Lib.hid hW0
  clear hW0
  obtain ⟨B1, hB1⟩ : ∃ B, B = w.heap.size := ⟨_, rfl⟩
  rw [← hB1] at HX0
  go_enter Try.func35, Try.ntmps35
  go_upto_region 1 with fail
  rw [← HW0.out, ← hB1]
  clear HW0 hB1
  have KS : Hid (∀ W, Below W0.heap.size W0 W → (fun (W : World) => W.cell? ⟨B1, 0, none⟩ = some (.int .i64 b0) ∧ W.cell? ⟨B1, 1, none⟩ = some (.int .i64 b1) ∧ W.cell? ⟨B1, 2, none⟩ = some (.int .i64 b2) ∧ W.cell? ⟨B1, 3, none⟩ = some (.int .i64 b3) ∧ W.cell? ⟨B1, 4, none⟩ = some (.bool b4) ∧ W.cell? ⟨B1, 5, none⟩ = some (.int .i64 b5) ∧ W.cell? ⟨B1, 6, none⟩ = some (.slice rd rn rc) ∧ Below W0.heap.size W0 W) W) := by
    intro W hW
    have hX := HX0.out.on hW
    exact ⟨hX.c0, hX.c1, hX.c2, hX.c3, hX.c4, hX.c5, hX.c6, hW⟩
  refine wp_region_noPanic ?_
  refine wp_region_z [] (fun (W : World) => W.cell? ⟨B1, 0, none⟩ = some (.int .i64 b0) ∧ W.cell? ⟨B1, 1, none⟩ = some (.int .i64 b1) ∧ W.cell? ⟨B1, 2, none⟩ = some (.int .i64 b2) ∧ W.cell? ⟨B1, 3, none⟩ = some (.int .i64 b3) ∧ W.cell? ⟨B1, 4, none⟩ = some (.bool b4) ∧ W.cell? ⟨B1, 5, none⟩ = some (.int .i64 b5) ∧ W.cell? ⟨B1, 6, none⟩ = some (.slice rd rn rc) ∧ Below W0.heap.size W0 W) (by kernel_rfl) ?_
  have hHeld : (fun (W : World) => W.cell? ⟨B1, 0, none⟩ = some (.int .i64 b0) ∧ W.cell? ⟨B1, 1, none⟩ = some (.int .i64 b1) ∧ W.cell? ⟨B1, 2, none⟩ = some (.int .i64 b2) ∧ W.cell? ⟨B1, 3, none⟩ = some (.int .i64 b3) ∧ W.cell? ⟨B1, 4, none⟩ = some (.bool b4) ∧ W.cell? ⟨B1, 5, none⟩ = some (.int .i64 b5) ∧ W.cell? ⟨B1, 6, none⟩ = some (.slice rd rn rc) ∧ Below W0.heap.size W0 W) _ := KS.out _ (Below.refl _ W0).drew
  obtain ⟨u0, hu0⟩ : ∃ u, u = W0.drew := ⟨_, rfl⟩
  have HU0 : Hid (Below W0.heap.size W0 u0) := by show Below _ _ _; rw [hu0]; exact (Below.refl _ W0).drew
  rw [← hu0] at hHeld
  rw [← hu0]
  clear hu0
  refine wpAnyZ_take (i := 0) (oi := ⟨_, _, _, _, _, _⟩) (v := ?_) rfl (by kernel_rfl) (by kernel_rfl) (by kernel_rfl) (by kernel_rfl) (by kernel_rfl) (fun _ _ _ h => h) (Or.inl ⟨by rfl, ?_⟩) (by assumption) ?_
  rotate_left
  · intro W hSw
    (try dsimp only at hSw)
    go_simp
    (try with_reducible rfl)
  (try simp only [Act.put, List.setIfInBounds_toArray, List.set_cons_zero, List.set_cons_succ])
  refine wpAnyZ_take (i := 1) (oi := ⟨_, _, _, _, _, _⟩) (v := ?_) rfl (by kernel_rfl) (by kernel_rfl) (by kernel_rfl) (by kernel_rfl) (by kernel_rfl) (fun _ _ _ h => h) (Or.inl ⟨by rfl, ?_⟩) (by assumption) ?_
  rotate_left
  · intro W hSw
    (try dsimp only at hSw)
    go_simp
    (try with_reducible rfl)
  (try simp only [Act.put, List.setIfInBounds_toArray, List.set_cons_zero, List.set_cons_succ])
  refine wpAnyZ_take (i := 2) (oi := ⟨_, _, _, _, _, _⟩) (v := ?_) rfl (by kernel_rfl) (by kernel_rfl) (by kernel_rfl) (by kernel_rfl) (by kernel_rfl) (fun _ _ _ h => h) (Or.inl ⟨by rfl, ?_⟩) (by assumption) ?_
  rotate_left
  · intro W hSw
    (try dsimp only at hSw)
    go_simp
    (try with_reducible rfl)
  (try simp only [Act.put, List.setIfInBounds_toArray, List.set_cons_zero, List.set_cons_succ])
  refine wpAnyZ_ready (rs := [3]) (by kernel_rfl) (by simp) ?_
  refine AllReadyZ.cons (o := ⟨_, _, _, _, _, _⟩) rfl (fun C hC => ?_) AllReadyZ.nil
  go_simp
  refine (batCount_any u0 b0 b1 b2 b3 b4 b5 rd rn rc (rn : Int) (by rw [if_neg (fun h => h HM.out)])).mono ?_
  rintro e u1 ⟨rfl, hb1⟩
  have HU1 := Lib.hid (HU0.out.trans (hb1.mono HU0.out.size))
  clear hb1
  go_wp2_with fail
  have hHeld : (fun (W : World) => W.cell? ⟨B1, 0, none⟩ = some (.int .i64 b0) ∧ W.cell? ⟨B1, 1, none⟩ = some (.int .i64 b1) ∧ W.cell? ⟨B1, 2, none⟩ = some (.int .i64 b2) ∧ W.cell? ⟨B1, 3, none⟩ = some (.int .i64 b3) ∧ W.cell? ⟨B1, 4, none⟩ = some (.bool b4) ∧ W.cell? ⟨B1, 5, none⟩ = some (.int .i64 b5) ∧ W.cell? ⟨B1, 6, none⟩ = some (.slice rd rn rc) ∧ Below W0.heap.size W0 W) u1 := KS.out _ HU1.out
  refine hC.out _ _ (fun _ => hHeld) (fun _ => ?_)
  clear hC C
  (try simp only [Act.put, List.setIfInBounds_toArray, List.set_cons_zero, List.set_cons_succ])
  refine wpAnyZ_ready (rs := [4]) (by kernel_rfl) (by simp) ?_
  refine AllReadyZ.cons (o := ⟨_, _, _, _, _, _⟩) rfl (fun C hC => ?_) AllReadyZ.nil
  go_simp
  refine (seq_last b3 rn u1 v (by omega) (by omega) HV.out).mono ?_
  rintro e u2 ⟨rfl, rfl⟩
  go_wp2_with fail
  have hHeld : (fun (W : World) => W.cell? ⟨B1, 0, none⟩ = some (.int .i64 b0) ∧ W.cell? ⟨B1, 1, none⟩ = some (.int .i64 b1) ∧ W.cell? ⟨B1, 2, none⟩ = some (.int .i64 b2) ∧ W.cell? ⟨B1, 3, none⟩ = some (.int .i64 b3) ∧ W.cell? ⟨B1, 4, none⟩ = some (.bool b4) ∧ W.cell? ⟨B1, 5, none⟩ = some (.int .i64 b5) ∧ W.cell? ⟨B1, 6, none⟩ = some (.slice rd rn rc) ∧ Below W0.heap.size W0 W) _ := hHeld
  refine hC.out _ _ (fun _ => hHeld) (fun _ => ?_)
  clear hC C
  (try simp only [Act.put, List.setIfInBounds_toArray, List.set_cons_zero, List.set_cons_succ])
  refine wpAnyZ_take (i := 5) (oi := ⟨_, _, _, _, _, _⟩) (v := ?_) rfl (by kernel_rfl) (by kernel_rfl) (by kernel_rfl) (by kernel_rfl) (by kernel_rfl) (fun _ _ _ h => h) (Or.inl ⟨by rfl, ?_⟩) (by assumption) ?_
  rotate_left
  · intro W hSw
    (try dsimp only at hSw)
    go_simp
    (try with_reducible rfl)
  (try simp only [Act.put, List.setIfInBounds_toArray, List.set_cons_zero, List.set_cons_succ])
  refine wpAnyZ_done (by kernel_rfl) ?_ _
  refine NoPanic.normal ?_
  clear hHeld
  go_wp2
  go_ret
  exact ⟨rfl, HB0.out.trans (HU1.out.mono HB0.out.size)⟩
theorem trOk_iff {x : Tr} {r : Bool} (hr : r = true ↔ TrOk x) : r = (decide (0 ≤ gapI x.f x.l) && decide (gapI x.f x.l < 16) && (decide (0 ≤ x.b) && decide (x.b ≤ 1099511627776))) := by
  rw [Bool.eq_iff_iff, hr]
  simp [TrOk, and_assoc]
theorem trNext_iff {y x : Tr} {r : Bool} (hr : r = true ↔ TrNext y x) : r = (decide (y.b < x.b) && followsB y.l x.f) := by
  rw [Bool.eq_iff_iff, hr]
  simp [TrNext]
set_option maxHeartbeats 1000000 in
theorem prElement_any (w : World) (x : Tr) (r : Bool) (hr : r = true ↔ TrOk x) :
    Calls Try.prog 38 #[.agg #[.int .i64 x.f, .int .i64 x.l, .int .i64 x.b]] w fun e w' => e = .returned (.bool r) ∧ Below w.heap.size w w' := by
  have HR := Lib.hid (trOk_iff hr)
  clear hr
  obtain ⟨g, hg⟩ : ∃ g, gapI x.f x.l = g := ⟨_, rfl⟩
  rw [hg] at HR
  have HG := Lib.hid hg
  clear hg
  obtain ⟨o, ho⟩ : ∃ o, (decide (0 ≤ x.b) && decide (x.b ≤ 1099511627776)) = o := ⟨_, rfl⟩
  rw [ho] at HR
  have HO := Lib.hid ho
  clear ho
  obtain ⟨W0, hW0⟩ : ∃ W0, W0 = (w.alloc (.cells #[.int .i64 x.f, .int .i64 x.l, .int .i64 x.b] 59)) := ⟨_, rfl⟩
  have HB0 : Hid (Below w.heap.size w W0) := by show Below _ _ _; rw [hW0]; exact (Below.refl _ _).alloc (Nat.le_refl _) _
  have HT0 : Hid (TBox W0 w.heap.size x) := by
    show TBox _ w.heap.size x
    rw [hW0]
    have h1 := tbox_new w x
    simpa using h1
  have HW0 := Lib.hid hW0
  clear hW0
  obtain ⟨B1, hB1⟩ : ∃ B, B = w.heap.size := ⟨_, rfl⟩
  rw [← hB1] at HT0
  go_enter Try.func38, Try.ntmps38
  go_upto_region 1 with fail
  rw [← HW0.out, ← hB1]
  clear HW0 hB1
  have t0 := HT0.out.c0
  have t1 := HT0.out.c1
  have t2 := HT0.out.c2
  by_cases h0 : 0 ≤ g
  · have hd0 : decide (0 ≤ g) = true := decide_eq_true h0
    by_cases h1 : g < 16
    · have hd1 : decide (g < 16) = true := decide_eq_true h1
      have HE : Hid (r = o) := by show r = o; rw [HR.out, hd0, hd1]; rfl
      clear HR h0 h1
      go_wp2_with fail
      refine (seq_gap x.f x.l _ g HG.out).mono ?_
      rintro e w' ⟨rfl, rfl⟩
      go_wp2_with fail
      refine (prOffset_any _ x.b o HO.out).mono ?_
      rintro e w' ⟨rfl, rfl⟩
      go_wp2
      go_ret
      exact ⟨by rw [HE.out]; rfl, HB0.out⟩
    · have hd1 : decide (g < 16) = false := decide_eq_false h1
      have HE : Hid (r = false) := by show r = _; rw [HR.out, hd0, hd1]; rfl
      clear HR h0 h1
      go_wp2_with fail
      refine (seq_gap x.f x.l _ g HG.out).mono ?_
      rintro e w' ⟨rfl, rfl⟩
      go_wp2
      go_ret
      exact ⟨by rw [HE.out]; rfl, HB0.out⟩
  · have hd0 : decide (0 ≤ g) = false := decide_eq_false h0
    have HE : Hid (r = false) := by show r = _; rw [HR.out, hd0]; rfl
    clear HR h0
    go_wp2_with fail
    refine (seq_gap x.f x.l _ g HG.out).mono ?_
    rintro e w' ⟨rfl, rfl⟩
    go_wp2
    go_ret
    exact ⟨by rw [HE.out]; rfl, HB0.out⟩
theorem prBehind_any (w : World) (y x : Tr) (r : Bool) (hr : r = true ↔ TrNext y x) :
    Calls Try.prog 39 #[.agg #[.int .i64 y.f, .int .i64 y.l, .int .i64 y.b], .agg #[.int .i64 x.f, .int .i64 x.l, .int .i64 x.b]] w fun e w' => e = .returned (.bool r) ∧ Below w.heap.size w w' := by
  have HR := Lib.hid (trNext_iff hr)
  clear hr
  obtain ⟨o, ho⟩ : ∃ o, followsB y.l x.f = o := ⟨_, rfl⟩
  rw [ho] at HR
  have HO := Lib.hid ho
  clear ho
  obtain ⟨W0, hW0⟩ : ∃ W0, W0 = ((w.alloc (.cells #[.int .i64 y.f, .int .i64 y.l, .int .i64 y.b] 59)).alloc (.cells #[.int .i64 x.f, .int .i64 x.l, .int .i64 x.b] 59)) := ⟨_, rfl⟩
  have HB0 : Hid (Below w.heap.size w W0) := by show Below _ _ _; rw [hW0]; exact ((Below.refl _ _).alloc (Nat.le_refl _) _).alloc (by simp) _
  have HT0 : Hid (TBox W0 w.heap.size y) := by
    show TBox _ w.heap.size y
    rw [hW0]
    have h1 := tbox_new w y
    have h2 := h1.on ((Below.refl _ _).alloc (Nat.le_refl _) (.cells #[.int .i64 x.f, .int .i64 x.l, .int .i64 x.b] 59))
    simpa using h2
  have HT1 : Hid (TBox W0 (w.heap.size + 1) x) := by
    show TBox _ (w.heap.size + 1) x
    rw [hW0]
    have h1 := tbox_new (w.alloc (.cells #[.int .i64 y.f, .int .i64 y.l, .int .i64 y.b] 59)) x
    simpa using h1
  have HW0 := Lib.hid hW0
  clear hW0
  obtain ⟨B1, hB1⟩ : ∃ B, B = w.heap.size := ⟨_, rfl⟩
  obtain ⟨B2, hB2⟩ : ∃ B, B = w.heap.size + 1 := ⟨_, rfl⟩
  rw [← hB1] at HT0
  rw [← hB2] at HT1
  go_enter Try.func39, Try.ntmps39
  go_upto_region 1 with fail
  rw [← HW0.out, ← hB2, ← hB1]
  clear HW0 hB1 hB2
  have t0 := HT0.out.c0
  have t1 := HT0.out.c1
  have t2 := HT0.out.c2
  have s0 := HT1.out.c0
  have s1 := HT1.out.c1
  have s2 := HT1.out.c2
  by_cases h0 : y.b < x.b
  · have hd0 : decide (y.b < x.b) = true := decide_eq_true h0
    have HE : Hid (r = o) := by show r = o; rw [HR.out, hd0]; rfl
    clear HR h0
    go_wp2_with fail
    refine (seq_follows y.l x.f _ o HO.out).mono ?_
    rintro e w' ⟨rfl, rfl⟩
    go_wp2
    go_ret
    exact ⟨by rw [HE.out]; rfl, HB0.out⟩
  · have hd0 : decide (y.b < x.b) = false := decide_eq_false h0
    have HE : Hid (r = false) := by show r = _; rw [HR.out, hd0]; rfl
    clear HR h0
    go_wp2
    go_ret
    exact ⟨by rw [HE.out]; rfl, HB0.out⟩
end Go.Proofs.Ytinilkkpocnnpaa
