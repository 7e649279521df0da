/- Bits of bytes as numbers: the lowest one; bytes one beside another in an int; a batch's box, a field of it written. The call's own rows of records: what they read as; append of one record, or of a whole list. The document's own Recs, Same of chapter 6. The document's own 'inner' of chapter 6: what stands under the sum. -/
import Derived.Test.YtlcnpeodhfdhlaaGBats
import Derived.Test.YtlcnpeodhfdhlaaGVar
import Derived.Test.YtlcnpeodhfdhlaaGRows
import Derived.OwnWalk
import Derived.Deep.RegionHeld3
import Derived.BigQuiet
import Derived.Laws.ResultCell
import Derived.Deep.CutRange
/-! Bits of bytes as numbers: the lowest one; bytes one beside another in an int; a batch's box, a field of it written. -/
namespace Go.Proofs.Ytlcnpeodhfdhlaa
open Go.RowKit
open Go.BatMath hiding AllB getD_lt take_all
open Go.VarMath (backB)
set_option linter.unusedVariables false

theorem u8_low (x : Nat) (h : x < 256) : bits .and .u8 (x : Int) 1 = ((x % 2 : Nat) : Int) := by
  have h1 : (BitVec.ofInt 8 1).toNat = 2 ^ 1 - 1 := by decide
  have key : (BitVec.ofInt 8 (x : Int) &&& BitVec.ofInt 8 1).toNat = ((x : Int) % ((2 ^ 8 : Nat) : Int)).toNat % 2 ^ 1 := by
    rw [BitVec.toNat_and, BitVec.toNat_ofInt, h1, Nat.and_two_pow_sub_one_eq_mod]
  show IntKind.u8.wrap ((BitVec.ofInt 8 (x : Int) &&& BitVec.ofInt 8 1).toNat : Nat) = _
  rw [key, IntKind.wrap_u8]
  omega
theorem bits_join (k a b : Nat) (ha : a % 2 ^ k = 0) (hb : b < 2 ^ k) : a ||| b = a + b := by
  obtain ⟨c, rfl⟩ : ∃ c, a = 2 ^ k * c := ⟨a / 2 ^ k, by have := Nat.div_add_mod a (2 ^ k); omega⟩
  exact (Nat.two_pow_add_eq_or_of_lt hb c).symm
theorem i64_or (k a b : Nat) (ha : a % 2 ^ k = 0) (hb : b < 2 ^ k) (h : a + b < 9223372036854775808) : bits .or .i64 (a : Int) (b : Int) = ((a + b : Nat) : Int) := by
  have h1 : (BitVec.ofInt 64 (a : Int)).toNat = a := by rw [BitVec.toNat_ofInt]; omega
  have h2 : (BitVec.ofInt 64 (b : Int)).toNat = b := by rw [BitVec.toNat_ofInt]; omega
  show IntKind.i64.wrap ((BitVec.ofInt 64 (a : Int) ||| BitVec.ofInt 64 (b : Int)).toNat : Nat) = _
  rw [BitVec.toNat_or, h1, h2, bits_join k a b ha hb, IntKind.wrap_i64]
  omega
section
variable {w : World} {k : Nat} {b0 b1 b2 b3 : Int} {b4 : Bool} {b5 : Int} {v : Value}
theorem BoxAt.s0 (h : BoxAt w k b0 b1 b2 b3 b4 b5 v) (n : Int) : BoxAt (w.setCell ⟨k, 0, none⟩ (.int .i64 n)) k n b1 b2 b3 b4 b5 v := box_set h 0 _
theorem BoxAt.s1 (h : BoxAt w k b0 b1 b2 b3 b4 b5 v) (n : Int) : BoxAt (w.setCell ⟨k, 1, none⟩ (.int .i64 n)) k b0 n b2 b3 b4 b5 v := box_set h 1 _
theorem BoxAt.s2 (h : BoxAt w k b0 b1 b2 b3 b4 b5 v) (n : Int) : BoxAt (w.setCell ⟨k, 2, none⟩ (.int .i64 n)) k b0 b1 n b3 b4 b5 v := box_set h 2 _
theorem BoxAt.s3 (h : BoxAt w k b0 b1 b2 b3 b4 b5 v) (n : Int) : BoxAt (w.setCell ⟨k, 3, none⟩ (.int .i64 n)) k b0 b1 b2 n b4 b5 v := box_set h 3 _
theorem BoxAt.s4 (h : BoxAt w k b0 b1 b2 b3 b4 b5 v) (n : Bool) : BoxAt (w.setCell ⟨k, 4, none⟩ (.bool n)) k b0 b1 b2 b3 n b5 v := box_set h 4 _
theorem BoxAt.s5 (h : BoxAt w k b0 b1 b2 b3 b4 b5 v) (n : Int) : BoxAt (w.setCell ⟨k, 5, none⟩ (.int .i64 n)) k b0 b1 b2 b3 b4 n v := box_set h 5 _
theorem BoxAt.s6 (h : BoxAt w k b0 b1 b2 b3 b4 b5 v) (u : Value) : BoxAt (w.setCell ⟨k, 6, none⟩ u) k b0 b1 b2 b3 b4 b5 u := box_set h 6 _
theorem BoxAt.off (h : BoxAt w k b0 b1 b2 b3 b4 b5 v) {j i : Nat} (hj : j ≠ k) (u : Value) : BoxAt (w.setCell ⟨j, i, none⟩ u) k b0 b1 b2 b3 b4 b5 v := box_off h hj u
theorem BoxAt.drew (h : BoxAt w k b0 b1 b2 b3 b4 b5 v) : BoxAt w.drew k b0 b1 b2 b3 b4 b5 v := h
end
/-- 'x[k:]', k a number that is written in the text. -/
theorem from_lit {w : World} {b off len cap : Nat} {bs : List Nat} (h : Byt w (some ⟨b, off, none⟩) len cap bs) (k : Nat) (z : Int) (hz : z = (k : Int)) (hk : k ≤ len) :
    ∃ o c, (∀ W, (Instr.slice 26 (.slice (some ⟨b, off, none⟩) len cap) (some (.int .i64 z)) none none).run Try.prog W = .ok (.slice (some ⟨b, o, none⟩) (len - k) c) W) ∧ Byt w (some ⟨b, o, none⟩) (len - k) c (bs.drop k) := by
  subst hz
  exact ⟨_, _, fun W => run_from b off len cap k hk W, byt_from h k hk⟩
/-- 'x[12:h]'. -/
theorem part_lit {w : World} {b off len cap : Nat} {bs : List Nat} (h : Byt w (some ⟨b, off, none⟩) len cap bs) (k m : Nat) (z y : Int) (hz : z = (k : Int)) (hy : y = (k : Int) + (m : Int)) (hk : k + m ≤ len) :
    ∃ o c, (∀ W, (Instr.slice 26 (.slice (some ⟨b, off, none⟩) len cap) (some (.int .i64 z)) (some (.int .i64 y)) none).run Try.prog W = .ok (.slice (some ⟨b, o, none⟩) m c) W) ∧ Byt w (some ⟨b, o, none⟩) m c ((bs.drop k).take m) := by
  subst hz hy
  exact cut_run h k m hk
theorem Byt.get {w : World} {ad : Option Addr} {len cap : Nat} {bs : List Nat} (h : Byt w ad len cap bs) (hp : 0 < len) : ∃ b off, ad = some ⟨b, off, none⟩ ∧ ∀ i, i < len → w.cell? ⟨b, off + i, none⟩ = some (.int .u8 (bs.getD i 0 : Nat)) := by
  rcases h.cells with h0 | h1
  · omega
  · exact h1
end Go.Proofs.Ytlcnpeodhfdhlaa

/-! The call's own rows of records: what they read as; append of one record, or of a whole list. -/
namespace Go.Proofs.Ytlcnpeodhfdhlaa
open Go.RowKit
open Go.BatMath hiding AllB getD_lt take_all
set_option linter.unusedVariables false

def recVals (l : List Rc) : List Value := l.flatMap fun r => [.string r.key, .string r.val]
theorem recVals_len : ∀ l : List Rc, (recVals l).length = l.length * 2
  | [] => rfl
  | r :: l => by rw [recVals, List.flatMap_cons, List.length_append]; have := recVals_len l; unfold recVals at this; rw [this]; simp; omega
theorem recVals_app (a b : List Rc) : recVals (a ++ b) = recVals a ++ recVals b := by simp [recVals]
theorem recVals_at : ∀ (l : List Rc) (i : Nat) (r : Rc), l[i]? = some r → (recVals l)[i * 2]? = some (.string r.key) ∧ (recVals l)[i * 2 + 1]? = some (.string r.val)
  | [], i, r, h => by cases h
  | x :: l, 0, r, h => by
    cases h
    exact ⟨rfl, rfl⟩
  | x :: l, i + 1, r, h => by
    have ih := recVals_at l i r h
    have e : recVals (x :: l) = .string x.key :: .string x.val :: recVals l := rfl
    rw [e, show (i + 1) * 2 = i * 2 + 1 + 1 by omega]
    exact ih
theorem recVals_one (l : List Rc) : ∀ u ∈ recVals l, u.oneCell' = true := by
  intro u hu
  obtain ⟨r, _, h⟩ := List.mem_flatMap.1 hu
  rcases List.mem_cons.1 h with rfl | h
  · rfl
  · rcases List.mem_cons.1 h with rfl | h
    · rfl
    · cases h
def OwnRecs (w : World) (base : Nat) (v : Value) (l : List Rc) : Prop := w.ownsRow base 104 2 v l.length (recVals l)
theorem ownRecs_nil (w : World) (base : Nat) : OwnRecs w base (.slice none 0 0) [] := World.ownsRow_nil w base 104 2
theorem OwnRecs.low {w : World} {base base' : Nat} {v : Value} {l : List Rc} (h : OwnRecs w base v l) (hb : base' ≤ base) : OwnRecs w base' v l := by
  refine ⟨h.1, ?_⟩
  rcases h.2 with hn | ⟨g, cap, cur, rfl, hbg, hh, r⟩
  · exact .inl hn
  · exact .inr ⟨g, cap, cur, rfl, Nat.le_trans hb hbg, hh, r⟩
theorem OwnRecs.on {w w' : World} {base : Nat} {v : Value} {l : List Rc} (h : OwnRecs w base v l) (hb : Below w.heap.size w w') : OwnRecs w' base v l := by
  refine ⟨h.1, ?_⟩
  rcases h.2 with hn | ⟨g, cap, cur, rfl, hbg, hh, r⟩
  · exact .inl hn
  · exact .inr ⟨g, cap, cur, rfl, hbg, (hb.block g (lt_of_block hh)).trans hh, r⟩
/-- A cell of a block below the row is written. -/
theorem OwnRecs.set {w : World} {base k j : Nat} {u v : Value} {l : List Rc} (h : OwnRecs w base v l) (hk : k < base) : OwnRecs (w.setCell ⟨k, j, none⟩ u) base v l := by
  refine ⟨h.1, ?_⟩
  rcases h.2 with hn | ⟨g, cap, cur, rfl, hbg, hh, r⟩
  · exact .inl hn
  · exact .inr ⟨g, cap, cur, rfl, hbg, box_off hh (by omega) u, r⟩
theorem OwnRecs.at {w : World} {base : Nat} {v : Value} {l : List Rc} (h : OwnRecs w base v l) : ∃ ad cap, v = .slice ad l.length cap ∧ RecsAt w ad l.length cap l ∧ (∀ a, ad = some a → base ≤ a.block) := by
  rcases h.2 with ⟨hn, h0⟩ | ⟨g, cap, cur, rfl, hbg, hh, hc, _, _, ht⟩
  · have hl := List.eq_nil_of_length_eq_zero h0
    subst hl
    exact ⟨none, 0, hn, recsAt_nil w, fun a h => by cases h⟩
  · refine ⟨_, _, rfl, ⟨rfl, hc, (fun h => by cases h), .inr ⟨g, 0, rfl, lt_of_block hh, fun i r hi => ?_⟩⟩, fun a h => by cases h; exact hbg⟩
    have hil : i < l.length := (List.getElem?_eq_some_iff.1 hi).1
    obtain ⟨h1, h2⟩ := recVals_at l i r hi
    rw [← ht, List.getElem?_take, if_pos (by omega)] at h1 h2
    rw [Nat.zero_add]
    refine ⟨?_, ?_⟩
    · rw [cell_of_row w g _ _ _ _ hh]; simpa using h1
    · rw [cell_of_row w g _ _ _ _ hh]; simpa using h2
theorem infoRec : (Try.prog.info? 104).map (fun i => (i.zero, i.size, i.bytes)) = some (some (.agg #[.string ⟨#[]⟩, .string ⟨#[]⟩]), 2, 32) := by kernel_rfl
/-- What a block of records reads as, record by record. -/
def RecNews (w : World) (a : Addr) (l : List Rc) : Prop := ∀ j u, (recVals l)[j]? = some u → w.cell? (a.add j) = some u
theorem recNews_lit (w : World) (k s : ByteArray) (g : Nat) (hg : g = w.heap.size) : RecNews (w.alloc (.cells #[.string k, .string s] 104)) ⟨g, 0, none⟩ [⟨k, s⟩] := by
  subst hg
  intro j u hj
  rw [add_at, Nat.zero_add]
  have hh : (w.alloc (.cells #[.string k, .string s] 104)).heap[w.heap.size]? = some (.cells #[.string k, .string s] 104 (0, 0)) := heap_alloc_new w _
  rw [cell_of_row _ _ _ _ _ _ hh]
  simpa [recVals] using hj
theorem run_recs_append (w : World) (base : Nat) (v : Value) (l m : List Rc) (ty : Nat) (hown : OwnRecs w base v l) (ad : Addr) (cap : Nat) (hr : RecNews w ad m) (hn : l.length + m.length ≤ 1000000) (hbase : base ≤ w.heap.size) :
    ∃ v' w', (Builtin.append_ #[49, 49] ty #[v, .slice (some ad) m.length cap]).run Try.prog w = .ok v' w' ∧ OwnRecs w' base v' (l ++ m) ∧ w.grownBy w' v.ownBlock := by
  obtain ⟨i0, hi, hz0, hz1, hz2⟩ := info_parts infoRec
  obtain ⟨v', w', hrun, h2, h3, _⟩ := run_append_own (P := Try.prog) w base 49 ty 104 i0 (.agg #[.string ⟨#[]⟩, .string ⟨#[]⟩]) 2 32 Try.underlying49 hi hz0 hz1 hz2 rfl (by decide) v l.length (recVals l) hown ad m.length cap (recVals m) (recVals_len m) hr (recVals_one m) (by unfold maxLen; omega) (by omega) hbase
  refine ⟨v', w', hrun, ?_, h3⟩
  unfold OwnRecs
  rw [recVals_app, List.length_append]
  exact h2
theorem list_recs {w : World} {ops : Array Oper} {rest : List Oper} {o : Oper} {a : Act} {Q : Exit → Act → World → Prop} (hw : Region.wanted o (yielded ops a.tmps) = true) (s x : Operand)
    (ho : o.op = .call { callee := .builtin .append, args := #[s, x], argTypes := #[49, 49] })
    (base : Nat) (l m : List Rc) (v : Value) (hs : a.eval s = v) (hown : OwnRecs w base v l) (hbase : base ≤ w.heap.size)
    (ad : Addr) (n cap : Nat) (hnm : m.length = n) (hx : a.eval x = .slice (some ad) n cap) (hr : RecNews w ad m) (hn : l.length + n ≤ 1000000)
    (h : ∀ v' w', OwnRecs w' base v' (l ++ m) → w.grownBy w' v.ownBlock → wpList Try.prog ops Q rest (a.put o.dst v') w') :
    wpList Try.prog ops Q (o :: rest) a w := by
  subst hnm
  refine BigFrame.wpList_want hw fun K hK => ?_
  obtain ⟨v', w', hrun, h2, h3⟩ := run_recs_append w base v l m o.type hown ad cap hr hn hbase
  unfold Oper.wp execOp
  simp only [ho, resolve, invoke, builtin, Sem.run_bind, Sem.run_pure, Result.andThen_ok, List.map_toArray, List.map_cons, List.map_nil, hs, hx, hrun]
  exact hK _ _ (h v' w' h2 h3)
theorem BoxAt.grown {w w' : World} {k base : Nat} {b0 b1 b2 b3 : Int} {b4 : Bool} {b5 : Int} {u v : Value} {l : List Rc} (h : BoxAt w k b0 b1 b2 b3 b4 b5 u) (ho : OwnRecs w base v l) (hk : k < base) (hg : w.grownBy w' v.ownBlock) : BoxAt w' k b0 b1 b2 b3 b4 b5 u := by
  unfold BoxAt at *
  rw [hg.block k (lt_of_block h) (fun e => by have := (ho.lt k e.symm).1; omega)]
  exact h
theorem Below.recs {w0 w w' : World} {base B : Nat} {v : Value} {l : List Rc} (h : Below B w0 w) (ho : OwnRecs w base v l) (hB : B ≤ base) (hs : B ≤ w.heap.size) (hg : w.grownBy w' v.ownBlock) : Below B w0 w' :=
  h.grown hg hs (fun k hk => by have := (ho.lt k hk).1; omega)
/-- A cell of another block than the records' is written. -/
theorem RecsAt.put {w : World} {base j len cap : Nat} {ad : Option Addr} {l : List Rc} {u : Value} (h : RecsAt w ad len cap l) (hb : ∀ a, ad = some a → base < a.block) : RecsAt (w.setCell ⟨base, j, none⟩ u) ad len cap l := by
  refine ⟨h.length, h.fits, h.room, ?_⟩
  rcases h.cells with h0 | ⟨b, off, e, hlt, hc⟩
  · exact .inl h0
  · have hne : b ≠ base := by have := hb _ e; simp only at this; omega
    have hx : ∀ i, (w.setCell ⟨base, j, none⟩ u).cell? ⟨b, i, none⟩ = w.cell? ⟨b, i, none⟩ := fun i => World.cell?_of_block (a := ⟨b, i, none⟩) (by
      show (w.heap.modify base _)[b]? = _
      rw [Array.getElem?_modify, if_neg (Ne.symm hne)])
    refine .inr ⟨b, off, e, by simpa using hlt, fun i r hi => ?_⟩
    rw [hx, hx]
    exact hc i r hi
end Go.Proofs.Ytlcnpeodhfdhlaa

/-! The document's own Recs, Same of chapter 6. -/
namespace Go.Proofs.Ytlcnpeodhfdhlaa
open Go.RowKit
open Go.SeqMath
open Go.BatMath
set_option linter.unusedVariables false

theorem bel_drewN {B : Nat} {a w : World} (h : Below B a w) (n : Nat) : Below B a (w.drewN n) := h.trans ⟨rfl, rfl, rfl, Nat.le_refl _, fun _ _ => rfl⟩
def SaysB (r : Bool) (w : World) (e : Ending) (w' : World) : Prop := e = .returned (.bool r) ∧ Below w.heap.size w w'
theorem saysB_mk {r s : Bool} {w w' : World} (h : s = r) (hb : Below w.heap.size w w') : SaysB r w (.returned (.bool s)) w' := ⟨by rw [h], hb⟩
/-- What stands before round j of the loop over two lists of records. -/
def SameAt (w : World) (l m : List Rc) (v : Value) (wr : World) : Prop := ∃ j : Nat, j ≤ l.length ∧ v = .int .i64 j ∧ l.take j = m.take j ∧ Below w.heap.size w wr
theorem ba_toList_inj {s t : ByteArray} (h : s.toList = t.toList) : s = t := by
  rw [ByteArray.toList_eq, ByteArray.toList_eq] at h
  cases s; cases t
  simp only at h
  rw [Array.toList_inj.1 h]
theorem ba_ne {s t : ByteArray} (h : s ≠ t) : (s.toList == t.toList) = false := by
  rw [beq_eq_false_iff_ne]
  exact fun e => h (ba_toList_inj e)
theorem RecsAt.at {w W : World} {ad : Option Addr} {len cap : Nat} {l : List Rc} (h : RecsAt w ad len cap l) (hb : Below w.heap.size w W) (j : Nat) (hj : j < len) :
    ∃ bk off r, ad = some ⟨bk, off, none⟩ ∧ bk < w.heap.size ∧ l[j]? = some r ∧ W.cell? ⟨bk, off + j * 2, none⟩ = some (.string r.key) ∧ W.cell? ⟨bk, off + j * 2 + 1, none⟩ = some (.string r.val) := by
  have hl := h.length
  have hjl : j < l.length := by omega
  rcases h.cells with h0 | ⟨bk, off, e, hlt, hc⟩
  · omega
  · have hi : l[j]? = some (l[j]'hjl) := List.getElem?_eq_getElem hjl
    obtain ⟨h1, h2⟩ := hc j _ hi
    exact ⟨bk, off, _, e, hlt, hi, (hb.cell (p := ⟨bk, _, none⟩) hlt).trans h1, (hb.cell (p := ⟨bk, _, none⟩) hlt).trans h2⟩
theorem take_same {l m : List Rc} {j : Nat} {r : Rc} (h : l.take j = m.take j) (hl : l[j]? = some r) (hm : m[j]? = some r) : l.take (j + 1) = m.take (j + 1) := by
  obtain ⟨h1, e1⟩ := List.getElem?_eq_some_iff.1 hl
  obtain ⟨h2, e2⟩ := List.getElem?_eq_some_iff.1 hm
  rw [List.take_succ_eq_append_getElem h1, List.take_succ_eq_append_getElem h2, h, e1, e2]
set_option maxRecDepth 100000 in
set_option maxHeartbeats 1000000 in
theorem refRecs_any (w : World) (a1 a2 : Option Addr) (n1 n2 c1 c2 : Nat) (l1 l2 : List Rc) (h1 : RecsAt w a1 n1 c1 l1) (h2 : RecsAt w a2 n2 c2 l2) (hL : n1 ≤ 140737488355328) (r : Bool) (hr : r = true ↔ l1 = l2) :
    Calls Try.prog 45 #[.slice a1 n1 c1, .slice a2 n2 c2] w (SaysB r w) := by
  have q1 := h1.length
  have q2 := h2.length
  have H1 := Lib.hid h1
  have H2 := Lib.hid h2
  have HR := Lib.hid hr
  have Q1 := Lib.hid q1
  have Q2 := Lib.hid q2
  clear h1 h2 hr q1 q2
  by_cases hn : n1 = n2
  · subst hn
    go_enter Try.func45, Try.ntmps45
    go_wp2_with fail
    go_loopw [13] (fun v13 wr => SameAt w l1 l2 v13 wr) (fun v13 _ => n1 - (intOf v13).toNat)
    case atStart => exact ⟨0, Nat.zero_le _, rfl, rfl, Below.refl _ _⟩
    case round =>
      obtain ⟨j, hj, rfl, htk, hbel⟩ := hrel
      have HBEL := Lib.hid hbel
      have HTK := Lib.hid htk
      rw [Q1.out] at hj
      clear hbel htk
      by_cases hlt : j < n1
      · obtain ⟨b1, o1, r1, rfl, hb1, hi1, hk1, hv1⟩ := H1.out.at HBEL.out j hlt
        obtain ⟨b2, o2, r2, rfl, hb2, hi2, hk2, hv2⟩ := H2.out.at HBEL.out j hlt
        have HI1 := Lib.hid hi1
        have HI2 := Lib.hid hi2
        clear hi1 hi2
        by_cases he : r1 = r2
        · subst he
          obtain ⟨k1, v1⟩ := r1
          simp only at hk1 hv1 hk2 hv2
          have HLE : Hid (j + 1 ≤ l1.length) := by show _ ≤ _; rw [Q1.out]; exact hlt
          have HT2 := Lib.hid (take_same HTK.out HI1.out HI2.out)
          go_wp2_with fail
          go_quiet (fail)
          go_wp2
          go_roundw
          case rel => exact ⟨j + 1, HLE.out, by go_num, HT2.out, bel_drewN HBEL.out _⟩
          case measure => simp [intOf]; omega
        · have HE : Hid (r1 ≠ r2) := he
          obtain ⟨k1, v1⟩ := r1
          obtain ⟨k2, v2⟩ := r2
          simp only at hk1 hv1 hk2 hv2
          have hfin : Hid (false = r) := by
            show false = r
            cases r
            · rfl
            · have e := HR.out.1 rfl
              have a := HI1.out
              rw [e, HI2.out] at a
              exact absurd (Option.some.inj a).symm HE.out
          by_cases hk : k1 = k2
          · subst hk
            have hv : v1 ≠ v2 := fun e => he (by rw [e])
            have hvv := ba_ne hv
            clear he hv
            go_wp2_with fail
            go_quiet (fail)
            go_wp2
            go_ret
            exact saysB_mk hfin.out (bel_drewN HBEL.out _)
          · have hkk := ba_ne hk
            clear he hk
            go_wp2_with fail
            go_quiet (fail)
            go_wp2
            go_ret
            exact saysB_mk hfin.out (bel_drewN HBEL.out _)
      · obtain rfl : j = n1 := by omega
        have hfin : Hid (true = r) := by
          show true = r
          have := HTK.out
          rw [List.take_of_length_le (by rw [Q1.out]; exact Nat.le_refl _), List.take_of_length_le (by rw [Q2.out]; exact Nat.le_refl _)] at this
          exact (HR.out.2 this).symm
        go_wp2
        go_ret
        exact saysB_mk hfin.out HBEL.out
  · have hn1 : ((n1 : Int) != (n2 : Int)) = true := by simp; omega
    have hfin : Hid (false = r) := by
      show false = r
      cases r
      · rfl
      · have e := HR.out.1 rfl
        exact absurd (by rw [← Q1.out, ← Q2.out, e]) hn
    go_enter Try.func45, Try.ntmps45
    go_wp2
    go_ret
    exact saysB_mk hfin.out (Below.refl _ _)
set_option maxRecDepth 100000 in
set_option maxHeartbeats 1000000 in
theorem refSame_any (w : World) (x y : Bat) (ad1 ad2 : Option Addr) (n1 n2 c1 c2 : Nat) (h1 : RecsAt w ad1 n1 c1 x.recs) (h2 : RecsAt w ad2 n2 c2 y.recs) (hL : n1 ≤ 140737488355328) (r : Bool) (hr : r = true ↔ x = y) :
    Calls Try.prog 31 #[.agg #[.int .i64 x.base, .int .i64 x.prod, .int .i64 x.epoch, .int .i64 x.seq, .bool x.txn, .int .i64 x.marker, .slice ad1 n1 c1], .agg #[.int .i64 y.base, .int .i64 y.prod, .int .i64 y.epoch, .int .i64 y.seq, .bool y.txn, .int .i64 y.marker, .slice ad2 n2 c2]] w (SaysB r w) := by
  have HF : Hid (x ≠ y → false = r) := by
    intro h
    cases r
    · rfl
    · exact absurd (hr.1 rfl) h
  obtain ⟨a0, a1, a2, a3, a4, a5, l1⟩ := x
  obtain ⟨b0, b1, b2, b3, b4, b5, l2⟩ := y
  simp only at h1 h2 ⊢
  have H1 := Lib.hid h1
  have H2 := Lib.hid h2
  have HR := Lib.hid hr
  have HBB : ∀ {p q r s t u v p' q' r' s' t' u' v' : Value}, Hid (Below w.heap.size w ((w.alloc (.cells #[p, q, r, s, t, u, v] 51)).alloc (.cells #[p', q', r', s', t', u', v'] 51))) := ((Below.refl _ _).alloc (Nat.le_refl _) _).alloc (by simp) _
  clear h1 h2 hr
  by_cases h0 : a0 = b0
  · subst h0
    by_cases h1 : a1 = b1
    · subst h1
      by_cases h2 : a2 = b2
      · subst h2
        by_cases h3 : a3 = b3
        · subst h3
          by_cases h4 : a4 = b4
          · subst h4
            by_cases h5 : a5 = b5
            · subst h5
              have hrr : Hid (r = true ↔ l1 = l2) := by
                show r = true ↔ l1 = l2
                rw [HR.out]
                exact ⟨fun h => by have := congrArg Bat.recs h; exact this, fun h => by rw [h]⟩
              cases a4
              all_goals
                go_enter Try.func31, Try.ntmps31
                go_wp2_with fail
                refine (refRecs_any _ _ _ _ _ _ _ l1 l2 (H1.out.keep (HBB.out)) (H2.out.keep (HBB.out)) hL r hrr.out).mono ?_
                rintro e w1 ⟨rfl, hb⟩
                have HB1 := Lib.hid (HBB.out.trans (hb.mono HBB.out.size))
                clear hb
                go_wp2
                go_ret
                exact saysB_mk rfl HB1.out
            · have e5 : (a5 == b5) = false := by simpa using h5
              have hfin : Hid (false = r) := HF.out (fun h => h5 (by have := congrArg Bat.marker h; exact this))
              clear h5
              cases a4
              all_goals
                go_enter Try.func31, Try.ntmps31
                go_wp2
                go_ret
                exact saysB_mk hfin.out HBB.out
          · have hfin : Hid (false = r) := HF.out (fun h => h4 (by have := congrArg Bat.txn h; exact this))
            cases a4
            · cases b4
              · exact absurd rfl h4
              · go_enter Try.func31, Try.ntmps31
                go_wp2
                go_ret
                exact saysB_mk hfin.out HBB.out
            · cases b4
              · go_enter Try.func31, Try.ntmps31
                go_wp2
                go_ret
                exact saysB_mk hfin.out HBB.out
              · exact absurd rfl h4
        · have e3 : (a3 == b3) = false := by simpa using h3
          have hfin : Hid (false = r) := HF.out (fun h => h3 (by have := congrArg Bat.seq h; exact this))
          clear h3
          go_enter Try.func31, Try.ntmps31
          go_wp2
          go_ret
          exact saysB_mk hfin.out HBB.out
      · have e2 : (a2 == b2) = false := by simpa using h2
        have hfin : Hid (false = r) := HF.out (fun h => h2 (by have := congrArg Bat.epoch h; exact this))
        clear h2
        go_enter Try.func31, Try.ntmps31
        go_wp2
        go_ret
        exact saysB_mk hfin.out HBB.out
    · have e1 : (a1 == b1) = false := by simpa using h1
      have hfin : Hid (false = r) := HF.out (fun h => h1 (by have := congrArg Bat.prod h; exact this))
      clear h1
      go_enter Try.func31, Try.ntmps31
      go_wp2
      go_ret
      exact saysB_mk hfin.out HBB.out
  · have e0 : (a0 == b0) = false := by simpa using h0
    have hfin : Hid (false = r) := HF.out (fun h => h0 (by have := congrArg Bat.base h; exact this))
    clear h0
    go_enter Try.func31, Try.ntmps31
    go_wp2
    go_ret
    exact saysB_mk hfin.out HBB.out
end Go.Proofs.Ytlcnpeodhfdhlaa

/-! The document's own 'inner' of chapter 6: what stands under the sum. -/
namespace Go.Proofs.Ytlcnpeodhfdhlaa
open Go.RowKit
open Go.SeqMath
open Go.BatMath hiding AllB getD_lt take_all
open Go.VarMath (longB length_longB textB backB cutB getB_bounds getB cutB_no cutB_yes)
set_option linter.unusedVariables false

theorem cutB_le (bs : List Nat) (most : Int) : (cutB bs most).2 ≤ bs.length := by
  obtain ⟨b2, b3, b4, b5⟩ := getB_bounds bs
  by_cases h : (getB bs).2 = 0 ∨ (getB bs).1 < 0 ∨ most < (getB bs).1 ∨ (bs.length : Int) - ((getB bs).2 : Int) < (getB bs).1
  · rw [cutB_no h]; exact Nat.zero_le _
  · rw [cutB_yes h]; simp only; omega
theorem resultsInner {tmps : Array Value} {B : Nat} {W : World} {b0 b1 b2 b3 : Int} {b4 : Bool} {b5 : Int} {v : Value} (h : BoxAt W B b0 b1 b2 b3 b4 b5 v) (ht : tmps.getD 2 undef = .pointer (some ⟨B, 0, none⟩)) :
    (results Try.f59 tmps).run Try.prog W = .ok (.tuple #[.agg #[.int .i64 b0, .int .i64 b1, .int .i64 b2, .int .i64 b3, .bool b4, .int .i64 b5, v], tmps.getD 3 undef]) W := by
  rw [results_cell_tmp (p := 2) (u := 3) (ty := 51) Try.results59, ht]
  have hl := run_loadVar_row (P := Try.prog) W B 51 51 _ (0, 0) _ h Try.underlying51 rfl (by kernel_rfl)
  simp only [asAddr, Sem.run_pure, Result.andThen, hl]
theorem boxAt_second (w : World) (o : Obj) (b0 b1 b2 b3 : Int) (b4 : Bool) (b5 : Int) (v : Value) : BoxAt (((w.alloc o).alloc (.cells #[.int .i64 b0, .int .i64 b1, .int .i64 b2, .int .i64 b3, .bool b4, .int .i64 b5, v] 51)).drew) (w.heap.size + 1) b0 b1 b2 b3 b4 b5 v := by
  have := boxAt_new (w.alloc o) b0 b1 b2 b3 b4 b5 v
  rw [show (w.alloc o).heap.size = w.heap.size + 1 by simp] at this
  exact this
/-- The two boxes of the walk: the batch that is being read, and the result that is none yet. -/
structure Two (w : World) (p e s : Int) (t : Bool) (m : Int) (v : Value) (W : World) : Prop where
  bx : BoxAt W (w.heap.size + 1) 0 p e s t m v
  rs : BoxAt W w.heap.size 0 0 0 0 false 0 (.slice none 0 0)
  bel : Below w.heap.size w W
theorem Two.sz {w W : World} {p e s : Int} {t : Bool} {m : Int} {v : Value} (h : Two w p e s t m v W) : w.heap.size + 1 + 1 ≤ W.heap.size := h.bx.lt
theorem Two.drew {w W : World} {p e s : Int} {t : Bool} {m : Int} {v : Value} (h : Two w p e s t m v W) : Two w p e s t m v W.drew := ⟨h.bx, h.rs, h.bel.drew⟩
theorem Two.s1 {w W : World} {p e s : Int} {t : Bool} {m : Int} {v : Value} (h : Two w p e s t m v W) (n : Int) : Two w n e s t m v (W.setCell ⟨w.heap.size + 1, 1, none⟩ (.int .i64 n)) := ⟨h.bx.s1 n, h.rs.off (by omega) _, h.bel.setCell (Nat.le_succ _) _⟩
theorem Two.s2 {w W : World} {p e s : Int} {t : Bool} {m : Int} {v : Value} (h : Two w p e s t m v W) (n : Int) : Two w p n s t m v (W.setCell ⟨w.heap.size + 1, 2, none⟩ (.int .i64 n)) := ⟨h.bx.s2 n, h.rs.off (by omega) _, h.bel.setCell (Nat.le_succ _) _⟩
theorem Two.s3 {w W : World} {p e s : Int} {t : Bool} {m : Int} {v : Value} (h : Two w p e s t m v W) (n : Int) : Two w p e n t m v (W.setCell ⟨w.heap.size + 1, 3, none⟩ (.int .i64 n)) := ⟨h.bx.s3 n, h.rs.off (by omega) _, h.bel.setCell (Nat.le_succ _) _⟩
theorem Two.s6 {w W : World} {p e s : Int} {t : Bool} {m : Int} {v : Value} (h : Two w p e s t m v W) (n : Value) : Two w p e s t m n (W.setCell ⟨w.heap.size + 1, 6, none⟩ n) := ⟨h.bx.s6 n, h.rs.off (by omega) _, h.bel.setCell (Nat.le_succ _) _⟩
theorem Two.on {w W W' : World} {p e s : Int} {t : Bool} {m : Int} {v : Value} (h : Two w p e s t m v W) (hb : Below W.heap.size W W') : Two w p e s t m v W' := ⟨h.bx.on hb, h.rs.on hb, h.bel.trans (hb.mono h.bel.size)⟩
theorem Two.grown {w W W' : World} {p e s : Int} {t : Bool} {m : Int} {u v : Value} {l : List Rc} (h : Two w p e s t m u W) (ho : OwnRecs W (w.heap.size + 1 + 1) v l) (hg : W.grownBy W' v.ownBlock) : Two w p e s t m u W' :=
  ⟨h.bx.grown ho (by omega) hg, h.rs.grown ho (by omega) hg, Below.recs h.bel ho (by omega) h.bel.size hg⟩
/-- A cell of a block below the records' is written. -/
theorem RecsAt.set {w : World} {base j len cap : Nat} {ad : Option Addr} {l : List Rc} {u : Value} (h : RecsAt w ad len cap l) (hb : ∀ a, ad = some a → base + 1 + 1 ≤ a.block) : RecsAt (w.setCell ⟨base, j, none⟩ u) ad len cap l := by
  refine ⟨h.length, h.fits, h.room, ?_⟩
  rcases h.cells with h0 | ⟨b, off, e, hlt, hc⟩
  · exact .inl h0
  · have hne : b ≠ base := by have := hb _ e; simp only at this; omega
    have hx : ∀ i, (w.setCell ⟨base, j, none⟩ u).cell? ⟨b, i, none⟩ = w.cell? ⟨b, i, none⟩ := fun i => World.cell?_of_block (a := ⟨b, i, none⟩) (by
      show (w.heap.modify base _)[b]? = _
      rw [Array.getElem?_modify, if_neg (Ne.symm hne)])
    refine .inr ⟨b, off, e, by simpa using hlt, fun i r hi => ?_⟩
    rw [hx, hx]
    exact hc i r hi
theorem two_new (w : World) (t : Bool) (m : Int) : Two w 0 0 0 t m (.slice none 0 0) (((w.alloc (.cells #[.int .i64 0, .int .i64 0, .int .i64 0, .int .i64 0, .bool false, .int .i64 0, .slice none 0 0] 51)).alloc (.cells #[.int .i64 0, .int .i64 0, .int .i64 0, .int .i64 0, .bool t, .int .i64 m, .slice none 0 0] 51)).drew) :=
  ⟨boxAt_second _ _ _ _ _ _ _ _ _, BoxAt.keep (B := w.heap.size + 1) (boxAt_new w 0 0 0 0 false 0 (.slice none 0 0)) (((Below.refl _ _).alloc (by simp) _).drew) (by omega), (((Below.refl _ _).alloc (Nat.le_refl _) _).alloc (by simp) _).drew⟩
/-- What inner gives. -/
def GivesInner (w : World) (x : List Nat) (e : Ending) (w' : World) : Prop :=
  ∃ (b : Bat) (ok : Bool) (ad : Option Addr) (cap : Nat), innerD x = (b, ok) ∧ e = .returned (.tuple #[.agg #[.int .i64 b.base, .int .i64 b.prod, .int .i64 b.epoch, .int .i64 b.seq, .bool b.txn, .int .i64 b.marker, .slice ad b.recs.length cap], .bool ok]) ∧
    RecsAt w' ad b.recs.length cap b.recs ∧ (∀ a, ad = some a → w.heap.size ≤ a.block) ∧ Below w.heap.size w w'
theorem gives_inner {w w' : World} {x : List Nat} {b : Bat} {ok : Bool} {ad : Option Addr} {n cap : Nat} (h : innerD x = (b, ok)) (hn : b.recs.length = n) (hr : RecsAt w' ad n cap b.recs) (hk : ∀ a, ad = some a → w.heap.size ≤ a.block) (hb : Below w.heap.size w w') :
    GivesInner w x (.returned (.tuple #[.agg #[.int .i64 b.base, .int .i64 b.prod, .int .i64 b.epoch, .int .i64 b.seq, .bool b.txn, .int .i64 b.marker, .slice ad n cap], .bool ok])) w' := by
  subst hn; exact ⟨b, ok, ad, cap, h, rfl, hr, hk, hb⟩
/-- What stands before round j of the loop over the records. -/
def InnerAt (w : World) (x : List Nat) (n : Nat) (p e s : Int) (t : Bool) (m : Int) (v6 v7 : Value) (wr : World) : Prop :=
  ∃ (j i : Nat) (l : List Rc) (v : Value), j ≤ n ∧ i ≤ x.length ∧ v7 = .int .i64 j ∧ v6 = .int .i64 i ∧ l.length = j ∧ OwnRecs wr (w.heap.size + 1 + 1) v l ∧
    recsD n x 20 = (recsD (n - j) x i).map (fun q => (l ++ q.1, q.2)) ∧ Two w p e s t m v wr
theorem map_nil_app (o : Option (List Rc × Nat)) : o = o.map (fun q => ([] ++ q.1, q.2)) := by cases o <;> rfl
theorem innerAt_start {w W : World} {x : List Nat} {n : Nat} {p e s : Int} {t : Bool} {m : Int} (hx : 20 ≤ x.length) (h : Two w p e s t m (.slice none 0 0) W) : InnerAt w x n p e s t m (.int .i64 20) (.int .i64 0) W :=
  ⟨0, 20, [], _, Nat.zero_le _, hx, rfl, rfl, rfl, ownRecs_nil _ _, map_nil_app _, h⟩
set_option maxRecDepth 100000 in
set_option maxHeartbeats 4000000 in
theorem inner_any (w : World) (ad : Option Addr) (len cap : Nat) (x : List Nat) (h : Byt w ad len cap x) (hL : len ≤ 4096) :
    Calls Try.prog 59 #[.slice ad len cap] w (GivesInner w x) := by
  have hxl := h.length
  by_cases h20 : len < 20
  · have hin : Hid (innerD x = (Bat.zero, false)) := by
      show innerD x = _
      unfold innerD
      rw [if_pos (by omega)]
    have hd : decide ((len : Int) < 20) = true := by simp; omega
    clear h hxl
    go_enter Try.func59, Try.ntmps59
    go_wp2
    exact bodyPost_ret (resultsInner (boxAt_new w 0 0 0 0 false 0 (.slice none 0 0)) rfl) rfl (gives_inner hin.out rfl (recsAt_nil _) (fun a h => by cases h) ((Below.refl _ _).alloc (Nat.le_refl _) _))
  · have h20' : 20 ≤ len := by omega
    obtain ⟨bx, ox, rfl, hcell⟩ := h.get (by omega)
    have g0 := getD_all h.all 0
    have g9 := getD_all h.all 9
    have g10 := getD_all h.all 10
    have g19 := getD_all h.all 19
    have hc0 := hcell 0 (by omega)
    have hc9 := hcell 9 (by omega)
    have hc10 := hcell 10 (by omega)
    have hc19 := hcell 19 (by omega)
    rw [Nat.add_zero] at hc0
    have hbx : bx < w.heap.size := World.block_lt_of_cell? _ _ hc0
    have hin : Hid (innerD x = innerOf (recsD (x.getD 19 0) x 20) (backB (x.drop 1)).1 (epD (x.getD 9 0 * 256 + x.getD 10 0)) (backB (x.drop 11)).1 (decide (x.getD 0 0 % 2 = 1)) ((x.getD 0 0 / 2 : Nat) : Int) x.length) := by
      show innerD x = _
      unfold innerD
      rw [if_neg (by omega)]
    obtain ⟨x0, hx0⟩ : ∃ x0, x0 = x.getD 0 0 := ⟨_, rfl⟩
    obtain ⟨x9, hx9⟩ : ∃ x0, x0 = x.getD 9 0 := ⟨_, rfl⟩
    obtain ⟨x10, hx10⟩ : ∃ x0, x0 = x.getD 10 0 := ⟨_, rfl⟩
    obtain ⟨n, hn⟩ : ∃ x0, x0 = x.getD 19 0 := ⟨_, rfl⟩
    obtain ⟨o1, k1, hs1, hB1⟩ := from_lit h 1 1 rfl (by omega)
    obtain ⟨o11, k11, hs11, hB11⟩ := from_lit h 11 11 rfl (by omega)
    obtain ⟨p, hp⟩ : ∃ p, p = (backB (x.drop 1)).1 := ⟨_, rfl⟩
    obtain ⟨s, hs⟩ : ∃ p, p = (backB (x.drop 11)).1 := ⟨_, rfl⟩
    obtain ⟨po, hpo⟩ : ∃ p, p = (backB (x.drop 1)).2 := ⟨_, rfl⟩
    obtain ⟨so, hso⟩ : ∃ p, p = (backB (x.drop 11)).2 := ⟨_, rfl⟩
    have CB1 : Hid (∀ W, Below w.heap.size w W → Calls Try.prog 60 #[.slice (some ⟨bx, o1, none⟩) (len - 1) k1] W fun e w' => e = .returned (.tuple #[.int .i64 p, .bool po]) ∧ W = w') := by
      intro W hW
      have := refBack_any W _ _ _ _ (hB1.keep hW (Nat.le_refl _)) (by omega)
      unfold GivesBack at this
      rw [← hp, ← hpo] at this
      exact this
    have CB11 : Hid (∀ W, Below w.heap.size w W → Calls Try.prog 60 #[.slice (some ⟨bx, o11, none⟩) (len - 11) k11] W fun e w' => e = .returned (.tuple #[.int .i64 s, .bool so]) ∧ W = w') := by
      intro W hW
      have := refBack_any W _ _ _ _ (hB11.keep hW (Nat.le_refl _)) (by omega)
      unfold GivesBack at this
      rw [← hs, ← hso] at this
      exact this
    rw [← hx0, ← hx9, ← hx10, ← hn, ← hp, ← hs] at hin
    rw [← hx0] at hc0 g0
    rw [← hx9] at hc9 g9
    rw [← hx10] at hc10 g10
    rw [← hn] at hc19 g19
    have hlow : bits .and .u8 (x0 : Int) 1 = ((x0 % 2 : Nat) : Int) := u8_low x0 g0
    obtain ⟨tx, htx⟩ : ∃ tx, (bits .and .u8 (x0 : Int) 1 == 1) = tx := ⟨_, rfl⟩
    have htx2 : Hid (decide (x0 % 2 = 1) = tx) := by
      show decide _ = tx
      rw [← htx, hlow]
      by_cases h1 : x0 % 2 = 1
      · rw [h1]; rfl
      · have : x0 % 2 = 0 := by omega
        rw [this]; rfl
    have hor : bits .or .i64 ((x9 : Int) * 256) (x10 : Int) = ((x9 * 256 + x10 : Nat) : Int) := by
      have := i64_or 8 (x9 * 256) x10 (by omega) (by omega) (by omega)
      rw [← this]
      rfl
    obtain ⟨ep, hep⟩ : ∃ ep, ep = x9 * 256 + x10 := ⟨_, rfl⟩
    rw [← hep] at hor hin
    obtain ⟨m2, hm2'⟩ : ∃ m2, m2 = x0 / 2 := ⟨_, rfl⟩
    have hm2 : (x0 : Int) / 2 = (m2 : Int) := by omega
    rw [← hm2'] at hin
    have hep6 : ep < 65536 := by omega
    have HX := Lib.hid h
    have HXL := Lib.hid hxl
    clear h hxl hcell hx0 hx9 hx10 hn hB1 hB11 hp hs hpo hso hlow hep hm2'
    have hd : decide ((len : Int) < 20) = false := by simp; omega
    have HC9 := Lib.hid hc9
    have HC10 := Lib.hid hc10
    have HC19 := Lib.hid hc19
    clear hc9 hc10 hc19
    go_enter Try.func59, Try.ntmps59
    go_upto_region 4 with fail
    go_cut [] from 16 (fun wx => Hid (Two w 0 0 0 tx (m2 : Int) (.slice none 0 0) wx))
    case first =>
      go_region
      go_wp2
      go_meet
      case rel => exact two_new w tx (m2 : Int)
    case rest =>
      have HT1 := hcut
      clear hc0
      have hk1 := HT1.out.bx.c1
      have hf1 := HT1.out.bx.free 1
      have HB1 := Lib.hid HT1.out.bel
      have hsl1 := hs1
      go_wp2_with fail
      refine (CB1.out _ HB1.out).mono ?_
      rintro e w' ⟨rfl, rfl⟩
      go_upto_region 6 with fail
      obtain ⟨W2, hW2⟩ : ∃ W2, W2 = wc.setCell ⟨w.heap.size + 1, 1, none⟩ (.int .i64 p) := ⟨_, rfl⟩
      have HT2 : Hid (Two w p 0 0 tx (m2 : Int) (.slice none 0 0) W2) := by show Two _ _ _ _ _ _ _ _; rw [hW2]; exact HT1.out.s1 p
      rw [← hW2]
      clear hk1 hf1 hsl1 hW2
      have hk2 := HT2.out.bx.c2
      have hf2 := HT2.out.bx.free 2
      have hx9 : W2.cell? ⟨bx, ox + 9, none⟩ = some (.int .u8 (x9 : Int)) := (HT2.out.bel.cell (p := ⟨bx, _, none⟩) hbx).trans HC9.out
      have hx10 : W2.cell? ⟨bx, ox + 10, none⟩ = some (.int .u8 (x10 : Int)) := (HT2.out.bel.cell (p := ⟨bx, _, none⟩) hbx).trans HC10.out
      go_cut [] from 35 (fun wx => Hid (Two w p (ep : Int) 0 tx (m2 : Int) (.slice none 0 0) wx))
      case first =>
        go_region
        go_wp2
        go_meet
        case rel => exact HT2.out.drew.s2 _
      case rest =>
        have HT3 := hcut
        clear hk2 hf2 hx9 hx10
        have hk2 := HT3.out.bx.c2
        have hf2 := HT3.out.bx.free 2
        go_upto_if 48 with (fail)
        go_cut [] from 46 (fun wx => Hid (Two w p (epD ep) 0 tx (m2 : Int) (.slice none 0 0) wx))
        case first =>
          by_cases he : ep = 65535
          · subst he
            go_wp2
            go_meet
            case rel => exact HT3.out.s2 (-1)
          · have he1 : ((ep : Int) == 65535) = false := by simp; omega
            have he2 : Hid (epD ep = (ep : Int)) := by show epD ep = _; unfold epD; rw [if_neg he]
            clear he
            go_wp2
            go_meet
            case rel =>
              rw [he2.out]
              exact HT3
        case rest =>
          have HT4 := hcut
          clear hk2 hf2
          have hk3 := HT4.out.bx.c3
          have hf3 := HT4.out.bx.free 3
          have HB4 := Lib.hid HT4.out.bel
          have hsl1 := hs11
          go_wp2_with fail
          refine (CB11.out _ HB4.out).mono ?_
          rintro e w' ⟨rfl, rfl⟩
          go_upto_region 10 with fail
          obtain ⟨W5, hW5⟩ : ∃ W5, W5 = wc.setCell ⟨w.heap.size + 1, 3, none⟩ (.int .i64 s) := ⟨_, rfl⟩
          have HT5 : Hid (Two w p (epD ep) s tx (m2 : Int) (.slice none 0 0) W5) := by show Two _ _ _ _ _ _ _ _; rw [hW5]; exact HT4.out.s3 s
          rw [← hW5]
          clear hk3 hf3 hsl1 hW5
          have hx19 : W5.cell? ⟨bx, ox + 19, none⟩ = some (.int .u8 (n : Int)) := (HT5.out.bel.cell (p := ⟨bx, _, none⟩) hbx).trans HC19.out
          go_wp2_with fail
          clear hx19
          go_loopw [6, 7] (fun v6 v7 wr => InnerAt w x n p (epD ep) s tx (m2 : Int) v6 v7 wr) (fun _ v7 _ => n - (intOf v7).toNat)
          case atStart => exact innerAt_start (by rw [HXL.out]; exact h20') HT5.out
          case round =>
            obtain ⟨j, i, l, v, hj, hi, rfl, rfl, hl, hown, hdec, htwo⟩ := hrel
            rw [HXL.out] at hi
            have HLJ := Lib.hid hl
            have HO := Lib.hid hown
            have HD := Lib.hid hdec
            have HT := Lib.hid htwo
            clear hl hown hdec htwo
            by_cases hlt : j < n
            · obtain ⟨o, c, hsl1, hB1⟩ := from_lit HX.out i (i : Int) rfl hi
              obtain ⟨a, ha⟩ : ∃ a, a = (cutB (x.drop i) (len : Int)).1 := ⟨_, rfl⟩
              obtain ⟨k, hk⟩ : ∃ a, a = (cutB (x.drop i) (len : Int)).2 := ⟨_, rfl⟩
              have hkl : k ≤ len - i := by
                have := cutB_le (x.drop i) (len : Int)
                rw [List.length_drop, HXL.out, ← hk] at this
                exact this
              have hik : i + k ≤ len := by omega
              obtain ⟨o2, c2, hsl2, hB2⟩ := from_lit HX.out (i + k) ((i : Int) + (k : Int)) (by omega) hik
              obtain ⟨a2, ha2⟩ : ∃ a, a = (cutB (x.drop (i + k)) (len : Int)).1 := ⟨_, rfl⟩
              obtain ⟨k2, hk2⟩ : ∃ a, a = (cutB (x.drop (i + k)) (len : Int)).2 := ⟨_, rfl⟩
              have hk2l : i + k + k2 ≤ len := by
                have := cutB_le (x.drop (i + k)) (len : Int)
                rw [List.length_drop, HXL.out, ← hk2] at this
                omega
              obtain ⟨s1, hs1'⟩ : ∃ s, s = sb a := ⟨_, rfl⟩
              obtain ⟨s2, hs2'⟩ : ∃ s, s = sb a2 := ⟨_, rfl⟩
              have C1 : Hid (∀ W, Below w.heap.size w W → Calls Try.prog 75 #[.slice (some ⟨bx, o, none⟩) (len - i) c, .int .i64 (len : Int)] W fun e w' => e = .returned (.tuple #[.string s1, .int .i64 (k : Int)]) ∧ Below W.heap.size W w') := by
                intro W hW
                have := refCut_any W _ _ _ _ (len : Int) (hB1.keep hW (Nat.le_refl _)) (by omega) (by omega) (by omega)
                unfold GivesCut at this
                rw [← ha, ← hk] at this
                rw [hs1']
                exact this
              have C2 : Hid (∀ W, Below w.heap.size w W → Calls Try.prog 75 #[.slice (some ⟨bx, o2, none⟩) (len - (i + k)) c2, .int .i64 (len : Int)] W fun e w' => e = .returned (.tuple #[.string s2, .int .i64 (k2 : Int)]) ∧ Below W.heap.size W w') := by
                intro W hW
                have := refCut_any W _ _ _ _ (len : Int) (hB2.keep hW (Nat.le_refl _)) (by omega) (by omega) (by omega)
                unfold GivesCut at this
                rw [← ha2, ← hk2] at this
                rw [hs2']
                exact this
              have hcut1 : cutB (x.drop i) (x.length : Int) = (a, k) := by rw [HXL.out, ha, hk]
              have hcut2 : cutB (x.drop (i + k)) (x.length : Int) = (a2, k2) := by rw [HXL.out, ha2, hk2]
              have hnj : n - j = n - (j + 1) + 1 := by omega
              have HFELL : Hid (k = 0 ∨ k2 = 0 → recsD n x 20 = none) := by
                intro hh
                rw [HD.out, hnj, recsD_fell hcut1 hcut2 hh]
                rfl
              have HSTEP : Hid (k ≠ 0 → k2 ≠ 0 → recsD n x 20 = (recsD (n - (j + 1)) x (i + k + k2)).map (fun q => ((l ++ [⟨s1, s2⟩]) ++ q.1, q.2))) := by
                intro h1 h2
                rw [HD.out, hnj, recsD_step hcut1 hcut2 h1 h2, hs1', hs2']
                cases recsD (n - (j + 1)) x (i + k + k2)
                · rfl
                · simp
              clear hB1 hB2 ha hk ha2 hk2 hs1' hs2' hcut1 hcut2 hnj hkl
              go_wp2_with fail
              refine (C1.out _ HT.out.bel).mono ?_
              rintro e w1 ⟨rfl, hb1⟩
              have HT1 := Lib.hid (HT.out.on hb1)
              have HO1 := Lib.hid (HO.out.on hb1)
              clear hb1
              go_wp2_with fail
              refine (C2.out _ HT1.out.bel).mono ?_
              rintro e w2 ⟨rfl, hb2⟩
              have HT2 := Lib.hid (HT1.out.on hb2)
              have HO2 := Lib.hid (HO1.out.on hb2)
              clear hb2 hsl1 hsl2
              by_cases hz : k = 0 ∨ k2 = 0
              · have HI0 : Hid (innerD x = (Bat.zero, false)) := by show innerD x = _; rw [hin.out, HFELL.out hz]; rfl
                have r0 := HT2.out.rs.c0
                have q0 := HT2.out.rs.free 0
                have r1 := HT2.out.rs.c1
                have q1 := HT2.out.rs.free 1
                have r2 := HT2.out.rs.c2
                have q2 := HT2.out.rs.free 2
                have r3 := HT2.out.rs.c3
                have q3 := HT2.out.rs.free 3
                have r4 := HT2.out.rs.c4
                have q4 := HT2.out.rs.free 4
                have r5 := HT2.out.rs.c5
                have q5 := HT2.out.rs.free 5
                have r6 := HT2.out.rs.c6
                have q6 := HT2.out.rs.free 6
                rcases Nat.eq_zero_or_pos k with hk0 | hk0
                · subst hk0
                  clear hz
                  go_wp2
                  exact bodyPost_ret (resultsInner (((((((HT2.out.rs.s0 0).s1 0).s2 0).s3 0).s4 false).s5 0).s6 (.slice none 0 0)) rfl) rfl (gives_inner HI0.out rfl (recsAt_nil _) (fun a h => by cases h) (((((((HT2.out.bel.setCell (Nat.le_refl _) _).setCell (Nat.le_refl _) _).setCell (Nat.le_refl _) _).setCell (Nat.le_refl _) _).setCell (Nat.le_refl _) _).setCell (Nat.le_refl _) _).setCell (Nat.le_refl _) _))
                · have hk20 : k2 = 0 := by omega
                  subst hk20
                  clear hz
                  have hkb : ((k : Int) == 0) = false := by simp; omega
                  go_wp2
                  exact bodyPost_ret (resultsInner (((((((HT2.out.rs.s0 0).s1 0).s2 0).s3 0).s4 false).s5 0).s6 (.slice none 0 0)) rfl) rfl (gives_inner HI0.out rfl (recsAt_nil _) (fun a h => by cases h) (((((((HT2.out.bel.setCell (Nat.le_refl _) _).setCell (Nat.le_refl _) _).setCell (Nat.le_refl _) _).setCell (Nat.le_refl _) _).setCell (Nat.le_refl _) _).setCell (Nat.le_refl _) _).setCell (Nat.le_refl _) _))
              · have hk1 : ((k : Int) == 0) = false := by simp; omega
                have hk2 : ((k2 : Int) == 0) = false := by simp; omega
                have HSTEP2 := Lib.hid (HSTEP.out (by omega) (by omega))
                have p6 := HT2.out.bx.c6
                clear hz
                go_wp2_with (at_builtin; refine list_recs (by rfl) (.tmp 94) (.tmp 98) rfl (w.heap.size + 1 + 1) l [⟨s1, s2⟩] _ rfl (HO2.out.on ((Below.refl _ _).alloc (Nat.le_refl _) _)) (by have := HT2.out.sz; simp; omega) ⟨w2.heap.size, 0, none⟩ 1 1 rfl rfl (recNews_lit w2 s1 s2 _ rfl) (by have := HLJ.out; omega) ?_)
                intro v' w3 ho3 hg3
                have HT3 := Lib.hid ((HT2.out.on ((Below.refl _ _).alloc (Nat.le_refl _) _)).grown (HO2.out.on ((Below.refl _ _).alloc (Nat.le_refl _) _)) hg3)
                obtain ⟨ad3, cap3, hv3, _, _⟩ := ho3.at
                obtain ⟨nl, hnl⟩ : ∃ nl, nl = (l ++ [(⟨s1, s2⟩ : Rc)]).length := ⟨_, rfl⟩
                rw [← hnl] at hv3
                subst hv3
                clear hnl
                have HO3 := Lib.hid ho3
                have p6' := HT3.out.bx.c6
                have f6 := HT3.out.bx.free 6
                have HLL : Hid ((l ++ [(⟨s1, s2⟩ : Rc)]).length = j + 1) := by show _ = _; rw [List.length_append, HLJ.out]; rfl
                have HIX : Hid (i + k + k2 ≤ x.length) := by show _ ≤ _; rw [HXL.out]; exact hk2l
                clear ho3 hg3 p6
                go_wp2
                go_roundw
                case rel => exact ⟨j + 1, i + k + k2, _, _, hlt, HIX.out, by go_num, by go_num, HLL.out, HO3.out.set (by omega), HSTEP2.out, HT3.out.s6 _⟩
                case measure => simp [intOf]; omega
            · obtain rfl : j = n := by omega
              obtain ⟨ad', cap', rfl, hrecs, hblk⟩ := HO.out.at
              have HREC := Lib.hid hrecs
              have HBLK := Lib.hid hblk
              have HDD : Hid (innerD x = (⟨0, p, epD ep, s, tx, (m2 : Int), l⟩, decide (i = len))) := by
                show innerD x = _
                rw [hin.out, htx2.out, HD.out, Nat.sub_self, HXL.out]
                simp [recsD, innerOf]
              clear hrecs hblk hlt
              rw [HLJ.out] at HREC
              have r0 := HT.out.rs.c0
              have q0 := HT.out.rs.free 0
              have r1 := HT.out.rs.c1
              have q1 := HT.out.rs.free 1
              have r2 := HT.out.rs.c2
              have q2 := HT.out.rs.free 2
              have r3 := HT.out.rs.c3
              have q3 := HT.out.rs.free 3
              have r4 := HT.out.rs.c4
              have q4 := HT.out.rs.free 4
              have r5 := HT.out.rs.c5
              have q5 := HT.out.rs.free 5
              have r6 := HT.out.rs.c6
              have q6 := HT.out.rs.free 6
              have p0 := HT.out.bx.c0
              have p1 := HT.out.bx.c1
              have p2 := HT.out.bx.c2
              have p3 := HT.out.bx.c3
              have p4 := HT.out.bx.c4
              have p5 := HT.out.bx.c5
              have p6 := HT.out.bx.c6
              by_cases hend : i = len
              · subst hend
                have HD2 : Hid (innerD x = (⟨0, p, epD ep, s, tx, (m2 : Int), l⟩, true)) := by show _ = _; rw [HDD.out]; simp
                rw [HLJ.out] at p6
                go_wp2
                exact bodyPost_ret (resultsInner (((((((HT.out.rs.s0 0).s1 p).s2 (epD ep)).s3 s).s4 tx).s5 (m2 : Int)).s6 (.slice ad' j cap')) rfl) rfl (gives_inner HD2.out HLJ.out (((((((HREC.out.set HBLK.out).set HBLK.out).set HBLK.out).set HBLK.out).set HBLK.out).set HBLK.out).set HBLK.out) (fun a h => by have := HBLK.out a h; omega) (((((((HT.out.bel.setCell (Nat.le_refl _) _).setCell (Nat.le_refl _) _).setCell (Nat.le_refl _) _).setCell (Nat.le_refl _) _).setCell (Nat.le_refl _) _).setCell (Nat.le_refl _) _).setCell (Nat.le_refl _) _))
              · have hib : ((i : Int) == (len : Int)) = false := by simp; omega
                have HD2 : Hid (innerD x = (⟨0, p, epD ep, s, tx, (m2 : Int), l⟩, false)) := by show _ = _; rw [HDD.out, decide_eq_false hend]
                rw [HLJ.out] at p6
                go_wp2
                exact bodyPost_ret (resultsInner (((((((HT.out.rs.s0 0).s1 p).s2 (epD ep)).s3 s).s4 tx).s5 (m2 : Int)).s6 (.slice ad' j cap')) rfl) rfl (gives_inner HD2.out HLJ.out (((((((HREC.out.set HBLK.out).set HBLK.out).set HBLK.out).set HBLK.out).set HBLK.out).set HBLK.out).set HBLK.out) (fun a h => by have := HBLK.out a h; omega) (((((((HT.out.bel.setCell (Nat.le_refl _) _).setCell (Nat.le_refl _) _).setCell (Nat.le_refl _) _).setCell (Nat.le_refl _) _).setCell (Nat.le_refl _) _).setCell (Nat.le_refl _) _).setCell (Nat.le_refl _) _))
end Go.Proofs.Ytlcnpeodhfdhlaa
