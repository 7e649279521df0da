/- Parts of a proof, merged: BatMath, Bats, BatPlain, BatPlain2, VarRefPut, VarBack, VarRefGet, VarCut, VarLong, Keep, Keep2, VarUse, Grow, BatBits, Rows2. -/
import Derived.Test.YtgohekjkbgfeeaaGreatRows
import Derived.WalkKit
import Derived.IntWalk
import Derived.Lib.Hide
import Derived.BigFrame
import Derived.BigQuiet
import Derived.Deep.QuietTactic
import Derived.Outline
import Derived.Deep.Cut
import Derived.Deep.CutRange
import Derived.Deep.RegionWith
import Derived.Below
import Derived.Deep.RegionHeld3
import Derived.OwnWalk
import Derived.Test.YtgohekjkbgfeeaaGreatKn1
namespace Go.BatMath
open Go.SeqMath
open Go.VarMath (textB encU longB beB low64)
open Go.CrcMath (sealB okB)

abbrev AllB (bs : List Nat) : Prop := ∀ x ∈ bs, x < 256
def bl (s : ByteArray) : List Nat := s.data.toList.map UInt8.toNat
theorem bl_len (s : ByteArray) : (bl s).length = s.size := by simp [bl]
theorem bl_all (s : ByteArray) : AllB (bl s) := by
 intro x hx
 obtain ⟨c, _, rfl⟩ := List.mem_map.1 hx
 exact c.toNat_lt
/-- A record, and a batch. -/
structure Rc where
 key : ByteArray
 val : ByteArray
structure Bat where
 base : Int
 prod : Int
 epoch : Int
 seq : Int
 txn : Bool
 marker : Int
 recs : List Rc
def Bat.at (b : Bat) (n : Int) : Bat := { b with base := n }
abbrev In64 (n : Int) : Prop := -9223372036854775808 ≤ n ∧ n ≤ 9223372036854775807
/-- Its numbers are such. -/
structure Bat.wf (b : Bat) : Prop where
 base : In64 b.base
 prod : In64 b.prod
 epoch : In64 b.epoch
 seq : In64 b.seq
 marker : In64 b.marker
/-! which errors it has -/
def headB (b : Bat) : Bool := decide (0 ≤ b.prod) && (decide (0 ≤ b.epoch) && decide (b.epoch ≤ 32767))
def noneB (b : Bat) : Bool := decide (b.prod = -1) && (decide (b.epoch = -1) && (decide (b.seq = -1) && !b.txn))
def longRec (r : Rc) : Prop := 64 < r.key.size ∨ 64 < r.val.size
noncomputable def rightE (b : Bat) : Int :=
 if b.base < 0 ∨ 1099511627776 < b.base then 18
 else if b.marker ≠ 0 then
  if (b.marker = 1 ∨ b.marker = 2) ∧ headB b = true ∧ b.seq = -1 ∧ b.txn = true ∧ b.recs = [] then 0 else 12
 else if (noneB b = true ∨ headB b = true ∧ rightB b.seq = true) ∧ b.recs ≠ [] then
  open Classical in if 16 < b.recs.length ∨ ∃ r ∈ b.recs, longRec r then 13 else 0
 else 12
theorem head_of {b : Bat} (h : headB b = true) : 0 ≤ b.prod ∧ 0 ≤ b.epoch ∧ b.epoch ≤ 32767 := by unfold headB at h; simpa using h
theorem none_of {b : Bat} (h : noneB b = true) : b.prod = -1 ∧ b.epoch = -1 ∧ b.seq = -1 ∧ b.txn = false := by unfold noneB at h; simpa using h
/-- What a batch that is right is. -/
structure Ok (b : Bat) : Prop where
 base0 : 0 ≤ b.base
 base1 : b.base ≤ 1099511627776
 prod : -1 ≤ b.prod
 epoch0 : -1 ≤ b.epoch
 epoch1 : b.epoch ≤ 32767
 seq0 : -1 ≤ b.seq
 seq1 : b.seq ≤ 2147483647
 marker0 : 0 ≤ b.marker
 marker1 : b.marker ≤ 2
 recs : b.recs.length ≤ 16
 texts : ∀ r ∈ b.recs, r.key.size ≤ 64 ∧ r.val.size ≤ 64
theorem ok_of {b : Bat} (h : rightE b = 0) : Ok b := by
 unfold rightE at h
 split at h
 · omega
 rename_i hb
 split at h
 · split at h
   · rename_i hm hh
     obtain ⟨h1, h2, h3, h4, h5⟩ := hh
     obtain ⟨p0, p1, p2⟩ := head_of h2
     exact ⟨by omega, by omega, by omega, by omega, by omega, by omega, by omega, by omega, by omega, by rw [h5]; simp, by rw [h5]; intro r hr; cases hr⟩
   · omega
 rename_i hm
 split at h
 · rename_i hh
   split at h
   · omega
   rename_i hl
   have hl1 : b.recs.length ≤ 16 := by
    by_cases h16 : 16 < b.recs.length
    · exact absurd (.inl h16) hl
    · omega
   have hl2 : ∀ r ∈ b.recs, r.key.size ≤ 64 ∧ r.val.size ≤ 64 := by
    intro r hr
    refine ⟨?_, ?_⟩
    · by_cases h64 : 64 < r.key.size
      · exact absurd (.inr ⟨r, hr, .inl h64⟩) hl
      · omega
    · by_cases h64 : 64 < r.val.size
      · exact absurd (.inr ⟨r, hr, .inr h64⟩) hl
      · omega
   rcases hh.1 with h1 | ⟨h1, h2⟩
   · obtain ⟨q1, q2, q3, q4⟩ := none_of h1
     exact ⟨by omega, by omega, by omega, by omega, by omega, by omega, by omega, by omega, by omega, hl1, hl2⟩
   · obtain ⟨p0, p1, p2⟩ := head_of h1
     obtain ⟨s0, s1⟩ := of_right h2
     exact ⟨by omega, by omega, by omega, by omega, by omega, by omega, by omega, by omega, by omega, hl1, hl2⟩
 · omega

/-! bytes -/
def flagN (b : Bat) : Nat := (2 * b.marker + (if b.txn = true then 1 else 0)).toNat % 256
def epochN (b : Bat) : Nat := (b.epoch % 65536).toNat
def recB (r : Rc) : List Nat := textB (bl r.key) ++ textB (bl r.val)
def recsB (l : List Rc) : List Nat := l.flatMap recB
def frontB (b : Bat) : List Nat := flagN b :: (longB b.prod ++ (epochN b / 256 :: epochN b % 256 :: (longB b.seq ++ [b.recs.length % 256])))
def bodyB (b : Bat) : List Nat := frontB b ++ recsB b.recs
def bytesB (b : Bat) : List Nat := longB b.base ++ (beB 4 (sealB (bodyB b)).length ++ sealB (bodyB b))
theorem recsB_cons (r : Rc) (l : List Rc) : recsB (r :: l) = recB r ++ recsB l := rfl
theorem recsB_snoc (l : List Rc) (r : Rc) : recsB (l ++ [r]) = recsB l ++ recB r := by simp [recsB]
theorem front_len (b : Bat) : (frontB b).length = 20 := by simp [frontB, VarMath.length_longB]
theorem text_len {s : List Nat} (hl : s.length < 9223372036854775808) : s.length + 1 ≤ (textB s).length ∧ (textB s).length ≤ s.length + 10 := by
 have := VarMath.enc_len (u := 2 * s.length) (by omega)
 unfold textB
 rw [List.length_append]
 omega
theorem rec_len {r : Rc} (h : r.key.size ≤ 64 ∧ r.val.size ≤ 64) : 2 ≤ (recB r).length ∧ (recB r).length ≤ 148 := by
 have h1 := text_len (s := bl r.key) (by rw [bl_len]; omega)
 have h2 := text_len (s := bl r.val) (by rw [bl_len]; omega)
 rw [bl_len] at h1 h2
 unfold recB
 rw [List.length_append]
 omega
theorem recs_len : ∀ {l : List Rc}, (∀ r ∈ l, r.key.size ≤ 64 ∧ r.val.size ≤ 64) → 2 * l.length ≤ (recsB l).length ∧ (recsB l).length ≤ 148 * l.length
 | [], _ => by simp [recsB]
 | r :: l, h => by
   have h1 := rec_len (h r (by simp))
   have h2 := recs_len (l := l) fun x hx => h x (by simp [hx])
   rw [recsB_cons, List.length_append, List.length_cons]
   omega
theorem body_len (b : Bat) : (bodyB b).length = 20 + (recsB b.recs).length := by unfold bodyB; rw [List.length_append, front_len]
theorem bytes_len (b : Bat) : (bytesB b).length = 36 + (recsB b.recs).length := by
 unfold bytesB
 rw [List.length_append, List.length_append, VarMath.length_longB, VarMath.length_beB, CrcMath.length_sealB, body_len]
 omega
theorem ok_len {b : Bat} (h : Ok b) : (bytesB b).length ≤ 2404 ∧ 36 ≤ (bytesB b).length := by
 have h1 := (recs_len h.texts).2
 have h2 := h.recs
 rw [bytes_len]
 omega
theorem text_all {s : List Nat} (h : AllB s) (hl : s.length < 9223372036854775808) : AllB (textB s) := by
 unfold textB
 intro x hx
 rcases List.mem_append.1 hx with h1 | h1
 · exact VarMath.enc_all (by omega) x h1
 · exact h x h1
theorem all_app {a b : List Nat} (ha : AllB a) (hb : AllB b) : AllB (a ++ b) := by
 intro x hx
 rcases List.mem_append.1 hx with h | h
 · exact ha x h
 · exact hb x h
theorem all_cons {a : Nat} {b : List Nat} (ha : a < 256) (hb : AllB b) : AllB (a :: b) := by
 intro x hx
 rcases List.mem_cons.1 hx with h | h
 · rw [h]; exact ha
 · exact hb x h
theorem all_nil : AllB [] := fun x h => by cases h
theorem rec_all {r : Rc} (h : r.key.size < 9223372036854775808 ∧ r.val.size < 9223372036854775808) : AllB (recB r) :=
 all_app (text_all (bl_all _) (by rw [bl_len]; exact h.1)) (text_all (bl_all _) (by rw [bl_len]; exact h.2))
theorem recs_all : ∀ {l : List Rc}, (∀ r ∈ l, r.key.size < 9223372036854775808 ∧ r.val.size < 9223372036854775808) → AllB (recsB l)
 | [], _ => all_nil
 | r :: l, h => by
   rw [recsB_cons]
   exact all_app (rec_all (h r (by simp))) (recs_all fun x hx => h x (by simp [hx]))
theorem flag_lt (b : Bat) : flagN b < 256 := Nat.mod_lt _ (by omega)
theorem epoch_lt (b : Bat) : epochN b < 65536 := by unfold epochN; omega
/-! reading -/
def countB (b : Bat) : Int := if b.marker ≠ 0 then 1 else (b.recs.length : Int)
noncomputable def sizeB (b : Bat) : Int := if rightE b = 0 then ((bytesB b).length : Int) else 0
theorem drop_all {p : List Nat} (h : AllB p) (k : Nat) : AllB (p.drop k) := fun x hx => h x (List.mem_of_mem_drop hx)
theorem take_all {p : List Nat} (h : AllB p) (k : Nat) : AllB (p.take k) := fun x hx => h x (List.mem_of_mem_take hx)
end Go.BatMath
namespace Go.Proofs.YtgohekjkbgfeeaaGreat
open Go.RowKit
open Go.SeqMath
open Go.BatMath
set_option linter.unusedVariables false

/-- A slice of records reads as l. -/
structure RecsAt (w : World) (ad : Option Addr) (len cap : Nat) (l : List Rc) : Prop where
 length : l.length = len
 fits : len ≤ cap
 room : ad = none → cap = 0
 cells : len = 0 ∨ ∃ b off, ad = some ⟨b, off, none⟩ ∧ b < w.heap.size ∧ ∀ i r, l[i]? = some r → w.cell? ⟨b, off + i * 2, none⟩ = some (.string r.key) ∧ w.cell? ⟨b, off + i * 2 + 1, none⟩ = some (.string r.val)
theorem RecsAt.keep {w w' : World} {ad : Option Addr} {len cap : Nat} {l : List Rc} (h : RecsAt w ad len cap l) (hb : Below w.heap.size w w') : RecsAt w' ad len cap l := by
 refine ⟨h.length, h.fits, h.room, ?_⟩
 rcases h.cells with h0 | ⟨b, off, e, hlt, hc⟩
 · exact .inl h0
 · refine .inr ⟨b, off, e, Nat.lt_of_lt_of_le hlt hb.size, fun i r hi => ?_⟩
   obtain ⟨h1, h2⟩ := hc i r hi
   exact ⟨(hb.cell (p := ⟨b, _, none⟩) hlt).trans h1, (hb.cell (p := ⟨b, _, none⟩) hlt).trans h2⟩
theorem recsAt_nil (w : World) : RecsAt w none 0 0 [] := ⟨rfl, Nat.le_refl _, fun _ => rfl, .inl rfl⟩
theorem refSeq_any (n : Int) (w : World) (r : Bool) (hr : rightB n = r) :
 Calls Tryz.prog 120 #[.int .i64 n] w fun e w' => e = .returned (.bool r) ∧ w = w' := by
 subst hr
 by_cases h0 : 0 ≤ n
 · by_cases h1 : n ≤ 2147483647
   · rw [right_yes h0 h1]
     go_enter Tryz.func120, Tryz.ntmps120
     go_wp2
     go_ret
     exact ⟨rfl, rfl⟩
   · have h1' : 2147483647 < n := by omega
     rw [right_no (.inr h1')]
     go_enter Tryz.func120, Tryz.ntmps120
     go_wp2
     go_ret
     exact ⟨rfl, rfl⟩
 · have h0' : n < 0 := by omega
   rw [right_no (.inl h0')]
   go_enter Tryz.func120, Tryz.ntmps120
   go_wp2
   go_ret
   exact ⟨rfl, rfl⟩
theorem refHead_any (w : World) (b0 b1 b2 b3 : Int) (b4 : Bool) (b5 : Int) (ad : Option Addr) (len cap : Nat) (r : Bool) (hr : (decide (0 ≤ b1) && (decide (0 ≤ b2) && decide (b2 ≤ 32767))) = r) :
 Calls Tryz.prog 119 #[.agg #[.int .i64 b0, .int .i64 b1, .int .i64 b2, .int .i64 b3, .bool b4, .int .i64 b5, .slice ad len cap]] w fun e w' => e = .returned (.bool r) ∧ Below w.heap.size w w' := by
 by_cases h0 : 0 ≤ b1
 · by_cases h1 : 0 ≤ b2
   · by_cases h2 : b2 ≤ 32767
     · obtain rfl : r = true := by rw [← hr]; simp [h0, h1, h2]
       clear hr
       go_enter Tryz.func119, Tryz.ntmps119
       go_wp2
       go_ret
       exact ⟨rfl, (Below.refl _ _).alloc (Nat.le_refl _) _⟩
     · obtain rfl : r = false := by rw [← hr]; simp [h2]
       have h2' : 32767 < b2 := by omega
       clear hr
       go_enter Tryz.func119, Tryz.ntmps119
       go_wp2
       go_ret
       exact ⟨rfl, (Below.refl _ _).alloc (Nat.le_refl _) _⟩
   · obtain rfl : r = false := by rw [← hr]; simp [h1]
     have h1' : b2 < 0 := by omega
     clear hr
     go_enter Tryz.func119, Tryz.ntmps119
     go_wp2
     go_ret
     exact ⟨rfl, (Below.refl _ _).alloc (Nat.le_refl _) _⟩
 · obtain rfl : r = false := by rw [← hr]; simp [h0]
   have h0' : b1 < 0 := by omega
   clear hr
   go_enter Tryz.func119, Tryz.ntmps119
   go_wp2
   go_ret
   exact ⟨rfl, (Below.refl _ _).alloc (Nat.le_refl _) _⟩
/-- A block that is one batch, field by field. -/
def BoxAt (w : World) (k : Nat) (b0 b1 b2 b3 : Int) (b4 : Bool) (b5 : Int) (v : Value) : Prop := w.heap[k]? = some (.cells #[.int .i64 b0, .int .i64 b1, .int .i64 b2, .int .i64 b3, .bool b4, .int .i64 b5, v] 56 (0, 0))
section
variable {w : World} {k : Nat} {b0 b1 b2 b3 : Int} {b4 : Bool} {b5 : Int} {v : Value}
theorem BoxAt.c0 (h : BoxAt w k b0 b1 b2 b3 b4 b5 v) : w.cell? ⟨k, 0, none⟩ = some (.int .i64 b0) := by rw [cell_of_row _ _ 0 _ _ _ h]; rfl
theorem BoxAt.c1 (h : BoxAt w k b0 b1 b2 b3 b4 b5 v) : w.cell? ⟨k, 1, none⟩ = some (.int .i64 b1) := by rw [cell_of_row _ _ 1 _ _ _ h]; rfl
theorem BoxAt.c2 (h : BoxAt w k b0 b1 b2 b3 b4 b5 v) : w.cell? ⟨k, 2, none⟩ = some (.int .i64 b2) := by rw [cell_of_row _ _ 2 _ _ _ h]; rfl
theorem BoxAt.c3 (h : BoxAt w k b0 b1 b2 b3 b4 b5 v) : w.cell? ⟨k, 3, none⟩ = some (.int .i64 b3) := by rw [cell_of_row _ _ 3 _ _ _ h]; rfl
theorem BoxAt.c4 (h : BoxAt w k b0 b1 b2 b3 b4 b5 v) : w.cell? ⟨k, 4, none⟩ = some (.bool b4) := by rw [cell_of_row _ _ 4 _ _ _ h]; rfl
theorem BoxAt.c5 (h : BoxAt w k b0 b1 b2 b3 b4 b5 v) : w.cell? ⟨k, 5, none⟩ = some (.int .i64 b5) := by rw [cell_of_row _ _ 5 _ _ _ h]; rfl
theorem BoxAt.c6 (h : BoxAt w k b0 b1 b2 b3 b4 b5 v) : w.cell? ⟨k, 6, none⟩ = some v := by rw [cell_of_row _ _ 6 _ _ _ h]; rfl
theorem BoxAt.free (h : BoxAt w k b0 b1 b2 b3 b4 b5 v) (j : Nat) : w.frozen? ⟨k, j, none⟩ = false := frozen_of_row w k j _ _ h
theorem BoxAt.lt (h : BoxAt w k b0 b1 b2 b3 b4 b5 v) : k < w.heap.size := lt_of_block h
theorem BoxAt.keep {w' : World} {B : Nat} (h : BoxAt w k b0 b1 b2 b3 b4 b5 v) (hb : Below B w w') (hk : k < B) : BoxAt w' k b0 b1 b2 b3 b4 b5 v := by
 unfold BoxAt at *
 rw [hb.block k hk]
 exact h
theorem BoxAt.on {w' : World} (h : BoxAt w k b0 b1 b2 b3 b4 b5 v) (hb : Below w.heap.size w w') : BoxAt w' k b0 b1 b2 b3 b4 b5 v := h.keep hb h.lt
theorem boxAt_new (w : World) (b0 b1 b2 b3 : Int) (b4 : Bool) (b5 : Int) (v : Value) : BoxAt (w.alloc (.cells #[.int .i64 b0, .int .i64 b1, .int .i64 b2, .int .i64 b3, .bool b4, .int .i64 b5, v] 56)) w.heap.size b0 b1 b2 b3 b4 b5 v := heap_alloc_new w _
end
end Go.Proofs.YtgohekjkbgfeeaaGreat
namespace Go.Proofs.YtgohekjkbgfeeaaGreat
open Go.RowKit
open Go.SeqMath
open Go.BatMath
set_option linter.unusedVariables false

theorem bcell {W w1 : World} (hb : Below W.heap.size W w1) : (∀ b o, b < W.heap.size → w1.cell? ⟨b, o, none⟩ = W.cell? ⟨b, o, none⟩) ∧ (∀ b o, b < W.heap.size → w1.frozen? ⟨b, o, none⟩ = W.frozen? ⟨b, o, none⟩) :=
 ⟨fun b o h => hb.cell (p := ⟨b, o, none⟩) h, fun b o h => hb.frozen (p := ⟨b, o, none⟩) h⟩
/- rightE, shape by shape -/
theorem e_low {b : Bat} (h : b.base < 0) : rightE b = 18 := by unfold rightE; rw [if_pos (.inl h)]
theorem e_high {b : Bat} (h : 1099511627776 < b.base) : rightE b = 18 := by unfold rightE; rw [if_pos (.inr h)]
theorem e_mark {b : Bat} (h0 : 0 ≤ b.base) (h1 : b.base ≤ 1099511627776) (hm : b.marker ≠ 0) : rightE b = if (b.marker = 1 ∨ b.marker = 2) ∧ headB b = true ∧ b.seq = -1 ∧ b.txn = true ∧ b.recs = [] then 0 else 12 := by
 unfold rightE; rw [if_neg (by omega), if_pos hm]
theorem e_data {b : Bat} (h0 : 0 ≤ b.base) (h1 : b.base ≤ 1099511627776) (hm : b.marker = 0) (h : ¬ ((noneB b = true ∨ headB b = true ∧ rightB b.seq = true) ∧ b.recs ≠ [])) : rightE b = 12 := by
 unfold rightE; rw [if_neg (by omega), if_neg (by omega), if_neg h]
theorem e_long {b : Bat} (h0 : 0 ≤ b.base) (h1 : b.base ≤ 1099511627776) (hm : b.marker = 0) (h : (noneB b = true ∨ headB b = true ∧ rightB b.seq = true) ∧ b.recs ≠ []) (hl : 16 < b.recs.length ∨ ∃ r ∈ b.recs, longRec r) : rightE b = 13 := by
 unfold rightE; rw [if_neg (by omega), if_neg (by omega), if_pos h, if_pos hl]
theorem e_fine {b : Bat} (h0 : 0 ≤ b.base) (h1 : b.base ≤ 1099511627776) (hm : b.marker = 0) (h : (noneB b = true ∨ headB b = true ∧ rightB b.seq = true) ∧ b.recs ≠ []) (hl : ¬ (16 < b.recs.length ∨ ∃ r ∈ b.recs, longRec r)) : rightE b = 0 := by
 unfold rightE; rw [if_neg (by omega), if_neg (by omega), if_pos h, if_neg hl]
def Says (n : Int) (w : World) (e : Ending) (w' : World) : Prop := e = .returned (.int .i64 n) ∧ Below w.heap.size w w'
theorem says_mk {n m : Int} {w w' : World} (h : m = n) (hb : Below w.heap.size w w') : Says n w (.returned (.int .i64 m)) w' := ⟨by rw [h], hb⟩
set_option maxRecDepth 100000 in
set_option maxHeartbeats 1000000 in
/-- Markers. -/
theorem plain_mark (w : World) (b : Bat) (ad : Option Addr) (cap : Nat) (hr : RecsAt w ad b.recs.length cap b.recs) (h0 : 0 ≤ b.base) (h1 : b.base ≤ 1099511627776) (hm : b.marker ≠ 0) :
 Calls Tryz.prog 92 #[.agg #[.int .i64 b.base, .int .i64 b.prod, .int .i64 b.epoch, .int .i64 b.seq, .bool b.txn, .int .i64 b.marker, .slice ad b.recs.length cap]] w (Says (rightE b) w) := by
 have he := e_mark h0 h1 hm
 have he0 : (b.marker = 1 ∨ b.marker = 2) ∧ headB b = true ∧ b.seq = -1 ∧ b.txn = true ∧ b.recs.length = 0 → rightE b = 0 := by
  rintro ⟨q1, q2, q3, q4, q5⟩
  rw [he, if_pos ⟨q1, q2, q3, q4, List.eq_nil_of_length_eq_zero q5⟩]
 have he1 : ¬ ((b.marker = 1 ∨ b.marker = 2) ∧ headB b = true ∧ b.seq = -1 ∧ b.txn = true ∧ b.recs.length = 0) → rightE b = 12 := by
  intro q
  rw [he, if_neg]
  rintro ⟨q1, q2, q3, q4, q5⟩
  exact q ⟨q1, q2, q3, q4, by rw [q5]; rfl⟩
 obtain ⟨ev, hev⟩ : ∃ ev, ev = rightE b := ⟨_, rfl⟩
 rw [← hev] at he0 he1 ⊢
 have hh : headB b = (decide (0 ≤ b.prod) && (decide (0 ≤ b.epoch) && decide (b.epoch ≤ 32767))) := rfl
 obtain ⟨hd, hdd⟩ : ∃ hd, hd = headB b := ⟨_, rfl⟩
 rw [← hdd] at he0 he1 hh
 clear he hev hdd
 obtain ⟨base, prod, epoch, seq, txn, marker, recs⟩ := b
 simp only at h0 h1 hm he0 he1 hh hr ⊢
 obtain ⟨len, hlen⟩ : ∃ len, len = recs.length := ⟨_, rfl⟩
 rw [← hlen] at he0 he1 hr ⊢
 have HH := Lib.hid hh.symm
 have HE0 := Lib.hid he0
 have HE1 := Lib.hid he1
 have HR := Lib.hid hr
 have hm0 : (marker == 0) = false := by simpa using hm
 have hm0' : (marker != 0) = true := by simpa using hm
 clear hh he0 he1 hr hlen
 by_cases hm12 : marker = 1 ∨ marker = 2
 · cases hd
   · rcases hm12 with rfl | rfl
     all_goals
      go_enter Tryz.func92, Tryz.ntmps92
      go_wp2_with (go_at_call 119; refine (refHead_any _ _ _ _ _ _ _ _ _ _ false HH.out).mono ?_; rintro e w1 ⟨rfl, hb⟩; obtain ⟨hc, hf⟩ := bcell hb; have HB := Lib.hid hb; clear hb)
      go_ret
      exact says_mk ((HE1.out (by simp)).symm) (((Below.refl _ _).alloc (Nat.le_refl _) _).trans (HB.out.mono (by simp)))
   · by_cases hs : seq = -1
     · subst hs
       cases txn
       · rcases hm12 with rfl | rfl
         all_goals
          go_enter Tryz.func92, Tryz.ntmps92
          go_wp2_with (go_at_call 119; refine (refHead_any _ _ _ _ _ _ _ _ _ _ true HH.out).mono ?_; rintro e w1 ⟨rfl, hb⟩; obtain ⟨hc, hf⟩ := bcell hb; have HB := Lib.hid hb; clear hb)
          go_ret
          exact says_mk ((HE1.out (by simp)).symm) (((Below.refl _ _).alloc (Nat.le_refl _) _).trans (HB.out.mono (by simp)))
       · by_cases hl : len = 0
         · subst hl
           rcases hm12 with rfl | rfl
           all_goals
            go_enter Tryz.func92, Tryz.ntmps92
            go_wp2_with (go_at_call 119; refine (refHead_any _ _ _ _ _ _ _ _ _ _ true HH.out).mono ?_; rintro e w1 ⟨rfl, hb⟩; obtain ⟨hc, hf⟩ := bcell hb; have HB := Lib.hid hb; clear hb)
            go_ret
            exact says_mk ((HE0.out (by simp)).symm) (((Below.refl _ _).alloc (Nat.le_refl _) _).trans (HB.out.mono (by simp)))
         · have hl' : 0 < len := by omega
           rcases hm12 with rfl | rfl
           all_goals
            go_enter Tryz.func92, Tryz.ntmps92
            go_wp2_with (go_at_call 119; refine (refHead_any _ _ _ _ _ _ _ _ _ _ true HH.out).mono ?_; rintro e w1 ⟨rfl, hb⟩; obtain ⟨hc, hf⟩ := bcell hb; have HB := Lib.hid hb; clear hb)
            go_ret
            exact says_mk ((HE1.out (by simp; omega)).symm) (((Below.refl _ _).alloc (Nat.le_refl _) _).trans (HB.out.mono (by simp)))
     · have hs1 : (seq == -1) = false := by simpa using hs
       have hs2 : (seq != -1) = true := by simpa using hs
       rcases hm12 with rfl | rfl
       all_goals
        go_enter Tryz.func92, Tryz.ntmps92
        go_wp2_with (go_at_call 119; refine (refHead_any _ _ _ _ _ _ _ _ _ _ true HH.out).mono ?_; rintro e w1 ⟨rfl, hb⟩; obtain ⟨hc, hf⟩ := bcell hb; have HB := Lib.hid hb; clear hb)
        go_ret
        exact says_mk ((HE1.out (by simp [hs])).symm) (((Below.refl _ _).alloc (Nat.le_refl _) _).trans (HB.out.mono (by simp)))
 · have hm1 : (marker != 1) = true := by simp; omega
   have hm2 : (marker != 2) = true := by simp; omega
   go_enter Tryz.func92, Tryz.ntmps92
   go_wp2
   go_ret
   exact says_mk ((HE1.out fun h => hm12 h.1).symm) ((Below.refl _ _).alloc (Nat.le_refl _) _)
end Go.Proofs.YtgohekjkbgfeeaaGreat
namespace Go.Proofs.YtgohekjkbgfeeaaGreat
open Go.RowKit
open Go.SeqMath
open Go.BatMath
set_option linter.unusedVariables false

def TextsOk (l : List Rc) : Prop := ∀ r ∈ l, r.key.size ≤ 140737488355328 ∧ r.val.size ≤ 140737488355328
/-- What stands before round j of the loop over the records. -/
def PlainAt (w : World) (l : List Rc) (v : Value) (wr : World) : Prop := ∃ j : Nat, j ≤ l.length ∧ v = .int .i64 j ∧ (∀ i r, i < j → l[i]? = some r → ¬ longRec r) ∧ Below w.heap.size w wr
theorem plainAt_start (w W : World) (l : List Rc) (h : Below w.heap.size w W) : PlainAt w l (.int .i64 0) W := ⟨0, Nat.zero_le _, rfl, fun i r hi => by omega, h⟩
theorem not_long {l : List Rc} (h : ∀ i r, i < l.length → l[i]? = some r → ¬ longRec r) : ¬ ∃ r ∈ l, longRec r := by
 rintro ⟨r, hr, hl⟩
 obtain ⟨i, hi, rfl⟩ := List.getElem_of_mem hr
 exact h i _ hi (List.getElem?_eq_getElem hi) hl
theorem none_no {b : Bat} (h : noneB b = false) : b.prod ≠ -1 ∨ b.epoch ≠ -1 ∨ b.seq ≠ -1 ∨ b.txn = true := by
 by_cases h1 : b.prod = -1
 · by_cases h2 : b.epoch = -1
   · by_cases h3 : b.seq = -1
     · cases h4 : b.txn
       · simp [noneB, h1, h2, h3, h4] at h
       · exact .inr (.inr (.inr rfl))
     · exact .inr (.inr (.inl h3))
   · exact .inr (.inl h2)
 · exact .inl h1
set_option maxRecDepth 100000 in
set_option maxHeartbeats 2000000 in
theorem plain_data (w : World) (b : Bat) (ad : Option Addr) (cap : Nat) (hr : RecsAt w ad b.recs.length cap b.recs) (ht : TextsOk b.recs) (h0 : 0 ≤ b.base) (h1 : b.base ≤ 1099511627776) (hm : b.marker = 0) (hL : b.recs.length ≤ 140737488355328) :
 Calls Tryz.prog 92 #[.agg #[.int .i64 b.base, .int .i64 b.prod, .int .i64 b.epoch, .int .i64 b.seq, .bool b.txn, .int .i64 b.marker, .slice ad b.recs.length cap]] w (Says (rightE b) w) := by
 have hne : (b.recs ≠ []) = (0 < b.recs.length) := propext List.length_pos_iff.symm
 have e12 := e_data h0 h1 hm
 have e13 := e_long h0 h1 hm
 have e0 := e_fine h0 h1 hm
 rw [hne] at e12 e13 e0
 obtain ⟨ev, hev⟩ : ∃ ev, ev = rightE b := ⟨_, rfl⟩
 rw [← hev] at e12 e13 e0 ⊢
 have hh : (decide (0 ≤ b.prod) && (decide (0 ≤ b.epoch) && decide (b.epoch ≤ 32767))) = headB b := rfl
 have hnn : noneB b = true → b.prod = -1 ∧ b.epoch = -1 ∧ b.seq = -1 ∧ b.txn = false := none_of
 have hnf : noneB b = false → b.prod ≠ -1 ∨ b.epoch ≠ -1 ∨ b.seq ≠ -1 ∨ b.txn = true := none_no
 obtain ⟨hd, hdd⟩ : ∃ hd, hd = headB b := ⟨_, rfl⟩
 obtain ⟨nn, hnd⟩ : ∃ nn, nn = noneB b := ⟨_, rfl⟩
 rw [← hdd] at e12 e13 e0 hh
 rw [← hnd] at e12 e13 e0 hnn hnf
 clear hev hdd hnd hne
 obtain ⟨base, prod, epoch, seq, txn, marker, recs⟩ := b
 simp only at h0 h1 hm e12 e13 e0 hh hr ht hL hnn hnf ⊢
 obtain ⟨rt, hrt⟩ : ∃ rt, rightB seq = rt := ⟨_, rfl⟩
 rw [hrt] at e12 e13 e0
 obtain ⟨len, hlen⟩ : ∃ len, len = recs.length := ⟨_, rfl⟩
 rw [← hlen] at e12 e13 e0 hr hL ⊢
 have HH := Lib.hid hh
 have HRT := Lib.hid hrt
 have HN := Lib.hid hnn
 have HF := Lib.hid hnf
 have E12 := Lib.hid e12
 have E13 := Lib.hid e13
 have E0 := Lib.hid e0
 have HR := Lib.hid hr
 have HT := Lib.hid ht
 have HLEN := Lib.hid hlen
 clear hh hrt hnn hnf e12 e13 e0 hr ht hlen
 subst hm
 go_enter Tryz.func92, Tryz.ntmps92
 go_upto_region 7 with fail
 go_cut [3] from 6 (fun s3 wx => s3 = .bool nn ∧ Hid (BoxAt wx w.heap.size base prod epoch seq txn 0 (.slice ad len cap)) ∧ Hid (Below w.heap.size w wx))
 case first =>
  cases h1 : (prod == -1)
  · obtain rfl : nn = false := by
     cases nn
     · rfl
     · have := (HN.out rfl).1; subst this; cases h1
    go_wp2
    go_meet
    case rel => exact ⟨rfl, boxAt_new w _ _ _ _ _ _ _, (Below.refl _ _).alloc (Nat.le_refl _) _⟩
  · cases h2 : (epoch == -1)
    · obtain rfl : nn = false := by
       cases nn
       · rfl
       · have := (HN.out rfl).2.1; subst this; cases h2
      go_wp2
      go_meet
      case rel => exact ⟨rfl, boxAt_new w _ _ _ _ _ _ _, (Below.refl _ _).alloc (Nat.le_refl _) _⟩
    · cases h3 : (seq == -1)
      · obtain rfl : nn = false := by
         cases nn
         · rfl
         · have := (HN.out rfl).2.2.1; subst this; cases h3
        go_wp2
        go_meet
        case rel => exact ⟨rfl, boxAt_new w _ _ _ _ _ _ _, (Below.refl _ _).alloc (Nat.le_refl _) _⟩
      · cases txn
        · obtain rfl : nn = true := by
           cases nn
           · rcases HF.out rfl with h | h | h | h
             · exact absurd (by simpa using h1) h
             · exact absurd (by simpa using h2) h
             · exact absurd (by simpa using h3) h
             · cases h
           · rfl
          go_wp2
          go_meet
          case rel => exact ⟨rfl, boxAt_new w _ _ _ _ _ _ _, (Below.refl _ _).alloc (Nat.le_refl _) _⟩
        · obtain rfl : nn = false := by
           cases nn
           · rfl
           · have := (HN.out rfl).2.2.2; cases this
          go_wp2
          go_meet
          case rel => exact ⟨rfl, boxAt_new w _ _ _ _ _ _ _, (Below.refl _ _).alloc (Nat.le_refl _) _⟩
 case rest =>
  obtain ⟨rfl, HBX, HBW⟩ := hcut
  have hblt := HBX.out.lt
  have hc0 := HBX.out.c0
  have hc1 := HBX.out.c1
  have hc2 := HBX.out.c2
  have hc3 := HBX.out.c3
  have hc4 := HBX.out.c4
  have hc5 := HBX.out.c5
  have hc6 := HBX.out.c6
  go_upto_region 8 with fail
  go_cut [82] from 64 (fun s82 wx => s82 = .bool (!((nn || (hd && rt)) && decide (0 < len))) ∧ Hid (BoxAt wx w.heap.size base prod epoch seq txn 0 (.slice ad len cap)) ∧ Hid (Below w.heap.size w wx))
  case first =>
   cases nn
   · cases hd
     · go_wp2_with (go_at_call 119; refine (refHead_any _ _ _ _ _ _ _ _ _ _ false HH.out).mono ?_; rintro e w1 ⟨rfl, hb⟩; obtain ⟨hc, hf⟩ := bcell hb; have HB := Lib.hid hb; clear hb)
       go_meet
       case rel => exact ⟨by simp, HBX.out.on HB.out, HBW.out.trans (HB.out.mono HBW.out.size)⟩
     · cases rt
       · go_wp2_with (first | (go_at_call 119; refine (refHead_any _ _ _ _ _ _ _ _ _ _ true HH.out).mono ?_; rintro e w1 ⟨rfl, hb⟩; obtain ⟨hc, hf⟩ := bcell hb; have HB := Lib.hid hb; clear hb) | (go_at_call 120; refine (refSeq_any _ _ false HRT.out).mono ?_; rintro e w' ⟨rfl, rfl⟩))
         go_meet
         case rel => exact ⟨by simp, HBX.out.on HB.out, HBW.out.trans (HB.out.mono HBW.out.size)⟩
       · by_cases hl : 0 < len
         · have hz : ((len : Int) == 0) = false := by simp; omega
           have hz2 : decide (0 < len) = true := by simp [hl]
           have HZ2 := Lib.hid hz2
           clear hz2
           go_wp2_with (first | (go_at_call 119; refine (refHead_any _ _ _ _ _ _ _ _ _ _ true HH.out).mono ?_; rintro e w1 ⟨rfl, hb⟩; obtain ⟨hc, hf⟩ := bcell hb; have HB := Lib.hid hb; clear hb) | (go_at_call 120; refine (refSeq_any _ _ true HRT.out).mono ?_; rintro e w' ⟨rfl, rfl⟩))
           go_meet
           case rel => exact ⟨by rw [HZ2.out]; simp, HBX.out.on HB.out, HBW.out.trans (HB.out.mono HBW.out.size)⟩
         · obtain rfl : len = 0 := by omega
           clear hl
           go_wp2_with (first | (go_at_call 119; refine (refHead_any _ _ _ _ _ _ _ _ _ _ true HH.out).mono ?_; rintro e w1 ⟨rfl, hb⟩; obtain ⟨hc, hf⟩ := bcell hb; have HB := Lib.hid hb; clear hb) | (go_at_call 120; refine (refSeq_any _ _ true HRT.out).mono ?_; rintro e w' ⟨rfl, rfl⟩))
           go_meet
           case rel => exact ⟨by simp, HBX.out.on HB.out, HBW.out.trans (HB.out.mono HBW.out.size)⟩
   · by_cases hl : 0 < len
     · have hz : ((len : Int) == 0) = false := by simp; omega
       have hz2 : decide (0 < len) = true := by simp [hl]
       have HZ2 := Lib.hid hz2
       clear hz2
       go_wp2
       go_meet
       case rel => exact ⟨by rw [HZ2.out]; simp, HBX, HBW⟩
     · obtain rfl : len = 0 := by omega
       clear hl
       go_wp2
       go_meet
       case rel => exact ⟨by simp, HBX, HBW⟩
  case rest =>
   clear hc0 hc1 hc2 hc3 hc4 hc5 hc6
   obtain ⟨rfl, HBX2, HBW2⟩ := hcut
   obtain ⟨cnd, hcn⟩ : ∃ cnd, cnd = ((nn || (hd && rt)) && decide (0 < len)) := ⟨_, rfl⟩
   rw [← hcn]
   cases cnd
   · have HC := Lib.hid hcn.symm
     clear hcn
     go_wp2
     go_ret
     refine says_mk (E12.out ?_).symm HBW2.out
     rintro ⟨q1, q2⟩
     have hx := HC.out
     rcases q1 with q1 | ⟨q1, q3⟩
     · rw [q1] at hx; simp at hx; omega
     · rw [q1, q3] at hx; simp at hx; omega
   · have hcn2 : (nn = true ∨ hd = true ∧ rt = true) ∧ 0 < len := by simpa using hcn.symm
     have HC := Lib.hid hcn2
     have hlen := hcn2.2
     clear hcn hcn2
     have hc6 := HBX2.out.c6
     by_cases h16 : 16 < len
     · go_wp2
       go_ret
       exact says_mk (E13.out HC.out (.inl h16)).symm HBW2.out
     · have h16' : len ≤ 16 := by omega
       go_wp2_with fail
       go_loopw [90] (fun v90 wr => PlainAt w recs v90 wr) (fun v90 _ => len - (intOf v90).toNat)
       case atStart => exact plainAt_start w _ recs HBW2.out
       case round =>
        obtain ⟨j, hj, rfl, hno, hbel⟩ := hrel
        have HNO := Lib.hid hno
        have HBEL := Lib.hid hbel
        rw [← HLEN.out] at hj
        clear hno hbel
        by_cases hlt : j < len
        · obtain ⟨r, hrj⟩ : ∃ r, recs[j]? = some r := by
           have hjl : j < recs.length := by rw [← HLEN.out]; exact hlt
           exact ⟨_, List.getElem?_eq_getElem hjl⟩
          obtain ⟨bk, off, rfl, hbk, hcell⟩ : ∃ bk off, ad = some ⟨bk, off, none⟩ ∧ bk < w.heap.size ∧ ∀ i r, recs[i]? = some r → wr.cell? ⟨bk, off + i * 2, none⟩ = some (.string r.key) ∧ wr.cell? ⟨bk, off + i * 2 + 1, none⟩ = some (.string r.val) := by
           rcases HR.out.cells with h | ⟨bk, off, e, hlt, hc⟩
           · omega
           · exact ⟨bk, off, e, hlt, fun i r hi => ⟨(HBEL.out.cell (p := ⟨bk, _, none⟩) hlt).trans (hc i r hi).1, (HBEL.out.cell (p := ⟨bk, _, none⟩) hlt).trans (hc i r hi).2⟩⟩
          obtain ⟨hk, hv⟩ := hcell j r hrj
          obtain ⟨hs1, hs2⟩ := HT.out r (List.mem_of_getElem? hrj)
          obtain ⟨ks, vs⟩ := r
          simp only at hk hv hs1 hs2
          have HRJ := Lib.hid hrj
          have HMEM : Hid ((⟨ks, vs⟩ : Rc) ∈ recs) := List.mem_of_getElem? hrj
          clear hcell hrj
          by_cases hk64 : 64 < ks.size
          · go_wp2
            go_ret
            exact says_mk (E13.out HC.out (.inr ⟨⟨ks, vs⟩, HMEM.out, .inl hk64⟩)).symm (HBEL.out.alloc HBEL.out.size _)
          · have hk64' : ks.size ≤ 64 := by omega
            by_cases hv64 : 64 < vs.size
            · go_wp2
              go_ret
              exact says_mk (E13.out HC.out (.inr ⟨⟨ks, vs⟩, HMEM.out, .inr hv64⟩)).symm (HBEL.out.alloc HBEL.out.size _)
            · have hv64' : vs.size ≤ 64 := by omega
              have HNO2 : Hid (∀ i r, i < j + 1 → recs[i]? = some r → ¬ longRec r) := by
               intro i r hi hir
               by_cases e : i = j
               · subst e
                 rw [HRJ.out] at hir
                 cases hir
                 rintro (h | h)
                 · exact hk64 h
                 · exact hv64 h
               · exact HNO.out i r (by omega) hir
              have HLE : Hid (j + 1 ≤ recs.length) := by show _ ≤ _; rw [← HLEN.out]; exact hlt
              go_wp2
              go_roundw
              case rel => (repeat apply Exists.intro); exact ⟨⟨j + 1, HLE.out, by go_num, HNO2.out, HBEL.out.alloc HBEL.out.size _⟩, rfl⟩
              case measure => simp [intOf]; omega
        · obtain rfl : j = len := by omega
          go_wp2
          go_ret
          refine says_mk (E0.out HC.out ?_).symm HBEL.out
          rintro (h | h)
          · omega
          · exact not_long (by rw [← HLEN.out]; exact HNO.out) h
/-- Any batch whose texts are such. -/
theorem plain_any (w : World) (b : Bat) (ad : Option Addr) (cap : Nat) (hr : RecsAt w ad b.recs.length cap b.recs) (ht : TextsOk b.recs) (hL : b.recs.length ≤ 140737488355328) :
 Calls Tryz.prog 92 #[.agg #[.int .i64 b.base, .int .i64 b.prod, .int .i64 b.epoch, .int .i64 b.seq, .bool b.txn, .int .i64 b.marker, .slice ad b.recs.length cap]] w (Says (rightE b) w) := by
 by_cases h0 : b.base < 0
 · rw [e_low h0]
   go_enter Tryz.func92, Tryz.ntmps92
   go_wp2
   go_ret
   exact says_mk rfl ((Below.refl _ _).alloc (Nat.le_refl _) _)
 · have h0' : 0 ≤ b.base := by omega
   by_cases h1 : 1099511627776 < b.base
   · rw [e_high h1]
     go_enter Tryz.func92, Tryz.ntmps92
     go_wp2
     go_ret
     exact says_mk rfl ((Below.refl _ _).alloc (Nat.le_refl _) _)
   · by_cases hm : b.marker = 0
     · have e : (.int .i64 b.marker : Value) = .int .i64 b.marker := rfl
       exact plain_data w b ad cap hr ht h0' (by omega) hm hL
     · exact plain_mark w b ad cap hr h0' (by omega) hm
end Go.Proofs.YtgohekjkbgfeeaaGreat
namespace Go.Proofs.YtgohekjkbgfeeaaGreat
open Go.RowKit
open Go.VarMath hiding AllB
set_option linter.unusedVariables false

theorem zigr_pos (n : Int) (h0 : 0 ≤ n) (h1 : n ≤ 9223372036854775807) (a b : Int) (ha : a = n * 2) (hb : b = 0) : bits .xor .u64 a b = ((zig n : Nat) : Int) := by
 have h2 := zig_nonneg h0
 have h4 : a = ((zig n : Nat) : Int) := by omega
 have h5 := zig_lt (n := n) (by omega) h1
 rw [hb, h4, u64_keep _ h5]
/-- The number that the document's own Put writes, whatever its spelling. -/
theorem zigr (n : Int) (h0 : -9223372036854775808 ≤ n) (h1 : n ≤ 9223372036854775807) (a b : Int) (ha : a = n * 2 % 18446744073709551616) (hb : b = n / 9223372036854775808 % 18446744073709551616) : bits .xor .u64 a b = ((zig n : Nat) : Int) := by
 by_cases h : 0 ≤ n
 · exact zigr_pos n h h1 a b (by omega) (by omega)
 · exact zig_minus n (by omega) h0 a b ha (by omega)
set_option maxHeartbeats 400000 in
theorem refPut_any (w : World) (ad : Option Addr) (len cap : Nat) (bs : List Nat) (n : Int) (h : Row w ad len cap bs) (hL : len ≤ 140737488355300) (h0 : -9223372036854775808 ≤ n) (h1 : n ≤ 9223372036854775807) :
 Calls Tryz.prog 28 #[.slice ad len cap, .int .i64 n] w (GivesRow w (bs ++ encN n)) := by
 have HB := Lib.hid h
 have hu := zig_lt h0 h1
 clear h
 have HZ1 : Hid (Below w.heap.size w (w.alloc (.cells #[] 5))) := (Below.refl _ _).alloc (Nat.le_refl _) _
 go_enter Tryz.func28, Tryz.ntmps28
 go_wp2_with (at_builtin; refine append_row rfl (.tmp 7) (.tmp 8) rfl w.heap.size 0 [] _ _ rfl (own_empty w _ (Nat.le_refl _)) (some_ne _ _ _) HZ1.out.size _ _ _ rfl (HB.out.keep HZ1.out (Nat.le_refl _)) (by omega) w HZ1.out ?_)
 intro g cp w1 ho1 hb1
 have HO := Lib.hid (show w1.ownsRow w.heap.size 5 1 (.slice (some ⟨g, 0, none⟩) len cp) len (vals bs) by simpa using ho1)
 have HB1 := Lib.hid hb1
 clear ho1 hb1
 have hx : bits .xor .u64 (IntKind.u64.wrap (wrap64 (n * 2))) (IntKind.u64.wrap (n / 9223372036854775808)) = ((zig n : Nat) : Int) :=
  zigr n h0 h1 _ _ (by rw [wrap_u64']; unfold wrap64; omega) (by rw [wrap_u64'])
 obtain ⟨u, hue⟩ : ∃ u, u = zig n := ⟨_, rfl⟩
 rw [← hue] at hu hx
 have HU := Lib.hid hue
 clear hue
 go_wp2
 clear hx
 go_loopw [5, 6] (fun v5 v6 wr => PutAt w bs u v5 v6 wr) (fun _ v6 _ => (intOf v6).toNat)
 case atStart => exact putAt_start hu HB.out.len HO.out HB1.out
 case round =>
  obtain ⟨f, v, g, cap', k, pre, hu', hf, h2, h6, ha, hn, rfl, rfl, hown, hbel⟩ := hrel
  have HU' := Lib.hid hu'
  have HF := Lib.hid hf
  have HN := Lib.hid hn
  have HO' := Lib.hid hown
  have HW := Lib.hid hbel
  have HA := Lib.hid ha
  have H2 := Lib.hid h2
  have hk : k ≤ 140737488355320 := by have := HB.out.len; omega
  clear hu' hf hn hown hbel ha h2
  by_cases hv : 127 < v
  · obtain ⟨y, hy⟩ : ∃ y, y = v % 256 := ⟨_, rfl⟩
    have hwr : IntKind.u8.wrap (v : Int) = (y : Int) := by rw [wrap_u8']; omega
    have hor := hi7 y (by omega)
    have hy2 : y % 128 + 128 = v % 128 + 128 := by omega
    rw [hy2] at hor
    clear hy hy2
    obtain ⟨z, hz⟩ : ∃ z, z = v % 128 + 128 := ⟨_, rfl⟩
    rw [← hz] at hor
    have hz8 : z < 256 := by omega
    have HZ := Lib.hid hz
    clear hz
    have hge : decide ((128 : Int) ≤ (v : Int)) = true := by simp; omega
    have HW2 : Hid (Below w.heap.size w (wr.alloc (.cells #[.int .u8 (z : Int)] 5))) := HW.out.alloc HW.out.size _
    go_wp2_with (at_builtin; refine append_row rfl (.tmp 19) (.tmp 23) rfl w.heap.size k (bs ++ pre) [z] _ rfl (HO'.out.alloc _) (some_ne _ _ _) HW2.out.size _ _ _ rfl (row_byte wr z hz8) (by omega) w HW2.out ?_)
    intro g3 cp3 w3 ho3 hb3
    have HO3 := Lib.hid ho3
    have HB3 := Lib.hid hb3
    clear ho3 hb3
    go_wp2
    go_roundw
    case rel =>
     have h3 := HO3.out
     rw [HZ.out] at h3
     exact putAt_step HU'.out HF.out H2.out h6 HA.out HN.out hv h3 HB3.out
    case measure => simp [intOf]; omega
  · have hge : decide ((128 : Int) ≤ (v : Int)) = false := by simp; omega
    have hv8 : v < 256 := by omega
    have HW2 : Hid (Below w.heap.size w (wr.alloc (.cells #[.int .u8 (v : Int)] 5))) := HW.out.alloc HW.out.size _
    go_wp2_with (at_builtin; refine append_row rfl (.tmp 27) (.tmp 30) rfl w.heap.size k (bs ++ pre) [v] _ rfl (HO'.out.alloc _) (some_ne _ _ _) HW2.out.size _ _ _ rfl (row_byte wr v hv8) (by omega) w HW2.out ?_)
    intro g3 cp3 w3 ho3 hb3
    have HO3 := Lib.hid ho3
    have HB3 := Lib.hid hb3
    clear ho3 hb3
    go_wp2
    go_ret
    have h3 := HO3.out
    rw [put_end HU'.out hv, HU.out] at h3
    refine gives_row ?_ h3 HB3.out
    have := h3.1
    rw [length_vals] at this
    unfold encN; omega
set_option maxHeartbeats 400000 in
theorem refText_any (w : World) (ad : Option Addr) (len cap : Nat) (bs : List Nat) (s : ByteArray) (h : Row w ad len cap bs) (hL : len + s.size ≤ 140737488355300) :
 Calls Tryz.prog 122 #[.slice ad len cap, .string s] w (GivesRow w (bs ++ textB (bytesS s))) := by
 obtain ⟨i0, hi, hz0, hz1, hz2⟩ := info_parts info5
 have HB := Lib.hid h
 clear h
 go_enter Tryz.func122, Tryz.ntmps122
 go_wp2_with fail
 refine (refPut_any w ad len cap bs s.size HB.out (by omega) (by omega) (by omega)).mono ?_
 rintro e w1 ⟨g, cp, rfl, hown, hb1⟩
 have hel := enc_len (zig_lt (n := (s.size : Int)) (by omega) (by omega))
 have hl : (bs ++ encN (s.size : Int)).length ≤ len + 10 := by rw [List.length_append, HB.out.len]; unfold encN; omega
 obtain ⟨k, hk⟩ : ∃ k, k = (bs ++ encN (s.size : Int)).length := ⟨_, rfl⟩
 rw [← hk] at hown hl ⊢
 have HK := Lib.hid hk
 have HO := Lib.hid hown
 have HB1 := Lib.hid hb1
 clear hown hb1 hk hel
 go_wp2_with (at_builtin; refine Lib.wpList_append_own_string _ rfl (.tmp 8) (.tmp 9) 31 9 rfl w.heap.size 5 i0 Tryz.underlying31 Tryz.underlying9 hi hz0 hz1 hz2 _ k _ rfl HO.out s rfl (by unfold maxLen; omega) (by omega) HB1.out.size ?_)
 intro v2 w2 ho2 hgrow2 hn2
 have HB2 : Hid (Below w.heap.size w w2) := HB1.out.grown hgrow2 HB1.out.size (fun j hj => (HO.out.lt j hj).1)
 have hne : v2 ≠ .slice none 0 0 := hn2
 have HO2 : Hid (w2.ownsRow w.heap.size 5 1 v2 (k + s.size) (vals (bs ++ textB (bytesS s)))) := by
  have e : bs ++ textB (bytesS s) = (bs ++ encN (s.size : Int)) ++ bytesS s := by
   unfold textB encN
   rw [length_bytesS, zig_nat, List.append_assoc]
  rw [e, vals_append, ← strCells_vals]
  exact ho2
 clear ho2 hgrow2 hn2
 obtain ⟨g2, cp2, rfl⟩ : ∃ g cp, v2 = .slice (some ⟨g, 0, none⟩) (k + s.size) cp := by
  rcases HO2.out.2 with ⟨h, _⟩ | ⟨g, cp, cur, h, _⟩
  · exact absurd h hne
  · exact ⟨g, cp, h⟩
 clear hne
 go_wp2
 go_ret
 refine gives_row ?_ HO2.out HB2.out
 have := HO2.out.1
 rw [length_vals] at this
 omega
end Go.Proofs.YtgohekjkbgfeeaaGreat
namespace Go.Proofs.YtgohekjkbgfeeaaGreat
open Go.RowKit
open Go.VarMath hiding AllB
set_option linter.unusedVariables false

theorem run_upto (ad : Option Addr) (len cap h : Nat) (hc : h ≤ cap) (w : World) :
 (Instr.slice 31 (.slice ad len cap) none (some (.int .i64 (h : Int))) none).run Tryz.prog w = .ok (.slice ad h cap) w := by
 rw [run_slice_h _ _ _ _ _ elem22 _ _ (by omega) (by omega), sizeElem]
 simp only [Result.andThen, sliced, Int.toNat_natCast]
 rcases ad with _ | a
 · simp
 · simp [Addr.add]
end Go.Proofs.YtgohekjkbgfeeaaGreat
namespace Go.Proofs.YtgohekjkbgfeeaaGreat
open Go.RowKit
open Go.VarMath hiding AllB
set_option linter.unusedVariables false

def GivesGetB (bs : List Nat) (w : World) (e : Ending) (w' : World) : Prop := e = .returned (.tuple #[.int .i64 (getB bs).1, .int .i64 ((getB bs).2 : Nat)]) ∧ Below w.heap.size w w'
set_option maxHeartbeats 1000000 in
set_option maxRecDepth 100000 in
theorem refGet_any (w : World) (ad : Option Addr) (len cap : Nat) (bs : List Nat) (h : Byt w ad len cap bs) (hL : len ≤ 140737488355328) :
 Calls Tryz.prog 95 #[.slice ad len cap] w (GivesGetB bs w) := by
 obtain ⟨hlen, hfit, hall, hcs⟩ := h
 rcases hcs with h0 | ⟨b, off, rfl, hcell⟩
 · subst h0
   obtain rfl : bs = [] := by simpa using hlen
   clear hlen hfit hall
   go_enter Tryz.func95, Tryz.ntmps95
   go_wp2
   refine wp_loop_rounds 1 ?_
   rw [rounds_succ]
   go_wp2
   go_ret2
   exact ⟨by rw [getB_nil]; rfl, Below.refl _ _⟩
 · have HC := Lib.hid hcell
   have HA := Lib.hid hall
   have HL := Lib.hid hlen
   clear hlen hcell hall
   go_enter Tryz.func95, Tryz.ntmps95
   go_wp2
   go_loop [4, 5] (fun v4 v5 => ∃ k : Nat, k ≤ len ∧ k ≤ 10 ∧ AllHi (bs.take k) ∧ v5 = .int .i64 k ∧ v4 = .int .u64 (val (bs.take k) % two64 : Nat)) (fun _ i => len - (intOf i).toNat)
   case atStart => exact ⟨0, by omega, by omega, AllHi.nil, rfl, rfl⟩
   case round =>
    obtain ⟨k, hk, hk9, hhi, rfl, rfl⟩ := hrel
    have HH := Lib.hid hhi
    clear hhi
    by_cases hlt : k < len ∧ k < 10
    · obtain ⟨hlt, hk10⟩ := hlt
      have hltb : k < bs.length := by rw [HL.out]; exact hlt
      have hc := HC.out k hlt
      have hx8 := getD_all HA.out k
      have hm := val_take_mod (bs := bs) (k := k) (by omega) (by omega)
      have hu := val_take_lt (bs := bs) (k := k) (by omega)
      have hv := val_take hltb
      obtain ⟨x, hxe⟩ : ∃ x, x = bs.getD k 0 := ⟨_, rfl⟩
      rw [← hxe] at hc hx8 hv
      obtain ⟨u, hue⟩ : ∃ u, u = val (bs.take k) := ⟨_, rfl⟩
      rw [hm, ← hue]
      rw [← hue] at hu hv
      have hand := and127 x hx8
      obtain ⟨y, hye⟩ : ∃ y, y = x % 128 := ⟨_, rfl⟩
      rw [← hye] at hand hv
      have hy8 : y < 128 := by omega
      have hsh := shl_step y k
      have hor := or_step u y k (by omega) hu hy8
      rw [← hv] at hor
      obtain ⟨z, hze⟩ : ∃ z, z = y * 128 ^ k % 18446744073709551616 := ⟨_, rfl⟩
      rw [← hze] at hsh hor
      have HX := Lib.hid hxe
      clear hm hv hye hue hze hxe
      obtain ⟨v, hve⟩ : ∃ v, v = val (bs.take (k + 1)) % 18446744073709551616 := ⟨_, rfl⟩
      have hv6 : v < 18446744073709551616 := by rw [hve]; exact Nat.mod_lt _ (by decide)
      rw [← hve] at hor
      have HV : Hid (v = val (bs.take (k + 1)) % two64) := hve
      clear hve
      by_cases hx : x < 128
      · have hzag := zag_bits v hv6 _ (zag_arg v hv6)
        have hin := zag_in hv6
        have HG := hi_get HH.out hltb (by omega) (by rw [← HX.out]; exact hx)
        rw [← HV.out] at HG
        obtain ⟨q, hq⟩ : ∃ q, q = zag v := ⟨_, rfl⟩
        rw [← hq] at hzag hin HG
        have HG := Lib.hid HG
        have HQ := Lib.hid hq
        clear hq
        have hrow : Row w (some ⟨b, off, none⟩) (k + 1) cap (bs.take (k + 1)) := cut_row (len := len) ⟨⟨HL.out, hfit, HA.out, .inr ⟨b, off, rfl, HC.out⟩⟩, fun h => by cases h⟩ (k + 1) (by omega)
        have HR := Lib.hid hrow
        clear hrow
        have hsl := run_upto (some ⟨b, off, none⟩) len cap (k + 1) (by omega)
        rw [show ((k + 1 : Nat) : Int) = (k : Int) + 1 by omega] at hsl
        obtain ⟨s1, hs1⟩ : ∃ s1, s1 = str (encU v) := ⟨_, rfl⟩
        obtain ⟨s2, hs2⟩ : ∃ s2, s2 = str (bs.take (k + 1)) := ⟨_, rfl⟩
        obtain ⟨n1, hn1⟩ : ∃ n1, n1 = (encU v).length := ⟨_, rfl⟩
        have K8 : ∀ W, Below w.heap.size w W → Calls Tryz.prog 28 #[.slice none 0 0, .int .i64 q] W fun e w' => ∃ g cp, e = .returned (.slice (some ⟨g, 0, none⟩) n1 cp) ∧ Hid (Below w.heap.size w w') ∧
         (convert 31 9 (.slice (some ⟨g, 0, none⟩) n1 cp)).run Tryz.prog w' = .ok (.string s1) w' ∧ (convert 31 9 (.slice (some ⟨b, off, none⟩) (k + 1) cap)).run Tryz.prog w' = .ok (.string s2) w' := by
         intro W hW
         refine (refPut_any W none 0 0 [] q ⟨Byt.nil W, fun _ => rfl⟩ (by omega) hin.1 hin.2).mono ?_
         rintro e w' ⟨g, cp, rfl, ho, hb⟩
         have he : [] ++ encN q = encU v := by rw [List.nil_append]; unfold encN; rw [HQ.out, zig_zag]
         rw [he] at ho ⊢
         rw [← hn1] at ho ⊢
         have hb2 : Below w.heap.size w w' := hW.trans (hb.mono hW.size)
         exact ⟨g, cp, rfl, hb2, run_str_at (owns_row ho (enc_all hv6)).1 hs1, run_str_at (HR.out.keep hb2 (Nat.le_refl _)).1 hs2⟩
        have HK := Lib.hid K8
        have hcv0 : (convert 31 9 (.slice (some ⟨b, off, none⟩) (k + 1) cap)).run Tryz.prog w = .ok (.string s2) w := run_str_at HR.out.1 hs2
        have hcv1 : (convert 31 9 (.slice (some ⟨b, off, none⟩) (k + 1) cap)).run Tryz.prog w.drew = .ok (.string s2) w.drew := run_str_at (HR.out.keep ((Below.refl _ _).drew) (Nat.le_refl _)).1 hs2
        have H1 := Lib.hid hs1
        have H2 := Lib.hid hs2
        clear K8 hs1 hs2 hn1
        have hwk : IntKind.i64.wrap ((k : Int) + 1) = (k : Int) + 1 := IntWalk.i64_in _ (by omega)
        by_cases heq : encU v = bs.take (k + 1)
        · have hse : (s1.toList == s2.toList) = true := by rw [H1.out, H2.out, heq, str_same]
          have HE : Hid (getB bs = (q, k + 1)) := by show _ = _; rw [HG.out, if_pos heq]
          clear heq
          go_wp2_with fail
          go_region_with (go_at_call 28; refine (HK.out _ ?_).mono ?_; exact (Below.refl _ _).drew; rintro e w1 ⟨g, cp, rfl, hb1, hca, hcb⟩)
          all_goals
           go_wp2
           go_ret2
           exact ⟨by rw [HE.out]; rfl, hb1.out⟩
        · have hse : (s1.toList == s2.toList) = false := by
           have := str_differ (enc_all hv6) HR.out.1.all heq
           rw [← H1.out, ← H2.out] at this
           exact this
          have HE : Hid (getB bs = (0, 0)) := by show _ = _; rw [HG.out, if_neg heq]
          clear heq
          go_wp2_with fail
          go_region_with (go_at_call 28; refine (HK.out _ ?_).mono ?_; exact (Below.refl _ _).drew; rintro e w1 ⟨g, cp, rfl, hb1, hca, hcb⟩)
          all_goals
           go_wp2
           go_ret2
           exact ⟨by rw [HE.out]; rfl, hb1.out⟩
      · have HS : Hid (AllHi (bs.take (k + 1))) := hi_step HA.out HH.out hltb (by rw [← HX.out]; exact hx)
        go_wp2
        go_round
        case rel => exact ⟨k + 1, by omega, by omega, HS.out, by go_num, by rw [HV.out]⟩
        case measure => simp [intOf]; omega
    · have HN : Hid (getB bs = (0, 0)) := by
       by_cases h10 : k < 10
       · exact hi_end HH.out (by rw [HL.out]; omega) (by rw [HL.out]; omega)
       · obtain rfl : k = 10 := by omega
         exact hi_full HH.out (by rw [HL.out]; omega)
      go_wp2
      all_goals first
       | (exfalso; omega)
       | (go_ret2; exact ⟨by rw [HN.out]; rfl, Below.refl _ _⟩)
end Go.Proofs.YtgohekjkbgfeeaaGreat
namespace Go.Proofs.YtgohekjkbgfeeaaGreat
open Go.RowKit
open Go.VarMath hiding AllB
set_option linter.unusedVariables false

/-- What stands before round k of Long's loop. -/
def LongAt (w : World) (bs : List Nat) (n : Int) (k : Nat) (v5 : Value) (wr : World) : Prop :=
 ∃ (g cap m : Nat), m = bs.length + k ∧ v5 = .slice (some ⟨g, 0, none⟩) m cap ∧ wr.ownsRow w.heap.size 5 1 (.slice (some ⟨g, 0, none⟩) m cap) m (vals (bs ++ (longB n).take k)) ∧ Below w.heap.size w wr
theorem longAt_step {w w' : World} {bs : List Nat} {n : Int} {k m g cap z : Nat} (hk : k < 8) (hm : m = bs.length + k) (hz : z = low64 n / 256 ^ (7 - k) % 256)
 (hown : w'.ownsRow w.heap.size 5 1 (.slice (some ⟨g, 0, none⟩) (m + 1) cap) (m + 1) (vals (bs ++ ((longB n).take k ++ [z])))) (hb : Below w.heap.size w w') :
 LongAt w bs n (k + 1) (.slice (some ⟨g, 0, none⟩) (m + 1) cap) w' := by
 refine ⟨g, cap, m + 1, by omega, rfl, ?_, hb⟩
 have h := beB_take k 8 (low64 n) hk
 unfold longB at hown ⊢
 rw [h]
 have e : 8 - 1 - k = 7 - k := by omega
 rw [e, ← hz]
 exact hown
theorem refLong_shift (n : Int) (j : Nat) (hj : j < 8) : n / 2 ^ (8 * j) % 256 = ((low64 n / 256 ^ j % 256 : Nat) : Int) := by
 unfold low64
 rcases j with _ | _ | _ | _ | _ | _ | _ | _ | j
 all_goals first | (exfalso; omega) | (simp only [Nat.reduceMul, Nat.reduceAdd, Int.reducePow, Nat.reducePow]; omega)
set_option maxHeartbeats 400000 in
theorem refLong_any (w : World) (ad : Option Addr) (len cap : Nat) (bs : List Nat) (n : Int) (h : Row w ad len cap bs) (hL : len ≤ 140737488355300) (h0 : -9223372036854775808 ≤ n) (h1 : n ≤ 9223372036854775807) :
 Calls Tryz.prog 121 #[.slice ad len cap, .int .i64 n] w (GivesRow w (bs ++ longB n)) := by
 have HB := Lib.hid h
 clear h
 have HZ1 : Hid (Below w.heap.size w (w.alloc (.cells #[] 5))) := (Below.refl _ _).alloc (Nat.le_refl _) _
 go_enter Tryz.func121, Tryz.ntmps121
 go_wp2_with (at_builtin; refine append_row rfl (.tmp 7) (.tmp 8) rfl w.heap.size 0 [] _ _ rfl (own_empty w _ (Nat.le_refl _)) (some_ne _ _ _) HZ1.out.size _ _ _ rfl (HB.out.keep HZ1.out (Nat.le_refl _)) (by omega) w HZ1.out ?_)
 intro g cp w1 ho1 hb1
 have HO := Lib.hid (show w1.ownsRow w.heap.size 5 1 (.slice (some ⟨g, 0, none⟩) len cp) len (vals bs) by simpa using ho1)
 have HB1 := Lib.hid hb1
 clear ho1 hb1
 go_wp2
 go_loopw [5, 6] (fun v5 v6 wr => ∃ (k : Nat) (i : Int), k ≤ 8 ∧ i = 56 - 8 * (k : Int) ∧ v6 = .int .i64 i ∧ LongAt w bs n k v5 wr) (fun _ v6 _ => (8 + intOf v6).toNat)
 case atStart => exact ⟨0, _, by omega, by omega, rfl, g, cp, len, by rw [HB.out.len]; rfl, rfl, by simpa using HO.out, HB1.out⟩
 case round =>
  obtain ⟨k, i, hk, hi, rfl, g, cap', m, hm, rfl, hown, hbel⟩ := hrel
  have HM := Lib.hid hm
  have HO' := Lib.hid hown
  have HW := Lib.hid hbel
  have hm2 : m ≤ 140737488355308 := by have := HB.out.len; omega
  clear hm hown hbel
  by_cases hlt : k < 8
  · obtain ⟨z, hz⟩ : ∃ z, z = low64 n / 256 ^ (7 - k) % 256 := ⟨_, rfl⟩
    have hz8 : z < 256 := by omega
    obtain ⟨t, ht⟩ : ∃ t, t = 8 * (7 - k) := ⟨_, rfl⟩
    have hsh : n / 2 ^ t % 256 = (z : Int) := by rw [hz, ht]; exact refLong_shift _ _ (by omega)
    have hsh2 : IntKind.u8.wrap (n / 2 ^ t) = (z : Int) := by rw [wrap_u8', hsh]
    obtain rfl : i = (t : Int) := by omega
    have HI := Lib.hid hi
    have HZ := Lib.hid hz
    have ht2 : t ≤ 56 := by omega
    clear hz hsh hi ht
    have HW2 : Hid (Below w.heap.size w (wr.alloc (.cells #[.int .u8 (z : Int)] 5))) := HW.out.alloc HW.out.size _
    go_wp2_with (at_builtin; refine append_row rfl (.tmp 14) (.tmp 20) rfl w.heap.size m (bs ++ (longB n).take k) [z] _ rfl (HO'.out.alloc _) (some_ne _ _ _) HW2.out.size _ _ _ rfl (row_byte wr z hz8) (by omega) w HW2.out ?_)
    intro g3 cp3 w3 ho3 hb3
    have HO3 := Lib.hid ho3
    have HB3 := Lib.hid hb3
    clear ho3 hb3 hsh2
    go_wp2
    go_roundw
    case rel => exact ⟨k + 1, _, by omega, by have := HI.out; omega, rfl, longAt_step hlt HM.out HZ.out HO3.out HB3.out⟩
    case measure => simp [intOf]; omega
  · obtain rfl : k = 8 := by omega
    obtain rfl : i = -8 := by omega
    clear hi
    go_wp2
    go_ret
    have h3 := HO'.out
    rw [List.take_of_length_le (by rw [length_longB]; omega)] at h3
    refine gives_row ?_ h3 HW.out
    rw [HM.out, List.length_append, length_longB]
end Go.Proofs.YtgohekjkbgfeeaaGreat
namespace Go.Proofs.YtgohekjkbgfeeaaGreat
open Go.RowKit Go.OpenShut
set_option linter.unusedVariables false

theorem run_append_keep {P : Program} (w : World) (base : Nat) (t ty e : TypeId) (i : TypeInfo) (z : Value) (size bytes : Nat) (ht : P.underlying t = some (.slice e)) (hi : P.info? e = some i) (hz : i.zero = some z)
 (hsize : i.size = size) (hby : i.bytes = bytes) (hzs : z.cells.size = size) (hsz : 0 < size)
 (g cap : Nat) (n : Nat) (xs : List Value) (hown : w.ownsRow base e size (.slice (some ⟨g, 0, none⟩) n cap) n xs)
 (a : Addr) (m c : Nat) (news : List Value) (hl : news.length = m * size) (hnews : ∀ j u, news[j]? = some u → w.cell? (a.add j) = some u) (h1 : ∀ u ∈ news, u.oneCell' = true)
 (h63 : n + m ≤ maxLen) (hbytes : (n + m) * bytes ≤ 140737488355328) (hbase : base ≤ w.heap.size) :
 ∃ v' w', (Builtin.append_ #[t, t] ty #[.slice (some ⟨g, 0, none⟩) n cap, .slice (some a) m c]).run P w = .ok v' w' ∧ w'.ownsRow base e size v' (n + m) (xs ++ news) ∧ w.grownBy w' (some g) ∧
   v' ≠ .slice none 0 0 ∧ w'.ownsRow base e size (.slice (some ⟨g, 0, none⟩) n cap) n xs := by
 obtain ⟨v', w', hr, h2, h3, h4⟩ := run_append_own (P := P) w base t ty e i z size bytes ht hi hz hsize hby hzs hsz (.slice (some ⟨g, 0, none⟩) n cap) n xs hown a m c news hl hnews h1 h63 hbytes hbase
 have hne : v' ≠ .slice none 0 0 := fun h => by have := (h4.1 h).1; cases this
 refine ⟨v', w', hr, h2, h3, hne, ?_⟩
 subst hsize
 subst hby
 rcases hown.2 with ⟨h, _⟩ | ⟨g', cap', cur, h, hbg, hg, hnc, hcm, hcs, htake⟩
 · cases h
 · cases h
   refine ⟨hown.1, .inr ?_⟩
   by_cases hroom : n + m ≤ cap
   · have hfit : n * i.size + news.length ≤ cur.size := by rw [hl, hcs, ← Nat.add_mul]; exact Nat.mul_le_mul_right _ hroom
     have hr2 := run_append_room (P := P) w t ty e i ht hi g n cap cur hg a m c news hl hnews h1 hroom hfit
     rw [hr2] at hr
     cases hr
     refine ⟨g, cap, _, rfl, hbg, setRow_heap w g cur _ e _ hg, hnc, hcm, ?_, ?_⟩
     · simp only [List.size_toArray, List.length_append, List.length_take, List.length_drop, Array.length_toList]
       omega
     · rw [htake, List.append_assoc]
       rw [← hown.1]
       exact List.take_left
   · have holds : ∀ j u, xs[j]? = some u → w.cell? ((⟨g, 0, none⟩ : Addr).add j) = some u := hown.cells (g := g) rfl
     have hr2 := run_append_grow (P := P) w t ty e i z ht hi hz ⟨g, 0, none⟩ n cap xs hown.1 holds a m c news hl hnews (by omega) (by simp only [maxLen] at h63; omega) (growslice_fits (by omega) hbytes)
     rw [hr2] at hr
     cases hr
     have hlt : g < w.heap.size := (Array.getElem?_eq_some_iff.1 hg).1
     refine ⟨g, cap, cur, rfl, hbg, ?_, hnc, hcm, hcs, htake⟩
     exact (Below.heap_alloc w.drew _ g hlt).trans hg
end Go.Proofs.YtgohekjkbgfeeaaGreat
namespace Go.Proofs.YtgohekjkbgfeeaaGreat
open Go.RowKit Go.OpenShut
set_option linter.unusedVariables false

theorem row_news {w : World} {ad : Addr} {len cap : Nat} {ys : List Nat} (hr : Row w (some ad) len cap ys) : ∀ j u, (vals ys)[j]? = some u → w.cell? (ad.add j) = some u := by
 intro j u hj
 have hjl : j < ys.length := by
  have := (List.getElem?_eq_some_iff.1 hj).1
  rwa [length_vals] at this
 obtain ⟨a', ha', hs'⟩ := hr.1.source (by have := hr.1.length; omega)
 obtain rfl := Option.some.inj ha'
 exact hs' j u hj
theorem run_keep_any (w : World) (base n : Nat) (v : Value) (xs ys : List Nat) (ty : TypeId) (hown : w.ownsRow base 5 1 v n (vals xs)) (ad : Addr) (len cap' : Nat) (hr : Row w (some ad) len cap' ys) (hlen : 0 < len) (hn : n + len ≤ 140737488355328) (hbase : base ≤ w.heap.size) :
 ∃ g' cp w', (Builtin.append_ #[31, 31] ty #[v, .slice (some ad) len cap']).run Tryz.prog w = .ok (.slice (some ⟨g', 0, none⟩) (n + len) cp) w' ∧ w'.ownsRow base 5 1 (.slice (some ⟨g', 0, none⟩) (n + len) cp) (n + len) (vals (xs ++ ys)) ∧
   w'.ownsRow base 5 1 v n (vals xs) ∧ w.grownBy w' v.ownBlock := by
 obtain ⟨i0, hi, hz0, hz1, hz2⟩ := info_parts info5
 have hcount : (vals ys).length = len * 1 := by rw [length_vals, hr.1.length]; simp
 rcases hown.2 with ⟨rfl, rfl⟩ | ⟨g, cap, cur, rfl, _⟩
 · obtain ⟨v', w', hrun, h2, h3, h4⟩ := run_append_own (P := Tryz.prog) w base 31 ty 5 i0 (.int .u8 0) 1 1 Tryz.underlying31 hi hz0 hz1 hz2 rfl (by decide) (.slice none 0 0) 0 (vals xs) hown ad len cap' (vals ys) hcount (row_news hr) (vals_one ys) (by unfold maxLen; omega) (by omega) hbase
   rw [← vals_append] at h2
   rcases h2.2 with ⟨h', h0⟩ | ⟨g', cp, cur, rfl, _⟩
   · omega
   · exact ⟨g', cp, w', hrun, h2, ⟨hown.1, .inl ⟨rfl, rfl⟩⟩, h3⟩
 · obtain ⟨v', w', hrun, h2, h3, h4, h5⟩ := run_append_keep (P := Tryz.prog) w base 31 ty 5 i0 (.int .u8 0) 1 1 Tryz.underlying31 hi hz0 hz1 hz2 rfl (by decide) g cap n (vals xs) hown ad len cap' (vals ys) hcount (row_news hr) (vals_one ys) (by unfold maxLen; omega) (by omega) hbase
   rw [← vals_append] at h2
   rcases h2.2 with ⟨h', _⟩ | ⟨g', cp, cur, rfl, _⟩
   · exact absurd h' h4
   · exact ⟨g', cp, w', hrun, h2, h5, h3⟩
/-- The operation, behind a guard that says yes or with none, in a region that draws its order. -/
theorem held_append {w : World} {ops : Array Oper} {o : Oper} {a : Act} {K : Act → World → Prop} {Q : Exit → Act → World → Prop} {Z : Prop} [Decidable (Region.wanted o (yielded ops a.tmps) = true)] (hw : Region.wanted o (yielded ops a.tmps) = true) (s x : Operand)
 (ho : o.op = .call { callee := .builtin .append, args := #[s, x], argTypes := #[31, 31] })
 (base n : Nat) (xs ys : List Nat) (v : Value) (hs : a.eval s = v) (hown : w.ownsRow base 5 1 v n (vals xs)) (hbase : base ≤ w.heap.size)
 (ad : Addr) (len cap' : Nat) (hx : a.eval x = .slice (some ad) len cap') (hr : Row w (some ad) len cap' ys) (hlen : 0 < len) (hn : n + len ≤ 140737488355328)
 (w0 : World) (hb0 : Below base w0 w)
 (h : ∀ g' cp w', w'.ownsRow base 5 1 (.slice (some ⟨g', 0, none⟩) (n + len) cp) (n + len) (vals (xs ++ ys)) → w'.ownsRow base 5 1 v n (vals xs) → Below base w0 w' → K (a.put o.dst (.slice (some ⟨g', 0, none⟩) (n + len) cp)) w') :
 if Region.wanted o (yielded ops a.tmps) = true then Oper.wp Tryz.prog o a w K Q else Z := by
 rw [if_pos hw]
 obtain ⟨g', cp, w', hrun, h2, h3, h4⟩ := run_keep_any w base n v xs ys o.type hown ad len cap' hr hlen hn hbase
 have hb : Below base w0 w' := hb0.grown h4 hbase (fun k hk => (hown.lt k hk).1)
 unfold Oper.wp execOp
 simp only [ho, resolve, invoke, builtin, Sem.run_bind, Sem.run_pure, Result.andThen_ok, List.map_toArray, List.map_cons, List.map_nil, hs, hx, hrun]
 exact h g' cp w' h2 h3 hb
end Go.Proofs.YtgohekjkbgfeeaaGreat
namespace Go.Proofs.YtgohekjkbgfeeaaGreat
open Go.RowKit
open Go.VarMath hiding AllB
set_option linter.unusedVariables false

theorem encN_all {n : Int} (h0 : -9223372036854775808 ≤ n) (h1 : n ≤ 9223372036854775807) : AllB (encN n) := enc_all (zig_lt h0 h1)
theorem encN_len {n : Int} (h0 : -9223372036854775808 ≤ n) (h1 : n ≤ 9223372036854775807) : 1 ≤ (encN n).length ∧ (encN n).length ≤ 10 := enc_len (zig_lt h0 h1)
def In64 (n : Int) : Prop := -9223372036854775808 ≤ n ∧ n ≤ 9223372036854775807
/-- A slice of int64 whose first len numbers are zs. -/
structure Nums (w : World) (ad : Option Addr) (len : Nat) (zs : List Int) : Prop where
 length : zs.length = len
 all : ∀ n ∈ zs, In64 n
 cells : len = 0 ∨ ∃ b off, ad = some ⟨b, off, none⟩ ∧ ∀ i, i < len → w.cell? ⟨b, off + i, none⟩ = some (.int .i64 (zs.getD i 0))
theorem IsRow.nums {w : World} {a : Option Addr} {len cap : Nat} {zs : List Int} (h : IsRow .i64 w a len cap zs) : Nums w a len (zs.take len) ∧ len ≤ cap := by
 rcases h with ⟨rfl, rfl, rfl, rfl⟩ | ⟨x, rfl, hl, hm, hz, hc, hw⟩
 · exact ⟨⟨rfl, (fun x hx => by cases hx), .inl rfl⟩, Nat.le_refl _⟩
 · refine ⟨⟨by rw [List.length_take]; omega, ?_, ?_⟩, hl⟩
   · intro n hn
     have := bounds_i64 (hw n (List.mem_of_mem_take hn))
     exact ⟨by omega, by omega⟩
   · by_cases h0 : len = 0
     · exact .inl h0
     · obtain ⟨b, off, spot⟩ := x
       have h1 := hc 0 (by omega)
       have hs : spot = none := by simpa [Addr.add] using World.cell?_spot h1
       subst hs
       refine .inr ⟨b, off, rfl, fun i hi => ?_⟩
       have h2 := hc i (by omega)
       rw [add_at] at h2
       rw [h2]
       have e : (zs.take len).getD i 0 = zs.getD i 0 := by rw [List.getD_eq_getElem?_getD, List.getElem?_take, if_pos hi, ← List.getD_eq_getElem?_getD]
       rw [e]
theorem byt_upto {w : World} {ad : Option Addr} {len cap : Nat} {bs : List Nat} (h : Byt w ad len cap bs) (l : Nat) (hl : l ≤ len) : Byt w ad l cap (bs.take l) := by
 refine ⟨by rw [List.length_take, h.length]; omega, Nat.le_trans hl h.fits, take_all h.all l, ?_⟩
 rcases h.cells with h0 | ⟨b, off, e, hc⟩
 · exact .inl (by omega)
 · refine .inr ⟨b, off, e, fun i hi => ?_⟩
   rw [hc i (by omega)]
   have : (bs.take l).getD i 0 = bs.getD i 0 := by rw [List.getD_eq_getElem?_getD, List.getElem?_take, if_pos hi, ← List.getD_eq_getElem?_getD]
   rw [this]
theorem byt_from {w : World} {b off len cap : Nat} {bs : List Nat} (h : Byt w (some ⟨b, off, none⟩) len cap bs) (l : Nat) (hl : l ≤ len) : Byt w (some ⟨b, if cap = l then off else off + l, none⟩) (len - l) (cap - l) (bs.drop l) := by
 refine ⟨by rw [List.length_drop, h.length], by have := h.fits; omega, fun x hx => h.all x (List.mem_of_mem_drop hx), ?_⟩
 by_cases hm : len - l = 0
 · exact .inl hm
 · rcases h.cells with h0 | ⟨b', off', e, hc⟩
   · omega
   · cases e
     have hf := h.fits
     refine .inr ⟨b, off + l, by rw [if_neg (by omega)], fun i hi => ?_⟩
     rw [Nat.add_assoc, hc (l + i) (by omega)]
     congr 3
     rw [List.getD_eq_getElem?_getD, List.getD_eq_getElem?_getD, List.getElem?_drop]
end Go.Proofs.YtgohekjkbgfeeaaGreat
namespace Go.Proofs.YtgohekjkbgfeeaaGreat
open Go.RowKit
set_option linter.unusedVariables false

section
variable {w w' w1 w2 : World} {kt k : Nat}
theorem grow_refl (w : World) (r : Option Nat) : w.grownBy w r := ⟨rfl, rfl, rfl, Nat.le_refl _, fun _ _ _ => rfl⟩
theorem grow_trans {r : Option Nat} (h : w.grownBy w1 r) (h2 : w1.grownBy w2 r) : w.grownBy w2 r :=
 ⟨h2.os.trans h.os, h2.tape.trans h.tape, h2.output.trans h.output, Nat.le_trans h.size h2.size, fun k hk hn => (h2.block k (Nat.lt_of_lt_of_le hk h.size) hn).trans (h.block k hk hn)⟩
theorem grow_drewN {r : Option Nat} (h : w.grownBy w1 r) (n : Nat) : w.grownBy (w1.drewN n) r := grow_trans h ⟨rfl, rfl, rfl, Nat.le_refl _, fun _ _ _ => rfl⟩
theorem grow_alloc {r : Option Nat} (h : w.grownBy w1 r) (o : Obj) : w.grownBy (w1.alloc o) r := grow_trans h (World.grownBy_alloc w1 o r)
theorem grow_set (h : w.grownBy w1 (some kt)) (j : Nat) (u : Value) : w.grownBy (w1.setCell ⟨kt, j, none⟩ u) (some kt) :=
 grow_trans h ⟨rfl, rfl, rfl, by simp, fun k hk hn => by
  show (w1.heap.modify kt _)[k]? = _
  rw [Array.getElem?_modify, if_neg (fun e => hn (by rw [e]))]⟩
theorem grow_below {r : Option Nat} (h : w.grownBy w1 r) (hb : Below w1.heap.size w1 w2) : w.grownBy w2 r :=
 grow_trans h ⟨hb.os, hb.tape, hb.output, hb.size, fun k hk _ => hb.block k hk⟩
theorem grow_own {r : Option Nat} (h : w.grownBy w1 (some kt)) (h2 : w1.grownBy w2 r) (hr : ∀ k, r = some k → w.heap.size ≤ k) : w.grownBy w2 (some kt) :=
 ⟨h2.os.trans h.os, h2.tape.trans h.tape, h2.output.trans h.output, Nat.le_trans h.size h2.size, fun k hk hn => (h2.block k (Nat.lt_of_lt_of_le hk h.size) (fun e => by have := hr k e.symm; omega)).trans (h.block k hk hn)⟩
theorem grow_new {w w1 : World} {kt k j : Nat} (h : w.grownBy w1 (some kt)) (hk : w.heap.size ≤ k) (u : Value) : w.grownBy (w1.setCell ⟨k, j, none⟩ u) (some kt) :=
 ⟨h.os, h.tape, h.output, by simpa using h.size, fun i hi hn => by
  show (w1.heap.modify k _)[i]? = _
  rw [Array.getElem?_modify, if_neg (by omega)]
  exact h.block i hi hn⟩
theorem box_set {cs : Array Value} {t : TypeId} (h : w.heap[k]? = some (.cells cs t (0, 0))) (j : Nat) (u : Value) : (w.setCell ⟨k, j, none⟩ u).heap[k]? = some (.cells (cs.setIfInBounds j u) t (0, 0)) := by
 have hlt := lt_of_block h
 have h' : w.heap[k] = .cells cs t (0, 0) := by simpa [Array.getElem?_eq_getElem hlt] using h
 show (w.heap.modify k _)[k]? = _
 rw [Array.getElem?_eq_getElem (by simpa using hlt), Array.getElem_modify_self, h']
 rfl
theorem box_off {o : Obj} (h : w.heap[k]? = some o) {j i : Nat} (hj : j ≠ k) (u : Value) : (w.setCell ⟨j, i, none⟩ u).heap[k]? = some o := by
 rw [← h]
 show (w.heap.modify j _)[k]? = _
 rw [Array.getElem?_modify, if_neg hj]
end
theorem size_set (w : World) (a : Addr) (u : Value) : (w.setCell a u).heap.size = w.heap.size := by simp
theorem below_grown {W W' : World} {k B : Nat} (h : W.grownBy W' (some k)) (hk : B ≤ k) (hB : B ≤ W.heap.size) : Below B W W' :=
 ⟨h.os, h.tape, h.output, h.size, fun j hj => h.block j (Nat.lt_of_lt_of_le hj hB) (fun e => by cases e; omega)⟩
theorem results_cell_one {fn : Func} {p : Tmp} {ty : TypeId} (h : fn.results = #[.cell p ty]) (tmps : Array Value) (P : Program) (w : World) :
 (results fn tmps).run P w = ((asAddr (tmps.getD p undef)).run P w).andThen fun a w₁ => (loadVar ty a).run P w₁ := by
 simp only [results, h]
 simp [Sem.run_bind, Result.andThen]
end Go.Proofs.YtgohekjkbgfeeaaGreat
namespace Go.Proofs.YtgohekjkbgfeeaaGreat
open Go.RowKit
open Go.BatMath hiding AllB take_all

set_option linter.unusedVariables false

section
variable {w : World} {k : Nat} {b0 b1 b2 b3 : Int} {b4 : Bool} {b5 : Int} {v : Value}
theorem BoxAt.s0 (h : BoxAt w k b0 b1 b2 b3 b4 b5 v) (n : Int) : BoxAt (w.setCell ⟨k, 0, none⟩ (.int .i64 n)) k n b1 b2 b3 b4 b5 v := box_set h 0 _
theorem BoxAt.s1 (h : BoxAt w k b0 b1 b2 b3 b4 b5 v) (n : Int) : BoxAt (w.setCell ⟨k, 1, none⟩ (.int .i64 n)) k b0 n b2 b3 b4 b5 v := box_set h 1 _
theorem BoxAt.s2 (h : BoxAt w k b0 b1 b2 b3 b4 b5 v) (n : Int) : BoxAt (w.setCell ⟨k, 2, none⟩ (.int .i64 n)) k b0 b1 n b3 b4 b5 v := box_set h 2 _
theorem BoxAt.s3 (h : BoxAt w k b0 b1 b2 b3 b4 b5 v) (n : Int) : BoxAt (w.setCell ⟨k, 3, none⟩ (.int .i64 n)) k b0 b1 b2 n b4 b5 v := box_set h 3 _
theorem BoxAt.s4 (h : BoxAt w k b0 b1 b2 b3 b4 b5 v) (n : Bool) : BoxAt (w.setCell ⟨k, 4, none⟩ (.bool n)) k b0 b1 b2 b3 n b5 v := box_set h 4 _
theorem BoxAt.s5 (h : BoxAt w k b0 b1 b2 b3 b4 b5 v) (n : Int) : BoxAt (w.setCell ⟨k, 5, none⟩ (.int .i64 n)) k b0 b1 b2 b3 b4 n v := box_set h 5 _
theorem BoxAt.s6 (h : BoxAt w k b0 b1 b2 b3 b4 b5 v) (u : Value) : BoxAt (w.setCell ⟨k, 6, none⟩ u) k b0 b1 b2 b3 b4 b5 u := box_set h 6 _
theorem BoxAt.off (h : BoxAt w k b0 b1 b2 b3 b4 b5 v) {j i : Nat} (hj : j ≠ k) (u : Value) : BoxAt (w.setCell ⟨j, i, none⟩ u) k b0 b1 b2 b3 b4 b5 v := box_off h hj u
end
/-- 'x[k:]', k a number that is written in the text. -/
theorem from_lit {w : World} {b off len cap : Nat} {bs : List Nat} (h : Byt w (some ⟨b, off, none⟩) len cap bs) (k : Nat) (z : Int) (hz : z = (k : Int)) (hk : k ≤ len) :
 ∃ o c, (∀ W, (Instr.slice 31 (.slice (some ⟨b, off, none⟩) len cap) (some (.int .i64 z)) none none).run Tryz.prog W = .ok (.slice (some ⟨b, o, none⟩) (len - k) c) W) ∧ Byt w (some ⟨b, o, none⟩) (len - k) c (bs.drop k) := by
 subst hz
 exact ⟨_, _, fun W => run_from b off len cap k hk W, byt_from h k hk⟩
end Go.Proofs.YtgohekjkbgfeeaaGreat
namespace Go.Proofs.YtgohekjkbgfeeaaGreat
open Go.RowKit Go.OpenShut
set_option linter.unusedVariables false

/-- How things of one kind lie in memory. -/
structure Kind (α : Type) where
 enc : α → List Value
 size : Nat
 ty : TypeId
 sl : TypeId
structure Kind.Ok {α : Type} (K : Kind α) (bytes : Nat) : Prop where
 und : Tryz.prog.underlying K.sl = some (.slice K.ty)
 info : ∃ i z, Tryz.prog.info? K.ty = some i ∧ i.zero = some z ∧ i.size = K.size ∧ i.bytes = bytes ∧ z.cells.size = K.size
 len : ∀ x, (K.enc x).length = K.size
 pos : 0 < K.size
 one : ∀ x, ∀ u ∈ K.enc x, u.oneCell' = true
 few : bytes ≤ 1000
variable {α : Type} {K : Kind α} {bytes : Nat} {w w' : World}
def Kind.all (K : Kind α) (l : List α) : List Value := l.flatMap K.enc
theorem Kind.Ok.all_len (hK : K.Ok bytes) : ∀ l : List α, (K.all l).length = l.length * K.size
 | [] => by simp [Kind.all]
 | x :: l => by
   have := Kind.Ok.all_len hK l
   unfold Kind.all at *
   rw [List.flatMap_cons, List.length_append, this, hK.len, List.length_cons, Nat.succ_mul, Nat.add_comm]
theorem Kind.all_app (K : Kind α) (a b : List α) : K.all (a ++ b) = K.all a ++ K.all b := by simp [Kind.all]
theorem Kind.Ok.all_one (hK : K.Ok bytes) (l : List α) : ∀ u ∈ K.all l, u.oneCell' = true := by
 intro u hu
 obtain ⟨x, _, hx⟩ := List.mem_flatMap.1 hu
 exact hK.one x u hx
theorem Kind.Ok.all_at (hK : K.Ok bytes) : ∀ (l : List α) (i : Nat) (x : α), l[i]? = some x → ∀ j, j < K.size → (K.all l)[i * K.size + j]? = (K.enc x)[j]?
 | [], i, x, h, j, hj => by cases h
 | y :: l, 0, x, h, j, hj => by
   cases h
   show ((y :: l).flatMap K.enc)[0 * K.size + j]? = _
   rw [List.flatMap_cons, Nat.zero_mul, Nat.zero_add, List.getElem?_append_left (by rw [hK.len]; exact hj)]
 | y :: l, i + 1, x, h, j, hj => by
   have ih := Kind.Ok.all_at hK l i x h j hj
   show ((y :: l).flatMap K.enc)[(i + 1) * K.size + j]? = _
   rw [List.flatMap_cons, List.getElem?_append_right (by rw [hK.len, Nat.succ_mul]; omega), hK.len, show (i + 1) * K.size + j - K.size = i * K.size + j by rw [Nat.succ_mul]; omega]
   exact ih
/-- A slice reads as l. -/
structure RowAt (K : Kind α) (w : World) (ad : Option Addr) (len cap : Nat) (l : List α) : Prop where
 length : l.length = len
 fits : len ≤ cap
 room : ad = none → cap = 0
 cells : len = 0 ∨ ∃ b off, ad = some ⟨b, off, none⟩ ∧ b < w.heap.size ∧ ∀ i x, l[i]? = some x → ∀ j u, (K.enc x)[j]? = some u → w.cell? ⟨b, off + (i * K.size + j), none⟩ = some u
theorem RowAt.keep {ad : Option Addr} {len cap : Nat} {l : List α} (h : RowAt K w ad len cap l) (hb : Below w.heap.size w w') : RowAt K w' ad len cap l := by
 refine ⟨h.length, h.fits, h.room, ?_⟩
 rcases h.cells with h0 | ⟨b, off, e, hlt, hc⟩
 · exact .inl h0
 · refine .inr ⟨b, off, e, Nat.lt_of_lt_of_le hlt hb.size, fun i x hi j u hj => ?_⟩
   rw [hb.cell (p := ⟨b, off + (i * K.size + j), none⟩) hlt]
   exact hc i x hi j u hj
/-- Every block but one is as it was, and the row does not lie in that one. -/
theorem RowAt.grown {ad : Option Addr} {len cap : Nat} {l : List α} {r : Option Nat} (h : RowAt K w ad len cap l) (hg : w.grownBy w' r) (hr : ∀ a, ad = some a → some a.block ≠ r) : RowAt K w' ad len cap l := by
 refine ⟨h.length, h.fits, h.room, ?_⟩
 rcases h.cells with h0 | ⟨b, off, e, hlt, hc⟩
 · exact .inl h0
 · exact .inr ⟨b, off, e, Nat.lt_of_lt_of_le hlt hg.size, fun i x hi j u hj => hg.cell (hc i x hi j u hj) (show some b ≠ r from hr _ e)⟩
theorem rowAt_nil (w : World) : RowAt K w none 0 0 ([] : List α) := ⟨rfl, Nat.le_refl _, fun _ => rfl, .inl rfl⟩
theorem RowAt.zero (w : World) {ad : Option Addr} {cap : Nat} (h : ad = none → cap = 0) : RowAt K w ad 0 cap ([] : List α) := ⟨rfl, Nat.zero_le _, h, .inl rfl⟩
/-- The thing at i. -/
theorem RowAt.get {ad : Option Addr} {len cap : Nat} {l : List α} (h : RowAt K w ad len cap l) {i : Nat} (hi : i < len) :
 ∃ b off x, ad = some ⟨b, off, none⟩ ∧ b < w.heap.size ∧ l[i]? = some x ∧ ∀ j u, (K.enc x)[j]? = some u → w.cell? ⟨b, off + (i * K.size + j), none⟩ = some u := by
 have hl := h.length
 rcases h.cells with h0 | ⟨b, off, e, hlt, hc⟩
 · omega
 · have hx : l[i]? = some (l[i]'(by omega)) := List.getElem?_eq_getElem (by omega)
   exact ⟨b, off, _, e, hlt, hx, hc i _ hx⟩
theorem RowAt.news (hK : K.Ok bytes) {b off len cap : Nat} {l : List α} (h : RowAt K w (some ⟨b, off, none⟩) len cap l) : ∀ j u, (K.all l)[j]? = some u → w.cell? ((⟨b, off, none⟩ : Addr).add j) = some u := by
 intro j u hj
 have hjl : j < l.length * K.size := by
  have := (List.getElem?_eq_some_iff.1 hj).1
  rwa [hK.all_len] at this
 have hp := hK.pos
 have hil : j / K.size < l.length := Nat.div_lt_of_lt_mul (by rwa [Nat.mul_comm])
 have hx : l[j / K.size]? = some (l[j / K.size]'hil) := List.getElem?_eq_getElem hil
 have hm := Nat.mod_lt j hp
 have he : j / K.size * K.size + j % K.size = j := by rw [Nat.mul_comm]; exact Nat.div_add_mod j K.size
 have h1 := hK.all_at l _ _ hx _ hm
 rw [he] at h1
 rw [add_at]
 rcases h.cells with h0 | ⟨b', off', e, _, hc⟩
 · have hl0 : l.length = 0 := by have := h.length; omega
   exact absurd hil (by rw [hl0]; exact Nat.not_lt_zero _)
 · cases e
   have h2 := hc _ _ hx _ u (by rw [← h1]; exact hj)
   rwa [he] at h2
/-- A row that is the call's own. -/
def OwnRow (K : Kind α) (w : World) (base : Nat) (v : Value) (l : List α) : Prop := w.ownsRow base K.ty K.size v l.length (K.all l)
theorem ownRow_nil (K : Kind α) (w : World) (base : Nat) : OwnRow K w base (.slice none 0 0) [] := World.ownsRow_nil w base K.ty K.size
theorem OwnRow.on {base : Nat} {v : Value} {l : List α} (h : OwnRow K w base v l) (hb : Below w.heap.size w w') : OwnRow K w' base v l := owns_keep h hb (Nat.le_refl _)
theorem OwnRow.alloc {base : Nat} {v : Value} {l : List α} (h : OwnRow K w base v l) (o : Obj) : OwnRow K (w.alloc o) base v l := World.ownsRow.alloc h o
theorem OwnRow.lt {base : Nat} {v : Value} {l : List α} (h : OwnRow K w base v l) : ∀ k, v.ownBlock = some k → base ≤ k ∧ k < w.heap.size := World.ownsRow.lt h
theorem OwnRow.grown {base : Nat} {v : Value} {l : List α} {r : Option Nat} (h : OwnRow K w base v l) (hg : w.grownBy w' r) (hr : ∀ k, v.ownBlock = some k → some k ≠ r) : OwnRow K w' base v l := by
 refine World.ownsRow.kept h hg ?_
 cases hv : v.ownBlock with
 | none => exact .inl rfl
 | some k => exact .inr (hr k hv)
theorem OwnRow.at (hK : K.Ok bytes) {base : Nat} {v : Value} {l : List α} (h : OwnRow K w base v l) : ∃ ad cap, v = .slice ad l.length cap ∧ RowAt K w ad l.length cap l ∧ (∀ a, ad = some a → base ≤ a.block ∧ a.block < w.heap.size) := by
 rcases h.2 with ⟨rfl, h0⟩ | ⟨g, cap, cur, rfl, hb, hh, hc, _, hs, ht⟩
 · refine ⟨none, 0, by rw [h0], ?_, fun a ha => by cases ha⟩
   obtain rfl := List.eq_nil_of_length_eq_zero h0
   exact rowAt_nil w
 · refine ⟨_, cap, rfl, ⟨rfl, hc, (fun e => by cases e), .inr ⟨g, 0, rfl, (Array.getElem?_eq_some_iff.1 hh).1, fun i x hi j u hj => ?_⟩⟩, fun a ha => by cases ha; exact ⟨hb, (Array.getElem?_eq_some_iff.1 hh).1⟩⟩
   have hjs : j < K.size := by have := (List.getElem?_eq_some_iff.1 hj).1; rwa [hK.len] at this
   have h1 := hK.all_at l i x hi j hjs
   rw [hj, ← ht, List.getElem?_take] at h1
   rw [Nat.zero_add, cell_of_row w g _ _ _ _ hh]
   split at h1
   · simpa using h1
   · cases h1
/-- A block that was laid whole. -/
theorem ownRow_lit (hK : K.Ok bytes) (w : World) (base : Nat) (l : List α) (hb : base ≤ w.heap.size) (hm : l.length ≤ 1000000) (cs : Array Value) (hcs : cs = (K.all l).toArray) (n : Nat) (hn : l.length = n) : OwnRow K (w.alloc (.cells cs K.ty)) base (.slice (some ⟨w.heap.size, 0, none⟩) n n) l := by
 subst hcs hn
 have := World.ownsRow_lit (e := K.ty) (size := K.size) (base := base) w (K.all l).toArray l.length hb (by unfold maxLen; omega) (by rw [List.size_toArray, hK.all_len])
 unfold OwnRow
 simpa using this
theorem rowAt_lit (hK : K.Ok bytes) (w : World) (l : List α) (hm : l.length ≤ 1000000) (cs : Array Value) (hcs : cs = (K.all l).toArray) (n : Nat) (hn : l.length = n) : RowAt K (w.alloc (.cells cs K.ty)) (some ⟨w.heap.size, 0, none⟩) n n l := by
 obtain ⟨ad, cap, e, h, _⟩ := (ownRow_lit hK w 0 l (Nat.zero_le _) hm cs hcs n hn).at hK
 cases e
 exact h
theorem append_block (hK : K.Ok bytes) (w w' : World) (base : Nat) (v v' : Value) (l m : List α) (ty : Nat) (hown : OwnRow K w base v l) (a : Addr) (cap : Nat) (hnews : ∀ j u, (K.all m)[j]? = some u → w.cell? (a.add j) = some u) (hn : (l.length + m.length) * bytes ≤ 140737488355328) (hn2 : l.length + m.length ≤ 140737488355328)
 (hrun : (Builtin.append_ #[K.sl, K.sl] ty #[v, .slice (some a) m.length cap]).run Tryz.prog w = .ok v' w') : ∀ k, v'.ownBlock = some k → v.ownBlock = some k ∨ k = w.heap.size := by
 obtain ⟨i, z, hi, hz, hs, hby, hzs⟩ := hK.info
 have hu := hK.und
 have hml := hK.all_len m
 rw [← hs] at hml
 intro k hk
 rcases hown.2 with ⟨rfl, h0⟩ | ⟨g, cp, cur, rfl, hbg, hg, hnc, hcm, hcs, htake⟩
 · by_cases hm : m.length = 0
   · have : m = [] := List.eq_nil_of_length_eq_zero hm
     subst this
     have hrun2 : (Builtin.append_ #[K.sl, K.sl] ty #[.slice none 0 0, .slice (some a) 0 cap]).run Tryz.prog w = .ok (.slice none 0 0) w := by
      simp [Builtin.append_, run_underlying hu, sizeOf, typeInfo, hi, Builtin.lenOf, Builtin.firstCells, loadCells, loadCellsFrom]
     rw [List.length_nil, hrun2] at hrun
     injection hrun with e1 e2
     subst e1
     cases hk
   · rw [run_append_nil (P := Tryz.prog) w K.sl ty K.ty i z hu hi hz a m.length cap (K.all m) hml hnews (by omega) (by omega) (by rw [hby]; have : m.length * bytes ≤ (l.length + m.length) * bytes := Nat.mul_le_mul_right _ (by omega); omega)] at hrun
     injection hrun with e1 e2
     subst e1
     cases hk
     exact .inr rfl
 · by_cases hroom : l.length + m.length ≤ cp
   · rw [run_append_room (P := Tryz.prog) w K.sl ty K.ty i hu hi g l.length cp cur hg a m.length cap (K.all m) hml hnews (hK.all_one m) hroom (by rw [hml, hcs, ← hs, ← Nat.add_mul]; exact Nat.mul_le_mul_right _ hroom)] at hrun
     injection hrun with e1 e2
     subst e1
     exact .inl hk
   · have hlo : (K.all l).length = l.length * i.size := by rw [hs]; exact hK.all_len l
     rw [run_append_grow (P := Tryz.prog) w K.sl ty K.ty i z hu hi hz ⟨g, 0, none⟩ l.length cp (K.all l) hlo (World.ownsRow.cells hown (g := g) rfl) a m.length cap (K.all m) hml hnews (by omega) (by omega) (growslice_fits (by omega) (by rw [hby]; exact hn))] at hrun
     injection hrun with e1 e2
     subst e1
     cases hk
     exact .inr rfl
/-- append(v, m...), v the call's own, m any row, nil too. -/
theorem run_row_append (hK : K.Ok bytes) (w : World) (base : Nat) (v : Value) (l m : List α) (ty : Nat) (hown : OwnRow K w base v l) (ad : Option Addr) (n cap : Nat) (hr : RowAt K w ad n cap m) (hn : (l.length + n) * bytes ≤ 140737488355328) (hn2 : l.length + n ≤ 140737488355328) (hbase : base ≤ w.heap.size) :
 ∃ v' w', (Builtin.append_ #[K.sl, K.sl] ty #[v, .slice ad n cap]).run Tryz.prog w = .ok v' w' ∧ OwnRow K w' base v' (l ++ m) ∧ w.grownBy w' v.ownBlock ∧ (v ≠ .slice none 0 0 → v' ≠ .slice none 0 0) ∧ (∀ k, v'.ownBlock = some k → v.ownBlock = some k ∨ w.heap.size ≤ k) := by
 obtain ⟨i, z, hi, hz, hs, hby, hzs⟩ := hK.info
 obtain rfl := hr.length
 have hu := hK.und
 rcases ad with _ | ⟨b, off, x⟩
 · have hc := hr.room rfl
   have hf := hr.fits
   obtain rfl : m = [] := List.eq_nil_of_length_eq_zero (by omega)
   subst hc
   refine ⟨v, w, ?_, by rw [List.append_nil]; exact hown, ⟨rfl, rfl, rfl, Nat.le_refl _, fun _ _ _ => rfl⟩, fun h => h, fun k hk => .inl hk⟩
   exact run_append_owned_none (P := Tryz.prog) (w := w) base K.sl ty K.ty i K.size hu hi v _ _ hown
 · have hx : x = none ∨ m.length = 0 := by
    rcases hr.cells with h0 | ⟨_, _, e, _⟩
    · exact .inr h0
    · cases e; exact .inl rfl
   have hnews : ∀ j u, (K.all m)[j]? = some u → w.cell? ((⟨b, off, x⟩ : Addr).add j) = some u := by
    intro j u hj
    rcases hx with rfl | h0
    · exact hr.news hK j u hj
    · obtain rfl := List.eq_nil_of_length_eq_zero h0
      simp [Kind.all] at hj
   obtain ⟨v', w', hrun, h2, h3, h4⟩ := run_append_own (P := Tryz.prog) w base K.sl ty K.ty i z K.size bytes hu hi hz hs hby hzs hK.pos v l.length (K.all l) hown ⟨b, off, x⟩ m.length cap (K.all m) (hK.all_len m) hnews (hK.all_one m) (by unfold maxLen; omega) hn hbase
   refine ⟨v', w', hrun, ?_, h3, fun hne h => hne (h4.1 h).1, ?_⟩
   · unfold OwnRow
     rw [K.all_app, List.length_append]
     exact h2
   · intro k hk
     rcases append_block hK w w' base v v' l m ty hown _ cap hnews hn hn2 hrun k hk with h | h
     · exact .inl h
     · exact .inr (by omega)
/-- What an append leaves. -/
def Appended (K : Kind α) (w : World) (base : Nat) (v : Value) (l : List α) (v' : Value) (w' : World) : Prop :=
 OwnRow K w' base v' l ∧ w.grownBy w' v.ownBlock ∧ (v ≠ .slice none 0 0 → v' ≠ .slice none 0 0) ∧ (∀ k, v'.ownBlock = some k → v.ownBlock = some k ∨ w.heap.size ≤ k)
/-- The operation in a plain list of operations, behind a guard that says yes or with none. -/
theorem list_row {w : World} {ops : Array Oper} {rest : List Oper} {o : Oper} {a : Act} {Q : Exit → Act → World → Prop} (hw : Region.wanted o (yielded ops a.tmps) = true) (hK : K.Ok bytes) (s x : Operand)
 (ho : o.op = .call { callee := .builtin .append, args := #[s, x], argTypes := #[K.sl, K.sl] })
 (base : Nat) (l m : List α) (v : Value) (hs : a.eval s = v) (hown : OwnRow K w base v l) (hbase : base ≤ w.heap.size)
 (ad : Option Addr) (n cap : Nat) (hx : a.eval x = .slice ad n cap) (hr : RowAt K w ad n cap m) (hn : l.length + n ≤ 100000000000)
 (h : ∀ v' w', Appended K w base v (l ++ m) v' w' → wpList Tryz.prog ops Q rest (a.put o.dst v') w') :
 wpList Tryz.prog ops Q (o :: rest) a w := by
 refine BigFrame.wpList_want hw fun C hC => ?_
 have hf := hK.few
 obtain ⟨v', w', hrun, h2⟩ := run_row_append hK w base v l m o.type hown ad n cap hr (Nat.le_trans (Nat.mul_le_mul hn hf) (by omega)) (by omega) hbase
 unfold Oper.wp execOp
 simp only [ho, resolve, invoke, builtin, Sem.run_bind, Sem.run_pure, Result.andThen_ok, List.map_toArray, List.map_cons, List.map_nil, hs, hx, hrun]
 exact hC _ _ (h v' w' h2)
/-- The operation in a region that draws its order. -/
theorem held_row {w : World} {ops : Array Oper} {o : Oper} {a : Act} {C : Act → World → Prop} {Q : Exit → Act → World → Prop} {Z : Prop} [Decidable (Region.wanted o (yielded ops a.tmps) = true)] (hw : Region.wanted o (yielded ops a.tmps) = true) (hK : K.Ok bytes) (s x : Operand)
 (ho : o.op = .call { callee := .builtin .append, args := #[s, x], argTypes := #[K.sl, K.sl] })
 (base : Nat) (l m : List α) (v : Value) (hs : a.eval s = v) (hown : OwnRow K w base v l) (hbase : base ≤ w.heap.size)
 (ad : Option Addr) (n cap : Nat) (hx : a.eval x = .slice ad n cap) (hr : RowAt K w ad n cap m) (hn : l.length + n ≤ 100000000000)
 (h : ∀ v' w', Appended K w base v (l ++ m) v' w' → C (a.put o.dst v') w') :
 if Region.wanted o (yielded ops a.tmps) = true then Oper.wp Tryz.prog o a w C Q else Z := by
 rw [if_pos hw]
 have hf := hK.few
 obtain ⟨v', w', hrun, h2⟩ := run_row_append hK w base v l m o.type hown ad n cap hr (Nat.le_trans (Nat.mul_le_mul hn hf) (by omega)) (by omega) hbase
 unfold Oper.wp execOp
 simp only [ho, resolve, invoke, builtin, Sem.run_bind, Sem.run_pure, Result.andThen_ok, List.map_toArray, List.map_cons, List.map_nil, hs, hx, hrun]
 exact h v' w' h2
end Go.Proofs.YtgohekjkbgfeeaaGreat
