/- Parts of a proof, merged: ProdMem, ProdDup, ProdCheck, RowCut, ProdApply, ProdAt. -/
import Derived.Deep.CutRange
import Derived.Deep.CutBlock
import Derived.Test.YtipaebflkebdjaaKa1
import Derived.Test.YtipaebflkebdjaaKa3
import Derived.Test.YtipaebflkebdjaaKa4
import Derived.Test.YtipaebflkebdjaaKa2
namespace Go.Proofs.Ytipaebflkebdjaa
open Go.RowKit
open Go.SeqMath
open Go.ProdMath
open Go.BatMath hiding AllB getD_lt take_all
set_option linter.unusedVariables false

theorem infoTr : (Try.prog.info? 93).map (fun i => (i.zero, i.size, i.bytes)) = some (some (.agg #[.int .i64 0, .int .i64 0, .int .i64 0]), 3, 24) := by kernel_rfl
def trK : Kind Tr := ⟨fun x => [.int .i64 x.f, .int .i64 x.l, .int .i64 x.b], 3, 93, 46⟩
theorem trK_ok : trK.Ok 24 where
 und := Try.underlying46
 info := by
  obtain ⟨i, hi, hz, hs, hb⟩ := info_parts infoTr
  exact ⟨i, _, hi, hz, hs, hb, rfl⟩
 len := fun _ => rfl
 pos := by decide
 one := fun r u hu => by
  simp only [trK, List.mem_cons, List.not_mem_nil, or_false] at hu
  rcases hu with rfl | rfl | rfl <;> rfl
 few := by decide
theorem infoDr : (Try.prog.info? 79).map (fun i => (i.zero, i.size, i.bytes)) = some (some (.agg #[.int .i64 0, .int .i64 0, .int .i64 0]), 3, 24) := by kernel_rfl
def drK : Kind Dr := ⟨fun x => [.int .i64 x.prod, .int .i64 x.first, .int .i64 x.last], 3, 79, 32⟩
theorem drK_ok : drK.Ok 24 where
 und := Try.underlying32
 info := by
  obtain ⟨i, hi, hz, hs, hb⟩ := info_parts infoDr
  exact ⟨i, _, hi, hz, hs, hb, rfl⟩
 len := fun _ => rfl
 pos := by decide
 one := fun r u hu => by
  simp only [drK, List.mem_cons, List.not_mem_nil, or_false] at hu
  rcases hu with rfl | rfl | rfl <;> rfl
 few := by decide
/-- A producer, and where its latest batches lie. -/
structure PM where
 p : Pd
 ad : Option Addr
 cap : Nat
theorem infoPd : (Try.prog.info? 48).map (fun i => (i.zero, i.size, i.bytes)) = some (some (.agg #[.int .i64 0, .int .i64 0, .slice none 0 0, .int .i64 0]), 4, 48) := by kernel_rfl
def pdK : Kind PM := ⟨fun m => [.int .i64 m.p.id, .int .i64 m.p.epoch, .slice m.ad m.p.last.length m.cap, .int .i64 m.p.opn], 4, 48, 43⟩
theorem pdK_ok : pdK.Ok 48 where
 und := Try.underlying43
 info := by
  obtain ⟨i, hi, hz, hs, hb⟩ := info_parts infoPd
  exact ⟨i, _, hi, hz, hs, hb, rfl⟩
 len := fun _ => rfl
 pos := by decide
 one := fun r u hu => by
  simp only [pdK, List.mem_cons, List.not_mem_nil, or_false] at hu
  rcases hu with rfl | rfl | rfl | rfl <;> rfl
 few := by decide
/-- A batch, and where its records lie. -/
structure BM where
 b : Bat
 ad : Option Addr
 cap : Nat
theorem infoBat : (Try.prog.info? 52).map (fun i => (i.zero, i.size, i.bytes)) = some (some (.agg #[.int .i64 0, .int .i64 0, .int .i64 0, .int .i64 0, .bool false, .int .i64 0, .slice none 0 0]), 7, 72) := by kernel_rfl
def batK : Kind BM := ⟨fun m => [.int .i64 m.b.base, .int .i64 m.b.prod, .int .i64 m.b.epoch, .int .i64 m.b.seq, .bool m.b.txn, .int .i64 m.b.marker, .slice m.ad m.b.recs.length m.cap], 7, 52, 22⟩
theorem batK_ok : batK.Ok 72 where
 und := Try.underlying22
 info := by
  obtain ⟨i, hi, hz, hs, hb⟩ := info_parts infoBat
  exact ⟨i, _, hi, hz, hs, hb, rfl⟩
 len := fun _ => rfl
 pos := by decide
 one := fun r u hu => by
  simp only [batK, List.mem_cons, List.not_mem_nil, or_false] at hu
  rcases hu with rfl | rfl | rfl | rfl | rfl | rfl | rfl <;> rfl
 few := by decide
/-- A producer's latest batches in memory. -/
abbrev LastAt (w : World) (m : PM) : Prop := RowAt trK w m.ad m.p.last.length m.cap m.p.last
abbrev RecAt (w : World) (m : BM) : Prop := RecsAt w m.ad m.b.recs.length m.cap m.b.recs
def LastsAt (w : World) (ms : List PM) : Prop := ∀ m ∈ ms, LastAt w m
def RecssAt (w : World) (ms : List BM) : Prop := ∀ m ∈ ms, RecAt w m
theorem LastsAt.keep {w w' : World} {ms : List PM} (h : LastsAt w ms) (hb : Below w.heap.size w w') : LastsAt w' ms := fun m hm => (h m hm).keep hb
theorem RecssAt.keep {w w' : World} {ms : List BM} (h : RecssAt w ms) (hb : Below w.heap.size w w') : RecssAt w' ms := fun m hm => (h m hm).keep hb
/-- Producers, batches in a slice. -/
structure PdsAt (w : World) (ad : Option Addr) (len cap : Nat) (ms : List PM) : Prop where
 row : RowAt pdK w ad len cap ms
 ins : LastsAt w ms
theorem PdsAt.keep {w w' : World} {ad : Option Addr} {len cap : Nat} {ms : List PM} (h : PdsAt w ad len cap ms) (hb : Below w.heap.size w w') : PdsAt w' ad len cap ms := ⟨h.row.keep hb, h.ins.keep hb⟩
structure BatsAt (w : World) (ad : Option Addr) (len cap : Nat) (ms : List BM) : Prop where
 row : RowAt batK w ad len cap ms
 ins : RecssAt w ms
theorem BatsAt.keep {w w' : World} {ad : Option Addr} {len cap : Nat} {ms : List BM} (h : BatsAt w ad len cap ms) (hb : Below w.heap.size w w') : BatsAt w' ad len cap ms := ⟨h.row.keep hb, h.ins.keep hb⟩
/-- The cells of the batch at i. -/
theorem BatsAt.get {w : World} {ad : Option Addr} {len cap : Nat} {ms : List BM} (h : BatsAt w ad len cap ms) {i : Nat} (hi : i < len) :
 ∃ b off m, ad = some ⟨b, off, none⟩ ∧ b < w.heap.size ∧ ms[i]? = some m ∧ RecAt w m ∧ w.cell? ⟨b, off + i * 7, none⟩ = some (.int .i64 m.b.base) ∧ w.cell? ⟨b, off + i * 7 + 1, none⟩ = some (.int .i64 m.b.prod) ∧ w.cell? ⟨b, off + i * 7 + 2, none⟩ = some (.int .i64 m.b.epoch) ∧ w.cell? ⟨b, off + i * 7 + 3, none⟩ = some (.int .i64 m.b.seq) ∧ w.cell? ⟨b, off + i * 7 + 4, none⟩ = some (.bool m.b.txn) ∧ w.cell? ⟨b, off + i * 7 + 5, none⟩ = some (.int .i64 m.b.marker) ∧ w.cell? ⟨b, off + i * 7 + 6, none⟩ = some (.slice m.ad m.b.recs.length m.cap) := by
 obtain ⟨b, off, m, e, hb, hm, hc⟩ := h.row.get hi
 exact ⟨b, off, m, e, hb, hm, h.ins m (List.mem_of_getElem? hm), hc 0 _ rfl, hc 1 _ rfl, hc 2 _ rfl, hc 3 _ rfl, hc 4 _ rfl, hc 5 _ rfl, hc 6 _ rfl⟩
theorem PdsAt.get {w : World} {ad : Option Addr} {len cap : Nat} {ms : List PM} (h : PdsAt w ad len cap ms) {i : Nat} (hi : i < len) :
 ∃ b off m, ad = some ⟨b, off, none⟩ ∧ b < w.heap.size ∧ ms[i]? = some m ∧ LastAt w m ∧ w.cell? ⟨b, off + i * 4, none⟩ = some (.int .i64 m.p.id) ∧ w.cell? ⟨b, off + i * 4 + 1, none⟩ = some (.int .i64 m.p.epoch) ∧ w.cell? ⟨b, off + i * 4 + 2, none⟩ = some (.slice m.ad m.p.last.length m.cap) ∧ w.cell? ⟨b, off + i * 4 + 3, none⟩ = some (.int .i64 m.p.opn) := by
 obtain ⟨b, off, m, e, hb, hm, hc⟩ := h.row.get hi
 exact ⟨b, off, m, e, hb, hm, h.ins m (List.mem_of_getElem? hm), hc 0 _ rfl, hc 1 _ rfl, hc 2 _ rfl, hc 3 _ rfl⟩
theorem tr_get {w : World} {ad : Option Addr} {len cap : Nat} {l : List Tr} (h : RowAt trK w ad len cap l) {i : Nat} (hi : i < len) :
 ∃ b off x, ad = some ⟨b, off, none⟩ ∧ b < w.heap.size ∧ l[i]? = some x ∧ w.cell? ⟨b, off + i * 3, none⟩ = some (.int .i64 x.f) ∧ w.cell? ⟨b, off + i * 3 + 1, none⟩ = some (.int .i64 x.l) ∧ w.cell? ⟨b, off + i * 3 + 2, none⟩ = some (.int .i64 x.b) := by
 obtain ⟨b, off, m, e, hb, hm, hc⟩ := h.get hi
 exact ⟨b, off, m, e, hb, hm, hc 0 _ rfl, hc 1 _ rfl, hc 2 _ rfl⟩
/-- A block that is one producer; three numbers. -/
def PBox (w : World) (k : Nat) (b0 b1 : Int) (v : Value) (b3 : Int) : Prop := w.heap[k]? = some (.cells #[.int .i64 b0, .int .i64 b1, v, .int .i64 b3] 48 (0, 0))
section
variable {w w' : World} {k : Nat} {b0 b1 b3 : Int} {v : Value}
theorem PBox.c0 (h : PBox w k b0 b1 v b3) : w.cell? ⟨k, 0, none⟩ = some (.int .i64 b0) := by rw [cell_of_row _ _ 0 _ _ _ h]; rfl
theorem PBox.c1 (h : PBox w k b0 b1 v b3) : w.cell? ⟨k, 1, none⟩ = some (.int .i64 b1) := by rw [cell_of_row _ _ 1 _ _ _ h]; rfl
theorem PBox.c2 (h : PBox w k b0 b1 v b3) : w.cell? ⟨k, 2, none⟩ = some v := by rw [cell_of_row _ _ 2 _ _ _ h]; rfl
theorem PBox.c3 (h : PBox w k b0 b1 v b3) : w.cell? ⟨k, 3, none⟩ = some (.int .i64 b3) := by rw [cell_of_row _ _ 3 _ _ _ h]; rfl
theorem PBox.free (h : PBox w k b0 b1 v b3) (j : Nat) : w.frozen? ⟨k, j, none⟩ = false := frozen_of_row w k j _ _ h
theorem PBox.lt (h : PBox w k b0 b1 v b3) : k < w.heap.size := lt_of_block h
theorem PBox.keep {B : Nat} (h : PBox w k b0 b1 v b3) (hb : Below B w w') (hk : k < B) : PBox w' k b0 b1 v b3 := by
 unfold PBox at *
 rw [hb.block k hk]
 exact h
theorem PBox.on (h : PBox w k b0 b1 v b3) (hb : Below w.heap.size w w') : PBox w' k b0 b1 v b3 := h.keep hb h.lt
theorem PBox.s0 (h : PBox w k b0 b1 v b3) (n : Int) : PBox (w.setCell ⟨k, 0, none⟩ (.int .i64 n)) k n b1 v b3 := box_set h 0 _
theorem PBox.s1 (h : PBox w k b0 b1 v b3) (n : Int) : PBox (w.setCell ⟨k, 1, none⟩ (.int .i64 n)) k b0 n v b3 := box_set h 1 _
theorem PBox.s2 (h : PBox w k b0 b1 v b3) (u : Value) : PBox (w.setCell ⟨k, 2, none⟩ u) k b0 b1 u b3 := box_set h 2 _
theorem PBox.s3 (h : PBox w k b0 b1 v b3) (n : Int) : PBox (w.setCell ⟨k, 3, none⟩ (.int .i64 n)) k b0 b1 v n := box_set h 3 _
theorem PBox.off (h : PBox w k b0 b1 v b3) {j i : Nat} (hj : j ≠ k) (u : Value) : PBox (w.setCell ⟨j, i, none⟩ u) k b0 b1 v b3 := box_off h hj u
theorem PBox.grown {r : Option Nat} (h : PBox w k b0 b1 v b3) (hg : w.grownBy w' r) (hr : r ≠ some k) : PBox w' k b0 b1 v b3 := by
 have hlt := h.lt
 unfold PBox at *
 rw [hg.block k hlt (fun e => hr e.symm)]
 exact h
theorem pbox_new (w : World) (b0 b1 : Int) (v : Value) (b3 : Int) : PBox (w.alloc (.cells #[.int .i64 b0, .int .i64 b1, v, .int .i64 b3] 48)) w.heap.size b0 b1 v b3 := heap_alloc_new w _
theorem BoxAt.grows {b2 : Int} {b4 : Bool} {b5 : Int} {r : Option Nat} (h : BoxAt w k b0 b1 b2 b3 b4 b5 v) (hg : w.grownBy w' r) (hr : r ≠ some k) : BoxAt w' k b0 b1 b2 b3 b4 b5 v := by
 have hlt := h.lt
 unfold BoxAt at *
 rw [hg.block k hlt (fun e => hr e.symm)]
 exact h
end
theorem beq_dec (a b : Int) : (a == b) = decide (a = b) := by
 by_cases h : a = b
 · subst h; simp
 · rw [decide_eq_false h]; exact beq_false_of_ne h
theorem beq_dec2 (a b : Int) : (a == b) = decide (b = a) := by
 rw [beq_dec]
 by_cases h : a = b
 · subst h; rfl
 · rw [decide_eq_false h, decide_eq_false (fun e => h e.symm)]
theorem refAdd_any (n k : Int) (w : World) (v : Int) (k0 : 0 ≤ k) (k1 : k ≤ 1000000) (hv : addI n k = v) :
 Calls Try.prog 79 #[.int .i64 n, .int .i64 k] w fun e w' => e = .returned (.int .i64 v) ∧ w = w' := by
 rcases hr : rightB n with _ | _
 · have HV : Hid (v = -1) := by show _ = _; rw [← hv, add_no hr]
   have HR := Lib.hid hr
   clear hv hr
   go_enter Try.func79, Try.ntmps79
   go_wp2_with (go_at_call 75; refine (refSeq_any n _ false HR.out).mono ?_; rintro e w' ⟨rfl, rfl⟩)
   go_ret
   exact ⟨by rw [HV.out]; rfl, rfl⟩
 · obtain ⟨n0, n1⟩ := of_right hr
   have HV : Hid ((n + k) % 2147483648 = v) := by show _ = _; rw [← hv, add_yes n0 n1]
   have HR := Lib.hid hr
   clear hv hr
   go_enter Try.func79, Try.ntmps79
   go_wp2_with (go_at_call 75; refine (refSeq_any n _ true HR.out).mono ?_; rintro e w' ⟨rfl, rfl⟩)
   go_ret
   exact ⟨by show Ending.returned (.int .i64 (((n + k) % 2147483648 + 2147483648) % 2147483648)) = _; rw [← HV.out]; congr 2; omega, rfl⟩
theorem refLast_any (n : Int) (c : Nat) (w : World) (v : Int) (hc : c ≤ 140737488355328) (hv : lastI n c = v) :
 Calls Try.prog 67 #[.int .i64 n, .int .i64 (c : Int)] w fun e w' => e = .returned (.int .i64 v) ∧ w = w' := by
 by_cases h1 : c < 1
 · have HV : Hid (v = -1) := by show _ = _; rw [← hv, last_no (.inl (by omega))]
   have hd : decide ((c : Int) < 1) = true := decide_eq_true (by omega)
   clear hv
   go_enter Try.func67, Try.ntmps67
   go_wp2
   go_ret
   exact ⟨by rw [HV.out]; rfl, rfl⟩
 · have hd : decide ((c : Int) < 1) = false := decide_eq_false (by omega)
   by_cases h2 : 16 < c
   · have HV : Hid (v = -1) := by show _ = _; rw [← hv, last_no (.inr (by omega))]
     have hd2 : decide ((16 : Int) < (c : Int)) = true := decide_eq_true (by omega)
     clear hv
     go_enter Try.func67, Try.ntmps67
     go_wp2
     go_ret
     exact ⟨by rw [HV.out]; rfl, rfl⟩
   · have hd2 : decide ((16 : Int) < (c : Int)) = false := decide_eq_false (by omega)
     have HV : Hid (addI n ((c : Int) - 1) = v) := by show _ = _; rw [← hv, last_yes (by omega) (by omega)]
     clear hv
     go_enter Try.func67, Try.ntmps67
     go_wp2_with fail
     refine (refAdd_any n _ w v (by omega) (by omega) HV.out).mono ?_
     rintro e w' ⟨rfl, rfl⟩
     go_wp2
     go_ret
     exact ⟨rfl, rfl⟩
theorem refFollows_any (l f : Int) (w : World) (r : Bool) (hr : followsB l f = r) :
 Calls Try.prog 87 #[.int .i64 l, .int .i64 f] w fun e w' => e = .returned (.bool r) ∧ w = w' := by
 by_cases h1 : l = -1
 · subst h1
   have HV : Hid (decide (f = 0) = r) := by show _ = _; rw [← hr, follows_none]
   clear hr
   go_enter Try.func87, Try.ntmps87
   go_wp2
   go_ret
   exact ⟨by rw [← HV.out, ← beq_dec]; rfl, rfl⟩
 · have hd : (l == -1) = false := by simp [h1]
   rcases hs : rightB l with _ | _
   · have HV : Hid (r = false) := by show _ = _; rw [← hr, follows_no h1 hs]
     have HS := Lib.hid hs
     clear hr hs h1
     go_enter Try.func87, Try.ntmps87
     go_wp2_with (go_at_call 75; refine (refSeq_any l _ false HS.out).mono ?_; rintro e w' ⟨rfl, rfl⟩)
     go_ret
     exact ⟨by rw [HV.out]; rfl, rfl⟩
   · obtain ⟨n0, n1⟩ := of_right hs
     have HV : Hid (decide (f = addI l 1) = r) := by show _ = _; rw [← hr, follows_yes n0 n1]
     have HS := Lib.hid hs
     obtain ⟨v, hv⟩ : ∃ v, addI l 1 = v := ⟨_, rfl⟩
     rw [hv] at HV
     have HA := Lib.hid hv
     clear hr hs hv h1
     go_enter Try.func87, Try.ntmps87
     go_wp2_with (first | (go_at_call 75; refine (refSeq_any l _ true HS.out).mono ?_; rintro e w' ⟨rfl, rfl⟩) | (go_at_call 79; refine (refAdd_any l 1 _ v (by omega) (by omega) HA.out).mono ?_; rintro e w' ⟨rfl, rfl⟩))
     go_ret
     exact ⟨by rw [← HV.out, ← beq_dec2]; rfl, rfl⟩
end Go.Proofs.Ytipaebflkebdjaa
namespace Go.Proofs.Ytipaebflkebdjaa
open Go.RowKit
open Go.SeqMath
open Go.ProdMath
open Go.BatMath hiding AllB getD_lt take_all
set_option linter.unusedVariables false

/-- Three numbers in a block. -/
def TBox (w : World) (k : Nat) (x : Tr) : Prop := w.heap[k]? = some (.cells #[.int .i64 x.f, .int .i64 x.l, .int .i64 x.b] 93 (0, 0))
theorem TBox.c0 {w : World} {k : Nat} {x : Tr} (h : TBox w k x) : w.cell? ⟨k, 0, none⟩ = some (.int .i64 x.f) := by rw [cell_of_row _ _ 0 _ _ _ h]; rfl
theorem TBox.c1 {w : World} {k : Nat} {x : Tr} (h : TBox w k x) : w.cell? ⟨k, 1, none⟩ = some (.int .i64 x.l) := by rw [cell_of_row _ _ 1 _ _ _ h]; rfl
theorem TBox.c2 {w : World} {k : Nat} {x : Tr} (h : TBox w k x) : w.cell? ⟨k, 2, none⟩ = some (.int .i64 x.b) := by rw [cell_of_row _ _ 2 _ _ _ h]; rfl
theorem TBox.on {w w' : World} {k : Nat} {x : Tr} (h : TBox w k x) (hb : Below w.heap.size w w') : TBox w' k x := by
 have hlt := lt_of_block h
 unfold TBox at *
 rw [hb.block k hlt]
 exact h
theorem tbox_new (w : World) (x : Tr) : TBox (w.alloc (.cells #[.int .i64 x.f, .int .i64 x.l, .int .i64 x.b] 93)) w.heap.size x := heap_alloc_new w _
def GivesDup (w : World) (r : Option Int) (e : Ending) (w' : World) : Prop := e = .returned (.tuple #[.int .i64 (r.getD (-1)), .bool r.isSome]) ∧ Below w.heap.size w w'
theorem gives_dup_none {w w' : World} {r : Option Int} (h : r = none) (hb : Below w.heap.size w w') : GivesDup w r (.returned (.tuple #[.int .i64 (-1), .bool false])) w' := ⟨by rw [h]; rfl, hb⟩
theorem gives_dup_some {w w' : World} {r : Option Int} {v : Int} (h : r = some v) (hb : Below w.heap.size w w') : GivesDup w r (.returned (.tuple #[.int .i64 v, .bool true])) w' := ⟨by rw [h]; rfl, hb⟩
set_option maxRecDepth 100000 in
set_option maxHeartbeats 4000000 in
theorem refDup_any (w : World) (id ep op : Int) (last : List Tr) (ad : Option Addr) (n cap : Nat) (hl : RowAt trK w ad n cap last) (hn : n ≤ 100000000000) (b0 b1 b2 b3 : Int) (b4 : Bool) (b5 : Int) (rd : Option Addr) (rn rc : Nat) (hrn : rn ≤ 140737488355328) (r : Option Int) (hr : (if b2 = ep ∧ b5 = 0 then dupL last b3 rn else none) = r) :
 Calls Try.prog 86 #[.agg #[.int .i64 id, .int .i64 ep, .slice ad n cap, .int .i64 op], .agg #[.int .i64 b0, .int .i64 b1, .int .i64 b2, .int .i64 b3, .bool b4, .int .i64 b5, .slice rd rn rc]] w (GivesDup w r) := by
 obtain ⟨W0, hW0⟩ : ∃ W0, W0 = ((w.alloc (.cells #[.int .i64 id, .int .i64 ep, .slice ad n cap, .int .i64 op] 48)).alloc (.cells #[.int .i64 b0, .int .i64 b1, .int .i64 b2, .int .i64 b3, .bool b4, .int .i64 b5, .slice rd rn rc] 52)) := ⟨_, rfl⟩
 have HB0 : Hid (Below w.heap.size w W0) := by show Below _ _ _; rw [hW0]; exact ((Below.refl _ _).alloc (Nat.le_refl _) _).alloc (by simp) _
 have HP0 : Hid (PBox W0 w.heap.size id ep (.slice ad n cap) op) := by
  show PBox _ _ _ _ _ _
  rw [hW0]
  exact (pbox_new w id ep (.slice ad n cap) op).keep ((Below.refl _ _).alloc (Nat.le_refl _) _) (by simp)
 have HX0 : Hid (BoxAt W0 (w.heap.size + 1) b0 b1 b2 b3 b4 b5 (.slice rd rn rc)) := by
  show BoxAt _ _ _ _ _ _ _ _ _
  rw [hW0]
  have := boxAt_new (w.alloc (.cells #[.int .i64 id, .int .i64 ep, .slice ad n cap, .int .i64 op] 48)) b0 b1 b2 b3 b4 b5 (.slice rd rn rc)
  simpa using this
 have HL0 := Lib.hid (hl.keep HB0.out)
 have HR := Lib.hid hr
 have HW0 := Lib.hid hW0
 clear hl hr hW0
 obtain ⟨B1, hB1⟩ : ∃ B, B = w.heap.size := ⟨_, rfl⟩
 obtain ⟨B2, hB2⟩ : ∃ B, B = w.heap.size + 1 := ⟨_, rfl⟩
 rw [← hB1] at HP0
 rw [← hB2] at HX0
 go_enter Try.func86, Try.ntmps86
 go_upto_region 1 with fail
 rw [← HW0.out, ← hB2, ← hB1]
 clear HW0 hB1 hB2
 have q0 := HP0.out.c0
 have q1 := HP0.out.c1
 have q2 := HP0.out.c2
 have q3 := HP0.out.c3
 have p2 := HX0.out.c2
 have p5 := HX0.out.c5
 by_cases he : b2 = ep
 · have hd1 : (b2 == ep) = true := by rw [he]; simp
   by_cases hm : b5 = 0
   · have hd2 : (b5 == 0) = true := by rw [hm]; rfl
     have HRR : Hid (dupL (last.drop 0) b3 rn = r) := by show _ = _; rw [← HR.out, if_pos ⟨he, hm⟩]; rfl
     clear HR he hm
     go_wp2
     go_loopw [21] (fun v21 wr => ∃ j : Nat, v21 = .int .i64 (j : Int) ∧ j ≤ n ∧ dupL (last.drop j) b3 rn = r ∧ Below W0.heap.size W0 wr) (fun v21 _ => n - (intOf v21).toNat)
     case atStart => exact ⟨0, rfl, Nat.zero_le _, HRR.out, Below.refl _ _⟩
     case round =>
      obtain ⟨j, rfl, hj, hdu, hbel⟩ := hrel
      have HD := Lib.hid hdu
      have HB := Lib.hid hbel
      clear hdu hbel HRR q0 q1 q2 q3 p2 p5
      obtain ⟨wo, hwo⟩ : ∃ wo : World, wo = wr := ⟨_, rfl⟩
      subst hwo
      by_cases hlt : j < n
      · have hd3 : decide (j < n) = true := decide_eq_true hlt
        have hjn : (j : Int) < (n : Int) := by omega
        obtain ⟨bk, off, x, rfl, hbk, hx, c0, c1, c2⟩ := tr_get (HL0.out.keep HB.out) hlt
        have hdrop : last.drop j = x :: last.drop (j + 1) := by
         obtain ⟨hjl, hxe⟩ := List.getElem?_eq_some_iff.1 hx
         rw [List.drop_eq_getElem_cons hjl, hxe]
        have HDR := Lib.hid hdrop
        clear hdrop hx hbk
        go_upto_region 5 with fail
        obtain ⟨W1, hW1⟩ : ∃ W1, W1 = wo.alloc (.cells #[.int .i64 x.f, .int .i64 x.l, .int .i64 x.b] 93) := ⟨_, rfl⟩
        have HB1 : Hid (Below W0.heap.size W0 W1) := by show Below _ _ _; rw [hW1]; exact HB.out.alloc HB.out.size _
        obtain ⟨K, hK⟩ : ∃ K, K = wo.heap.size := ⟨_, rfl⟩
        have HT1 : Hid (TBox W1 K x) := by show TBox _ _ _; rw [hW1, hK]; exact tbox_new wo x
        have HX1 := Lib.hid (HX0.out.on HB1.out)
        rw [← hW1, ← hK]
        clear hW1 hK c0 c1 c2 HB
        have KS : Hid (∀ W, Below W1.heap.size W1 W → (fun W => W.cell? ⟨K, 0, none⟩ = some (.int .i64 x.f) ∧ W.cell? ⟨K, 1, none⟩ = some (.int .i64 x.l) ∧ W.cell? ⟨K, 2, none⟩ = some (.int .i64 x.b) ∧ W.cell? ⟨B2, 0, none⟩ = some (.int .i64 b0) ∧ W.cell? ⟨B2, 1, none⟩ = some (.int .i64 b1) ∧ W.cell? ⟨B2, 2, none⟩ = some (.int .i64 b2) ∧ W.cell? ⟨B2, 3, none⟩ = some (.int .i64 b3) ∧ W.cell? ⟨B2, 4, none⟩ = some (.bool b4) ∧ W.cell? ⟨B2, 5, none⟩ = some (.int .i64 b5) ∧ W.cell? ⟨B2, 6, none⟩ = some (.slice rd rn rc) ∧ Below W1.heap.size W1 W) W) := by
         intro W hW
         have hX := HX1.out.on hW
         have hT := HT1.out.on hW
         exact ⟨hT.c0, hT.c1, hT.c2, hX.c0, hX.c1, hX.c2, hX.c3, hX.c4, hX.c5, hX.c6, hW⟩
        have hb1d : Below W1.heap.size W1 W1.drew := (Below.refl _ W1).drew
        by_cases hf : x.f = b3
        · have hd4 : (x.f == b3) = true := by rw [hf]; simp
          obtain ⟨lv, hlv⟩ : ∃ lv, lastI b3 rn = lv := ⟨_, rfl⟩
          have HLV := Lib.hid hlv
          by_cases hll : x.l = lv
          · have hd5 : (x.l == lv) = true := by rw [hll]; simp
            have HEND : Hid (r = some x.b) := by
             show r = _
             rw [← HD.out, HDR.out, dup_hit]
             unfold hitB
             rw [hf, hlv, hll]
             simp
            clear hlv
            refine wp_region_noPanic ?_
            refine wp_region_z [] (fun W => W.cell? ⟨K, 0, none⟩ = some (.int .i64 x.f) ∧ W.cell? ⟨K, 1, none⟩ = some (.int .i64 x.l) ∧ W.cell? ⟨K, 2, none⟩ = some (.int .i64 x.b) ∧ W.cell? ⟨B2, 0, none⟩ = some (.int .i64 b0) ∧ W.cell? ⟨B2, 1, none⟩ = some (.int .i64 b1) ∧ W.cell? ⟨B2, 2, none⟩ = some (.int .i64 b2) ∧ W.cell? ⟨B2, 3, none⟩ = some (.int .i64 b3) ∧ W.cell? ⟨B2, 4, none⟩ = some (.bool b4) ∧ W.cell? ⟨B2, 5, none⟩ = some (.int .i64 b5) ∧ W.cell? ⟨B2, 6, none⟩ = some (.slice rd rn rc) ∧ Below W1.heap.size W1 W) (by kernel_rfl) ?_
            have hHeld := KS.out _ hb1d
            obtain ⟨u0, hu0⟩ : ∃ u, u = W1.drew := ⟨_, rfl⟩
            rw [← hu0] at hHeld hb1d
            rw [← hu0]
            clear hu0
            have HU0 := Lib.hid hb1d
            clear hb1d
            refine zt 0 ?_
            refine zt 1 ?_
            refine zt 2 ?_
            refine zt 3 ?_
            refine zt 4 ?_
            refine zt 5 ?_
            refine zt 6 ?_
            refine zt 7 ?_
            refine zt 8 ?_
            refine zt 9 ?_
            refine zt 10 ?_
            refine zt 11 ?_
            refine zt 12 ?_
            refine zr 13 (fun C hC => ?_)
            go_simp
            refine (refLast_any b3 rn u0 lv hrn HLV.out).mono ?_
            rintro e u1 ⟨rfl, rfl⟩
            go_wp2_with fail
            have hHeld : (fun W => W.cell? ⟨K, 0, none⟩ = some (.int .i64 x.f) ∧ W.cell? ⟨K, 1, none⟩ = some (.int .i64 x.l) ∧ W.cell? ⟨K, 2, none⟩ = some (.int .i64 x.b) ∧ W.cell? ⟨B2, 0, none⟩ = some (.int .i64 b0) ∧ W.cell? ⟨B2, 1, none⟩ = some (.int .i64 b1) ∧ W.cell? ⟨B2, 2, none⟩ = some (.int .i64 b2) ∧ W.cell? ⟨B2, 3, none⟩ = some (.int .i64 b3) ∧ W.cell? ⟨B2, 4, none⟩ = some (.bool b4) ∧ W.cell? ⟨B2, 5, none⟩ = some (.int .i64 b5) ∧ W.cell? ⟨B2, 6, none⟩ = some (.slice rd rn rc) ∧ Below W1.heap.size W1 W) _ := hHeld
            refine zc hC hHeld ?_
            clear hC C
            refine zt 14 ?_
            refine zt 15 ?_
            refine wpAnyZ_done (by kernel_rfl) ?_ _
            refine NoPanic.normal ?_
            have HU := HU0
            clear hHeld
            have k2 := (KS.out _ HU.out).2.2.1
            go_wp2
            go_ret2
            exact gives_dup_some HEND.out (HB0.out.trans ((HB1.out.trans (HU.out.mono HB1.out.size)).mono HB0.out.size))
          · have hd5 : (x.l == lv) = false := beq_false_of_ne hll
            have HNX : Hid (dupL (last.drop (j + 1)) b3 rn = r) := by
             show _ = _
             rw [← HD.out, HDR.out, dup_miss]
             unfold hitB
             rw [hlv, decide_eq_false hll, Bool.and_false]
            clear hlv
            refine wp_region_noPanic ?_
            refine wp_region_z [] (fun W => W.cell? ⟨K, 0, none⟩ = some (.int .i64 x.f) ∧ W.cell? ⟨K, 1, none⟩ = some (.int .i64 x.l) ∧ W.cell? ⟨K, 2, none⟩ = some (.int .i64 x.b) ∧ W.cell? ⟨B2, 0, none⟩ = some (.int .i64 b0) ∧ W.cell? ⟨B2, 1, none⟩ = some (.int .i64 b1) ∧ W.cell? ⟨B2, 2, none⟩ = some (.int .i64 b2) ∧ W.cell? ⟨B2, 3, none⟩ = some (.int .i64 b3) ∧ W.cell? ⟨B2, 4, none⟩ = some (.bool b4) ∧ W.cell? ⟨B2, 5, none⟩ = some (.int .i64 b5) ∧ W.cell? ⟨B2, 6, none⟩ = some (.slice rd rn rc) ∧ Below W1.heap.size W1 W) (by kernel_rfl) ?_
            have hHeld := KS.out _ hb1d
            obtain ⟨u0, hu0⟩ : ∃ u, u = W1.drew := ⟨_, rfl⟩
            rw [← hu0] at hHeld hb1d
            rw [← hu0]
            clear hu0
            have HU0 := Lib.hid hb1d
            clear hb1d
            refine zt 0 ?_
            refine zt 1 ?_
            refine zt 2 ?_
            refine zt 3 ?_
            refine zt 4 ?_
            refine zt 5 ?_
            refine zt 6 ?_
            refine zt 7 ?_
            refine zt 8 ?_
            refine zt 9 ?_
            refine zt 10 ?_
            refine zt 11 ?_
            refine zt 12 ?_
            refine zr 13 (fun C hC => ?_)
            go_simp
            refine (refLast_any b3 rn u0 lv hrn HLV.out).mono ?_
            rintro e u1 ⟨rfl, rfl⟩
            go_wp2_with fail
            have hHeld : (fun W => W.cell? ⟨K, 0, none⟩ = some (.int .i64 x.f) ∧ W.cell? ⟨K, 1, none⟩ = some (.int .i64 x.l) ∧ W.cell? ⟨K, 2, none⟩ = some (.int .i64 x.b) ∧ W.cell? ⟨B2, 0, none⟩ = some (.int .i64 b0) ∧ W.cell? ⟨B2, 1, none⟩ = some (.int .i64 b1) ∧ W.cell? ⟨B2, 2, none⟩ = some (.int .i64 b2) ∧ W.cell? ⟨B2, 3, none⟩ = some (.int .i64 b3) ∧ W.cell? ⟨B2, 4, none⟩ = some (.bool b4) ∧ W.cell? ⟨B2, 5, none⟩ = some (.int .i64 b5) ∧ W.cell? ⟨B2, 6, none⟩ = some (.slice rd rn rc) ∧ Below W1.heap.size W1 W) _ := hHeld
            refine zc hC hHeld ?_
            clear hC C
            refine zt 14 ?_
            refine zt 15 ?_
            refine wpAnyZ_done (by kernel_rfl) ?_ _
            refine NoPanic.normal ?_
            have HU := HU0
            clear hHeld
            have HBU := Lib.hid (HB1.out.trans (HU.out.mono HB1.out.size))
            go_wp2
            go_roundw
            case rel => exact ⟨j + 1, by go_num, by omega, HNX.out, HBU.out⟩
            case measure => simp [intOf]; omega
        · have hd4 : (x.f == b3) = false := beq_false_of_ne hf
          have HNX : Hid (dupL (last.drop (j + 1)) b3 rn = r) := by
           show _ = _
           rw [← HD.out, HDR.out, dup_miss]
           unfold hitB
           rw [decide_eq_false hf, Bool.false_and]
          refine wp_region_noPanic ?_
          refine wp_region_z [] (fun W => W.cell? ⟨K, 0, none⟩ = some (.int .i64 x.f) ∧ W.cell? ⟨K, 1, none⟩ = some (.int .i64 x.l) ∧ W.cell? ⟨K, 2, none⟩ = some (.int .i64 x.b) ∧ W.cell? ⟨B2, 0, none⟩ = some (.int .i64 b0) ∧ W.cell? ⟨B2, 1, none⟩ = some (.int .i64 b1) ∧ W.cell? ⟨B2, 2, none⟩ = some (.int .i64 b2) ∧ W.cell? ⟨B2, 3, none⟩ = some (.int .i64 b3) ∧ W.cell? ⟨B2, 4, none⟩ = some (.bool b4) ∧ W.cell? ⟨B2, 5, none⟩ = some (.int .i64 b5) ∧ W.cell? ⟨B2, 6, none⟩ = some (.slice rd rn rc) ∧ Below W1.heap.size W1 W) (by kernel_rfl) ?_
          have hHeld := KS.out _ hb1d
          obtain ⟨u0, hu0⟩ : ∃ u, u = W1.drew := ⟨_, rfl⟩
          rw [← hu0] at hHeld hb1d
          rw [← hu0]
          clear hu0
          have HU := Lib.hid hb1d
          clear hb1d
          refine zt 0 ?_
          refine zt 1 ?_
          refine zt 2 ?_
          refine zt 3 ?_
          refine zt 4 ?_
          refine zt 5 ?_
          refine zt 6 ?_
          refine zt 7 ?_
          refine zt 8 ?_
          refine zt 9 ?_
          refine zt 10 ?_
          refine zt 11 ?_
          refine zt 12 ?_
          refine zt 13 ?_
          refine zt 14 ?_
          refine zt 15 ?_
          refine wpAnyZ_done (by kernel_rfl) ?_ _
          refine NoPanic.normal ?_
          clear hHeld
          have HBU := Lib.hid (HB1.out.trans (HU.out.mono HB1.out.size))
          go_wp2
          go_roundw
          case rel => exact ⟨j + 1, by go_num, by omega, HNX.out, HBU.out⟩
          case measure => simp [intOf]; omega
      · have hd3 : decide (j < n) = false := decide_eq_false hlt
        have hln := HL0.out.length
        have HEND : Hid (r = none) := by show r = none; rw [← HD.out, List.drop_of_length_le (by omega), dup_none]
        clear hln
        go_wp2
        go_ret2
        exact gives_dup_none HEND.out (HB0.out.trans (HB.out.mono HB0.out.size))
   · have hd2 : (b5 == 0) = false := beq_false_of_ne hm
     have HEND : Hid (r = none) := by show r = none; rw [← HR.out, if_neg (fun h => hm h.2)]
     clear HR
     go_wp2
     go_ret2
     exact gives_dup_none HEND.out HB0.out
 · have hd1 : (b2 == ep) = false := beq_false_of_ne he
   have HEND : Hid (r = none) := by show r = none; rw [← HR.out, if_neg (fun h => he h.1)]
   clear HR
   go_wp2
   go_ret2
   exact gives_dup_none HEND.out HB0.out
end Go.Proofs.Ytipaebflkebdjaa
namespace Go.Proofs.Ytipaebflkebdjaa
open Go.RowKit
open Go.SeqMath
open Go.ProdMath
open Go.BatMath hiding AllB getD_lt take_all
set_option linter.unusedVariables false

def dupC (r : Option Int) (last : List Tr) (op s : Int) (t : Bool) : Int × Int := match r with
 | some n => (n, 0)
 | none => if last ≠ [] ∧ followsB (lastSeq last) s = false then (-1, 15) else if 0 ≤ op ∧ t = false then (-1, 16) else (-1, 0)
def GivesPair (w : World) (c : Int × Int) (e : Ending) (w' : World) : Prop := e = .returned (.tuple #[.int .i64 c.1, .int .i64 c.2]) ∧ Below w.heap.size w w'
theorem gives_pair {w w' : World} {c : Int × Int} {a b : Int} (h : c = (a, b)) (hb : Below w.heap.size w w') : GivesPair w c (.returned (.tuple #[.int .i64 a, .int .i64 b])) w' := ⟨by rw [h], hb⟩
set_option maxRecDepth 100000 in
set_option maxHeartbeats 4000000 in
theorem refCheck_any (w : World) (id ep op : Int) (last : List Tr) (ad : Option Addr) (n cap : Nat) (hl : RowAt trK w ad n cap last) (hn : n ≤ 100000000000) (known : Bool) (b0 b1 b2 b3 : Int) (b4 : Bool) (b5 : Int) (recs : List Rc) (rd : Option Addr) (rn rc : Nat) (hrl : recs.length = rn) (hrn : rn ≤ 140737488355328) (c : Int × Int) (hc : checkD ⟨id, ep, last, op⟩ known ⟨b0, b1, b2, b3, b4, b5, recs⟩ = c) :
 Calls Try.prog 72 #[.agg #[.int .i64 id, .int .i64 ep, .slice ad n cap, .int .i64 op], .bool known, .agg #[.int .i64 b0, .int .i64 b1, .int .i64 b2, .int .i64 b3, .bool b4, .int .i64 b5, .slice rd rn rc]] w (GivesPair w c) := by
 obtain ⟨W0, hW0⟩ : ∃ W0, W0 = ((w.alloc (.cells #[.int .i64 id, .int .i64 ep, .slice ad n cap, .int .i64 op] 48)).alloc (.cells #[.int .i64 b0, .int .i64 b1, .int .i64 b2, .int .i64 b3, .bool b4, .int .i64 b5, .slice rd rn rc] 52)) := ⟨_, rfl⟩
 have HB0 : Hid (Below w.heap.size w W0) := by show Below _ _ _; rw [hW0]; exact ((Below.refl _ _).alloc (Nat.le_refl _) _).alloc (by simp) _
 have HP0 : Hid (PBox W0 w.heap.size id ep (.slice ad n cap) op) := by
  show PBox _ _ _ _ _ _
  rw [hW0]
  exact (pbox_new w id ep (.slice ad n cap) op).keep ((Below.refl _ _).alloc (Nat.le_refl _) _) (by simp)
 have HX0 : Hid (BoxAt W0 (w.heap.size + 1) b0 b1 b2 b3 b4 b5 (.slice rd rn rc)) := by
  show BoxAt _ _ _ _ _ _ _ _ _
  rw [hW0]
  have := boxAt_new (w.alloc (.cells #[.int .i64 id, .int .i64 ep, .slice ad n cap, .int .i64 op] 48)) b0 b1 b2 b3 b4 b5 (.slice rd rn rc)
  simpa using this
 have HL0 := Lib.hid (hl.keep HB0.out)
 have HC : Hid (checkD ⟨id, ep, last, op⟩ known ⟨b0, b1, b2, b3, b4, b5, recs⟩ = c) := hc
 have HW0 := Lib.hid hW0
 have HRL := Lib.hid hrl
 clear hl hc hW0 hrl
 obtain ⟨B1, hB1⟩ : ∃ B, B = w.heap.size := ⟨_, rfl⟩
 obtain ⟨B2, hB2⟩ : ∃ B, B = w.heap.size + 1 := ⟨_, rfl⟩
 rw [← hB1] at HP0
 rw [← hB2] at HX0
 go_enter Try.func72, Try.ntmps72
 go_upto_region 1 with fail
 rw [← HW0.out, ← hB2, ← hB1]
 clear HW0 hB1 hB2
 have q0 := HP0.out.c0
 have q1 := HP0.out.c1
 have q2 := HP0.out.c2
 have q3 := HP0.out.c3
 have p0 := HX0.out.c0
 have p1 := HX0.out.c1
 have p2 := HX0.out.c2
 have p3 := HX0.out.c3
 have p4 := HX0.out.c4
 have p5 := HX0.out.c5
 have p6 := HX0.out.c6
 by_cases hm : b5 = 0
 · have hd1 : (b5 == 0) = true := by rw [hm]; rfl
   cases hkn : known
   · have HEND : Hid (c = (-1, 0)) := by show c = _; rw [← HC.out]; simp [checkD, hm, hkn]
     clear HC
     go_wp2
     go_ret2
     exact gives_pair HEND.out HB0.out
   · by_cases h1 : b2 < ep
     · have hd2 : decide (b2 < ep) = true := decide_eq_true h1
       have HEND : Hid (c = (-1, 14)) := by show c = _; rw [← HC.out]; simp [checkD, hm, hkn, h1]
       clear HC
       go_wp2
       go_ret2
       exact gives_pair HEND.out HB0.out
     · have hd2 : decide (b2 < ep) = false := decide_eq_false h1
       by_cases h2 : ep < b2
       · have hd3 : decide (ep < b2) = true := decide_eq_true h2
         by_cases h3 : 0 ≤ op
         · have hd4 : decide (0 ≤ op) = true := decide_eq_true h3
           have HEND : Hid (c = (-1, 16)) := by show c = _; rw [← HC.out]; simp [checkD, hm, hkn, h1, h2, h3]
           clear HC
           go_wp2
           go_ret2
           exact gives_pair HEND.out HB0.out
         · have hd4 : decide (0 ≤ op) = false := decide_eq_false h3
           by_cases h4 : b3 = 0
           · have hd5 : (b3 == 0) = true := by rw [h4]; rfl
             have HEND : Hid (c = (-1, 0)) := by show c = _; rw [← HC.out]; simp [checkD, hm, hkn, h1, h2, h3, h4]
             clear HC
             go_wp2
             go_ret2
             exact gives_pair HEND.out HB0.out
           · have hd5 : (b3 == 0) = false := beq_false_of_ne h4
             have HEND : Hid (c = (-1, 15)) := by show c = _; rw [← HC.out]; simp [checkD, hm, hkn, h1, h2, h3, h4]
             clear HC
             go_wp2
             go_ret2
             exact gives_pair HEND.out HB0.out
       · have hd3 : decide (ep < b2) = false := decide_eq_false h2
         have heq : b2 = ep := by omega
         obtain ⟨r, hr⟩ : ∃ r, dupL last b3 rn = r := ⟨_, rfl⟩
         have HRR : Hid ((if b2 = ep ∧ b5 = 0 then dupL last b3 rn else none) = r) := by show _ = _; rw [if_pos ⟨heq, hm⟩]; exact hr
         have HCC : Hid (c = dupC r last op b3 b4) := by
          show c = _
          rw [← HC.out, ← hr, ← HRL.out]
          simp [checkD, hm, hkn, h1, h2, dupC]
          cases dupL last b3 recs.length <;> rfl
         clear HC hr heq h1 h2 hm
         go_wp2_with fail
         refine (refDup_any W0 id ep op last ad n cap HL0.out hn b0 b1 b2 b3 b4 b5 rd rn rc hrn r HRR.out).mono ?_
         rintro e w1 ⟨rfl, hb1⟩
         have HB1 := Lib.hid hb1
         have HP1 := Lib.hid (HP0.out.on hb1)
         have HX1 := Lib.hid (HX0.out.on hb1)
         have HL1 := Lib.hid (HL0.out.keep hb1)
         have HBB := Lib.hid (HB0.out.trans (hb1.mono HB0.out.size))
         clear hb1 HRR q0 q1 q2 q3 p0 p1 p2 p3 p4 p5 p6
         cases r with
         | some v =>
           have HEND : Hid (c = (v, 0)) := HCC.out
           clear HCC
           simp only [Option.getD_some, Option.isSome_some]
           go_wp2
           go_ret2
           exact gives_pair HEND.out HBB.out
         | none =>
           simp only [Option.getD_none, Option.isSome_none]
           have HCD : Hid (c = (if last ≠ [] ∧ followsB (lastSeq last) b3 = false then (-1, 15) else if 0 ≤ op ∧ b4 = false then (-1, 16) else (-1, 0))) := HCC.out
           clear HCC
           have q0 := HP1.out.c0
           have q1 := HP1.out.c1
           have q2 := HP1.out.c2
           have q3 := HP1.out.c3
           have p0 := HX1.out.c0
           have p1 := HX1.out.c1
           have p2 := HX1.out.c2
           have p3 := HX1.out.c3
           have p4 := HX1.out.c4
           have p5 := HX1.out.c5
           have p6 := HX1.out.c6
           by_cases h0 : n = 0
           · subst h0
             have hln := HL1.out.length
             have HCE : Hid (c = (if 0 ≤ op ∧ b4 = false then (-1, 16) else (-1, 0))) := by
              show c = _
              rw [HCD.out, if_neg (fun h => h.1 (List.eq_nil_of_length_eq_zero hln))]
             clear hln HCD
             go_upto_region 23 with fail
             have hb1d : Below w1.heap.size w1 w1.drew := (Below.refl _ w1).drew
             refine wp_region_noPanic ?_
             refine wp_region_z [] (fun (W : World) => True) (by kernel_rfl) ?_
             have hHeld : (fun (W : World) => True) w1.drew := trivial
             obtain ⟨u0, hu0⟩ : ∃ u, u = w1.drew := ⟨_, rfl⟩
             rw [← hu0] at hb1d
             rw [← hu0]
             clear hu0
             have HU := Lib.hid hb1d
             clear hb1d
             refine zt 0 ?_
             refine zt 1 ?_
             refine zt 2 ?_
             refine zt 3 ?_
             refine zt 4 ?_
             refine zt 5 ?_
             refine zt 6 ?_
             refine zt 7 ?_
             refine zt 8 ?_
             refine zt 9 ?_
             refine zt 10 ?_
             refine zt 11 ?_
             refine zt 12 ?_
             refine zt 13 ?_
             refine zt 14 ?_
             refine wpAnyZ_done (by kernel_rfl) ?_ _
             refine NoPanic.normal ?_
             clear hHeld
             have hP := HP1.out.on HU.out
             have hX := HX1.out.on HU.out
             have HBU := Lib.hid (HBB.out.trans (HU.out.mono HBB.out.size))
             clear q0 q1 q2 q3 p0 p1 p2 p3 p4 p5 p6
             have q3 := hP.c3
             have p4 := hX.c4
             clear hP hX
             by_cases h3 : 0 ≤ op
             · have hd4 : decide (0 ≤ op) = true := decide_eq_true h3
               cases hb4 : b4
               · have HEND : Hid (c = (-1, 16)) := by show c = _; rw [HCE.out, if_pos ⟨h3, hb4⟩]
                 clear HCE
                 rw [hb4] at p4
                 go_wp2
                 go_ret2
                 exact gives_pair HEND.out HBU.out
               · have HEND : Hid (c = (-1, 0)) := by show c = _; rw [HCE.out, if_neg (fun h => by rw [hb4] at h; cases h.2)]
                 clear HCE
                 rw [hb4] at p4
                 go_wp2
                 go_ret2
                 exact gives_pair HEND.out HBU.out
             · have hd4 : decide (0 ≤ op) = false := decide_eq_false h3
               have HEND : Hid (c = (-1, 0)) := by show c = _; rw [HCE.out, if_neg (fun h => h3 h.1)]
               clear HCE
               go_wp2
               go_ret2
               exact gives_pair HEND.out HBU.out
           · obtain ⟨bk, off, x, rfl, hbk, hx, c0, c1, c2⟩ := tr_get HL1.out (i := n - 1) (by omega)
             have hlast : lastSeq last = x.l := by
              have hln := HL1.out.length
              unfold lastSeq
              rw [List.getLast?_eq_getElem?, hln, hx]
             have hne : last ≠ [] := fun h => by rw [h] at hx; cases hx
             obtain ⟨fo, hfo⟩ : ∃ fo, followsB x.l b3 = fo := ⟨_, rfl⟩
             have HFO := Lib.hid hfo
             have HCF : Hid (c = (if fo = false then (-1, 15) else if 0 ≤ op ∧ b4 = false then (-1, 16) else (-1, 0))) := by
              show c = _
              rw [HCD.out, hlast, hfo]
              simp [hne]
             clear HCD hlast hne hfo hx hbk
             have hn0 : decide ((0 : Int) < (n : Int)) = true := decide_eq_true (by omega)
             have hn00 : decide (0 < n) = true := decide_eq_true (by omega)
             have hnp : 0 < n := by omega
             have hi1 : (1 : Int) ≤ (n : Int) := by omega
             have hi2 : (n : Int) - 1 < (n : Int) := by omega
             have hi3 : ((n : Int) - 1).toNat = n - 1 := by omega
             have hi4 : IntKind.i64.wrap ((n : Int) - 1) = (n : Int) - 1 := IntWalk.i64_in _ (by omega)
             have KS : Hid (∀ W, Below w1.heap.size w1 W → (fun (W : World) => W.cell? ⟨B1, 0, none⟩ = some (.int .i64 id) ∧ W.cell? ⟨B1, 1, none⟩ = some (.int .i64 ep) ∧ W.cell? ⟨B1, 2, none⟩ = some (.slice (some ⟨bk, off, none⟩) n cap) ∧ W.cell? ⟨B1, 3, none⟩ = some (.int .i64 op) ∧ W.cell? ⟨B2, 0, none⟩ = some (.int .i64 b0) ∧ W.cell? ⟨B2, 1, none⟩ = some (.int .i64 b1) ∧ W.cell? ⟨B2, 2, none⟩ = some (.int .i64 b2) ∧ W.cell? ⟨B2, 3, none⟩ = some (.int .i64 b3) ∧ W.cell? ⟨B2, 4, none⟩ = some (.bool b4) ∧ W.cell? ⟨B2, 5, none⟩ = some (.int .i64 b5) ∧ W.cell? ⟨B2, 6, none⟩ = some (.slice rd rn rc) ∧ W.cell? ⟨bk, off + (n - 1) * 3 + 1, none⟩ = some (.int .i64 x.l)) W) := by
              intro W hW
              have hP := HP1.out.on hW
              have hX := HX1.out.on hW
              obtain ⟨bk', off', x', e', _, hx', _, c1', _⟩ := tr_get (HL1.out.keep hW) (i := n - 1) (by omega)
              cases e'
              refine ⟨hP.c0, hP.c1, hP.c2, hP.c3, hX.c0, hX.c1, hX.c2, hX.c3, hX.c4, hX.c5, hX.c6, ?_⟩
              rw [hW.cell (p := ⟨bk, off + (n - 1) * 3 + 1, none⟩) (World.block_lt_of_cell? _ _ c1)]
              exact c1
             have hb1d : Below w1.heap.size w1 w1.drew := (Below.refl _ w1).drew
             go_upto_region 23 with fail
             refine wp_region_noPanic ?_
             refine wp_region_z [] (fun (W : World) => W.cell? ⟨B1, 0, none⟩ = some (.int .i64 id) ∧ W.cell? ⟨B1, 1, none⟩ = some (.int .i64 ep) ∧ W.cell? ⟨B1, 2, none⟩ = some (.slice (some ⟨bk, off, none⟩) n cap) ∧ W.cell? ⟨B1, 3, none⟩ = some (.int .i64 op) ∧ W.cell? ⟨B2, 0, none⟩ = some (.int .i64 b0) ∧ W.cell? ⟨B2, 1, none⟩ = some (.int .i64 b1) ∧ W.cell? ⟨B2, 2, none⟩ = some (.int .i64 b2) ∧ W.cell? ⟨B2, 3, none⟩ = some (.int .i64 b3) ∧ W.cell? ⟨B2, 4, none⟩ = some (.bool b4) ∧ W.cell? ⟨B2, 5, none⟩ = some (.int .i64 b5) ∧ W.cell? ⟨B2, 6, none⟩ = some (.slice rd rn rc) ∧ W.cell? ⟨bk, off + (n - 1) * 3 + 1, none⟩ = some (.int .i64 x.l)) (by kernel_rfl) ?_
             have hHeld := KS.out _ hb1d
             obtain ⟨u0, hu0⟩ : ∃ u, u = w1.drew := ⟨_, rfl⟩
             rw [← hu0] at hHeld hb1d
             rw [← hu0]
             clear hu0
             have HU := Lib.hid hb1d
             clear hb1d
             refine zt 0 ?_
             refine zt 1 ?_
             refine zt 2 ?_
             refine zt 3 ?_
             refine zt 4 ?_
             refine zt 5 ?_
             refine zt 6 ?_
             refine zt 7 ?_
             refine zt 8 ?_
             refine zt 9 ?_
             refine zt 10 ?_
             refine zt 11 ?_
             refine zr 12 (fun C hC => ?_)
             go_simp
             refine (refFollows_any x.l b3 u0 fo HFO.out).mono ?_
             rintro e u1 ⟨rfl, rfl⟩
             go_wp2_with fail
             have hHeld : (fun (W : World) => W.cell? ⟨B1, 0, none⟩ = some (.int .i64 id) ∧ W.cell? ⟨B1, 1, none⟩ = some (.int .i64 ep) ∧ W.cell? ⟨B1, 2, none⟩ = some (.slice (some ⟨bk, off, none⟩) n cap) ∧ W.cell? ⟨B1, 3, none⟩ = some (.int .i64 op) ∧ W.cell? ⟨B2, 0, none⟩ = some (.int .i64 b0) ∧ W.cell? ⟨B2, 1, none⟩ = some (.int .i64 b1) ∧ W.cell? ⟨B2, 2, none⟩ = some (.int .i64 b2) ∧ W.cell? ⟨B2, 3, none⟩ = some (.int .i64 b3) ∧ W.cell? ⟨B2, 4, none⟩ = some (.bool b4) ∧ W.cell? ⟨B2, 5, none⟩ = some (.int .i64 b5) ∧ W.cell? ⟨B2, 6, none⟩ = some (.slice rd rn rc) ∧ W.cell? ⟨bk, off + (n - 1) * 3 + 1, none⟩ = some (.int .i64 x.l)) _ := hHeld
             refine zc hC hHeld ?_
             clear hC C
             refine zt 13 ?_
             refine zt 14 ?_
             refine wpAnyZ_done (by kernel_rfl) ?_ _
             refine NoPanic.normal ?_
             clear hHeld
             have hP := HP1.out.on HU.out
             have hX := HX1.out.on HU.out
             have HBU := Lib.hid (HBB.out.trans (HU.out.mono HBB.out.size))
             have q3 := hP.c3
             have p4 := hX.c4
             clear hP hX KS c0 c1 c2
             cases fo with
             | false =>
               have HEND : Hid (c = (-1, 15)) := HCF.out
               clear HCF
               go_wp2
               go_ret2
               exact gives_pair HEND.out HBU.out
             | true =>
               have HCE : Hid (c = (if 0 ≤ op ∧ b4 = false then (-1, 16) else (-1, 0))) := HCF.out
               clear HCF
               by_cases h3 : 0 ≤ op
               · have hd4 : decide (0 ≤ op) = true := decide_eq_true h3
                 cases hb4 : b4
                 · have HEND : Hid (c = (-1, 16)) := by show c = _; rw [HCE.out, if_pos ⟨h3, hb4⟩]
                   clear HCE
                   rw [hb4] at p4
                   go_wp2
                   go_ret2
                   exact gives_pair HEND.out HBU.out
                 · have HEND : Hid (c = (-1, 0)) := by show c = _; rw [HCE.out, if_neg (fun h => by rw [hb4] at h; cases h.2)]
                   clear HCE
                   rw [hb4] at p4
                   go_wp2
                   go_ret2
                   exact gives_pair HEND.out HBU.out
               · have hd4 : decide (0 ≤ op) = false := decide_eq_false h3
                 have HEND : Hid (c = (-1, 0)) := by show c = _; rw [HCE.out, if_neg (fun h => h3 h.1)]
                 clear HCE
                 go_wp2
                 go_ret2
                 exact gives_pair HEND.out HBU.out
 · have hd1 : (b5 == 0) = false := beq_false_of_ne hm
   cases hkn : known
   · have HEND : Hid (c = (-1, 16)) := by show c = _; rw [← HC.out]; simp [checkD, hm, hkn]
     clear HC
     go_wp2
     go_ret2
     exact gives_pair HEND.out HB0.out
   · by_cases h1 : b2 < ep
     · have hd2 : decide (b2 < ep) = true := decide_eq_true h1
       have HEND : Hid (c = (-1, 14)) := by show c = _; rw [← HC.out]; simp [checkD, hm, hkn, h1]
       clear HC
       go_wp2
       go_ret2
       exact gives_pair HEND.out HB0.out
     · have hd2 : decide (b2 < ep) = false := decide_eq_false h1
       by_cases h3 : op < 0
       · have hd4 : decide (op < 0) = true := decide_eq_true h3
         have HEND : Hid (c = (-1, 16)) := by show c = _; rw [← HC.out]; simp [checkD, hm, hkn, h1, h3]
         clear HC
         go_wp2
         go_ret2
         exact gives_pair HEND.out HB0.out
       · have hd4 : decide (op < 0) = false := decide_eq_false h3
         have HEND : Hid (c = (-1, 0)) := by show c = _; rw [← HC.out]; simp [checkD, hm, hkn, h1, h3]
         clear HC
         go_wp2
         go_ret2
         exact gives_pair HEND.out HB0.out
end Go.Proofs.Ytipaebflkebdjaa
namespace Go.Proofs.Ytipaebflkebdjaa
open Go.RowKit
set_option linter.unusedVariables false

section
variable {α : Type} {K : Kind α} {bytes : Nat} {w w' : World}
theorem add_block (a : Addr) (n : Nat) : (a.add n).block = a.block := by
 unfold Addr.add
 split <;> rfl
theorem Kind.Ok.elem (hK : K.Ok bytes) : Try.prog.elem K.sl = K.ty := by unfold Program.elem; rw [hK.und]
theorem Kind.Ok.sizeOf (hK : K.Ok bytes) (W : World) : (sizeOf (Try.prog.elem K.sl)).run Try.prog W = .ok K.size W := by
 obtain ⟨i, z, hi, _, hs, _, _⟩ := hK.info
 rw [hK.elem]
 simp [Go.sizeOf, typeInfo, hi, hs]
theorem row_upto (hK : K.Ok bytes) (ad : Option Addr) (len cap h : Nat) (hc : h ≤ cap) (W : World) :
 (Instr.slice K.sl (.slice ad len cap) none (some (.int .i64 (h : Int))) none).run Try.prog W = .ok (.slice ad h cap) W := by
 rw [run_slice_h _ _ _ _ _ (by rw [hK.elem]; exact hK.und) _ _ (by omega) (by omega), hK.sizeOf]
 simp only [Result.andThen, sliced, Int.toNat_natCast]
 rcases ad with _ | a
 · simp
 · simp [Addr.add]
theorem RowAt.take {ad : Option Addr} {len cap : Nat} {l : List α} (h : RowAt K w ad len cap l) (k : Nat) (hk : k ≤ len) : RowAt K w ad k cap (l.take k) := by
 have hl := h.length
 have hf := h.fits
 refine ⟨by rw [List.length_take]; omega, by omega, h.room, ?_⟩
 rcases h.cells with h0 | ⟨b, off, e, hlt, hc⟩
 · exact .inl (by omega)
 · refine .inr ⟨b, off, e, hlt, fun i x hi j u hj => hc i x ?_ j u hj⟩
   rw [List.getElem?_take] at hi
   split at hi
   · exact hi
   · cases hi
theorem row_from (hK : K.Ok bytes) {ad : Option Addr} {len cap : Nat} {l : List α} (h : RowAt K w ad len cap l) (k : Nat) (hk : k ≤ len) :
 ∃ ad' cap', (∀ W, (Instr.slice K.sl (.slice ad len cap) (some (.int .i64 (k : Int))) none none).run Try.prog W = .ok (.slice ad' (len - k) cap') W) ∧ RowAt K w ad' (len - k) cap' (l.drop k) ∧ (∀ a, ad' = some a → ∃ a0, ad = some a0 ∧ a.block = a0.block) := by
 have hl := h.length
 have hf := h.fits
 rcases ad with _ | ⟨b, off, x⟩
 · have hc := h.room rfl
   have hk0 : k = 0 := by omega
   have hl0 : len = 0 := by omega
   subst hk0 hl0 hc
   refine ⟨none, 0, fun W => ?_, ?_, fun a ha => by cases ha⟩
   · rw [run_slice_l _ _ _ _ _ (by rw [hK.elem]; exact hK.und) _ _ (by omega) (by omega), hK.sizeOf]
     simp [Result.andThen, sliced]
   · obtain rfl := List.eq_nil_of_length_eq_zero hl
     exact rowAt_nil w
 · refine ⟨some ((⟨b, off, x⟩ : Addr).add (if cap = k then 0 else k * K.size)), cap - k, fun W => ?_, ?_, fun a ha => ⟨_, rfl, by cases ha; exact add_block _ _⟩⟩
   · rw [run_slice_l _ _ _ _ _ (by rw [hK.elem]; exact hK.und) _ _ (by omega) (by omega), hK.sizeOf]
     simp only [Result.andThen, sliced, Int.toNat_natCast]
     by_cases h1 : cap = k
     · simp [h1, Addr.add]
     · simp [h1]
   · refine ⟨by rw [List.length_drop]; omega, by omega, (fun e => by cases e), ?_⟩
     by_cases h0 : len - k = 0
     · exact .inl h0
     · rcases h.cells with h1 | ⟨b', off', e, hlt, hc⟩
       · omega
       · cases e
         rw [if_neg (by omega), add_at]
         refine .inr ⟨b, off + k * K.size, rfl, hlt, fun i x hi j u hj => ?_⟩
         rw [List.getElem?_drop] at hi
         have := hc (k + i) x hi j u hj
         rw [Nat.add_mul] at this
         rw [show off + k * K.size + (i * K.size + j) = off + (k * K.size + i * K.size + j) by omega]
         exact this
theorem grow_one (w : World) (k j : Nat) (u : Value) : w.grownBy (w.setCell ⟨k, j, none⟩ u) (some k) := grow_set (grow_refl w (some k)) j u
theorem OwnRow.off {base k : Nat} {v : Value} {l : List α} (h : OwnRow K w base v l) (hk : k < base) (j : Nat) (u : Value) : OwnRow K (w.setCell ⟨k, j, none⟩ u) base v l :=
 h.grown (grow_one w k j u) fun q hq e => by have := (h.lt q hq).1; cases e; omega
theorem RowAt.off {ad : Option Addr} {len cap k : Nat} {l : List α} (h : RowAt K w ad len cap l) (hk : ∀ a, ad = some a → a.block ≠ k) (j : Nat) (u : Value) : RowAt K (w.setCell ⟨k, j, none⟩ u) ad len cap l :=
 h.grown (grow_one w k j u) fun a ha e => hk a ha (by cases e; rfl)
theorem RowAt.lt {ad : Option Addr} {len cap : Nat} {l : List α} (h : RowAt K w ad len cap l) (h0 : 0 < len) : ∀ a, ad = some a → a.block < w.heap.size := by
 intro a ha
 rcases h.cells with h1 | ⟨b, off, e, hlt, _⟩
 · omega
 · rw [ha] at e; cases e; exact hlt
/-- What is written into a block that is not older than all leaves the elder ones. -/
theorem OwnRow.row (hK : K.Ok bytes) {base n : Nat} {v : Value} {l : List α} (h : OwnRow K w base v l) (hn : l.length = n) : ∃ ad cap, v = .slice ad n cap ∧ RowAt K w ad n cap l ∧ (∀ a, ad = some a → base ≤ a.block ∧ a.block < w.heap.size) := by
 subst hn
 exact h.at hK
theorem appended_below {base B : Nat} {v v' : Value} {l m : List α} (hap : Appended K w base v l v' w') (ho : OwnRow K w base v m) {w0 : World} (hb : Below B w0 w) (hB : B ≤ base) (hs : B ≤ w.heap.size) : Below B w0 w' := by
 refine hb.grown hap.2.1 hs fun k hk => ?_
 have := (ho.lt k hk).1
 omega
end
end Go.Proofs.Ytipaebflkebdjaa
namespace Go.Proofs.Ytipaebflkebdjaa
open Go.RowKit
open Go.SeqMath
open Go.ProdMath
open Go.BatMath hiding AllB getD_lt take_all
set_option linter.unusedVariables false

/-- The four blocks of the walk: the producer and the batch that came in, the result, what is known so far. -/
structure AS (w : World) (po xo : Obj) (b1 b2 : Int) (v : Value) (o : Int) (W : World) : Prop where
 pb : W.heap[w.heap.size]? = some po
 xb : W.heap[w.heap.size + 1]? = some xo
 rb : PBox W (w.heap.size + 2) 0 0 (.slice none 0 0) 0
 ob : PBox W (w.heap.size + 3) b1 b2 v o
 bel : Below w.heap.size w W
section
variable {w W W' : World} {po xo : Obj} {b1 b2 o : Int} {v : Value}
theorem AS.s2 (h : AS w po xo b1 b2 v o W) (u : Value) : AS w po xo b1 b2 u o (W.setCell ⟨w.heap.size + 3, 2, none⟩ u) := ⟨box_off h.pb (by omega) _, box_off h.xb (by omega) _, h.rb.off (by omega) _, h.ob.s2 u, h.bel.setCell (Nat.le_add_right _ _) _⟩
theorem AS.s3 (h : AS w po xo b1 b2 v o W) (n : Int) : AS w po xo b1 b2 v n (W.setCell ⟨w.heap.size + 3, 3, none⟩ (.int .i64 n)) := ⟨box_off h.pb (by omega) _, box_off h.xb (by omega) _, h.rb.off (by omega) _, h.ob.s3 n, h.bel.setCell (Nat.le_add_right _ _) _⟩
theorem AS.on (h : AS w po xo b1 b2 v o W) (hb : Below W.heap.size W W') : AS w po xo b1 b2 v o W' := by
 have h1 := lt_of_block h.pb
 have h2 := lt_of_block h.xb
 exact ⟨by rw [hb.block _ h1]; exact h.pb, by rw [hb.block _ h2]; exact h.xb, h.rb.on hb, h.ob.on hb, h.bel.trans (hb.mono h.bel.size)⟩
theorem AS.grown (h : AS w po xo b1 b2 v o W) {r : Option Nat} (hg : W.grownBy W' r) (hr : ∀ k, r = some k → w.heap.size + 4 ≤ k) : AS w po xo b1 b2 v o W' := by
 have h1 := lt_of_block h.pb
 have h2 := lt_of_block h.xb
 refine ⟨by rw [hg.block _ h1 (fun e => by have := hr _ e.symm; omega)]; exact h.pb, by rw [hg.block _ h2 (fun e => by have := hr _ e.symm; omega)]; exact h.xb, h.rb.grown hg (fun e => by have := hr _ e; omega), h.ob.grown hg (fun e => by have := hr _ e; omega), h.bel.grown hg h.bel.size fun k hk => by have := hr k hk; omega⟩
theorem AS.lt (h : AS w po xo b1 b2 v o W) : w.heap.size + 4 ≤ W.heap.size := h.ob.lt
end
def GivesApply (w : World) (p : Pd) (e : Ending) (w' : World) : Prop :=
 ∃ ad n cap, e = .returned (.agg #[.int .i64 p.id, .int .i64 p.epoch, .slice ad n cap, .int .i64 p.opn]) ∧ RowAt trK w' ad n cap p.last ∧ (∀ a, ad = some a → w.heap.size ≤ a.block ∧ a.block < w'.heap.size) ∧ Below w.heap.size w w'
theorem resultsApply {tmps : Array Value} {B : Nat} {W : World} {b0 b1 b3 : Int} {v : Value} (h : PBox W B b0 b1 v b3) (ht : tmps.getD 6 undef = .pointer (some ⟨B, 0, none⟩)) :
 (results Try.f53 tmps).run Try.prog W = .ok (.agg #[.int .i64 b0, .int .i64 b1, v, .int .i64 b3]) W := by
 rw [results_cell_one (p := 6) (ty := 48) Try.results53, ht]
 have hl := run_loadVar_row (P := Try.prog) W B 48 48 _ (0, 0) _ h Try.underlying48 rfl (by kernel_rfl)
 simp only [asAddr, Sem.run_pure, Result.andThen, hl]
theorem gives_apply {w W : World} {po xo : Obj} {b1 b2 o : Int} {v : Value} {p : Pd} {ad : Option Addr} {n cap : Nat} {l : List Tr} {u0 u1 u2 u3 : Value} (h : AS w po xo b1 b2 v o W) (hp : p = ⟨b1, b2, l, o⟩) (hr : RowAt trK W ad n cap l) (hk : ∀ a, ad = some a → w.heap.size + 4 ≤ a.block ∧ a.block < W.heap.size) :
 GivesApply w p (.returned (.agg #[.int .i64 b1, .int .i64 b2, .slice ad n cap, .int .i64 o])) ((((W.setCell ⟨w.heap.size + 2, 0, none⟩ u0).setCell ⟨w.heap.size + 2, 1, none⟩ u1).setCell ⟨w.heap.size + 2, 2, none⟩ u2).setCell ⟨w.heap.size + 2, 3, none⟩ u3) := by
 subst hp
 have hk2 : ∀ a, ad = some a → a.block ≠ w.heap.size + 2 := fun a ha => by have := (hk a ha).1; omega
 refine ⟨ad, n, cap, rfl, (((hr.off hk2 _ _).off hk2 _ _).off hk2 _ _).off hk2 _ _, (fun a ha => ⟨by have := (hk a ha).1; omega, by rw [size_set, size_set, size_set, size_set]; exact (hk a ha).2⟩), ?_⟩
 exact (((h.bel.setCell (Nat.le_add_right _ _) _).setCell (Nat.le_add_right _ _) _).setCell (Nat.le_add_right _ _) _).setCell (Nat.le_add_right _ _) _
set_option maxRecDepth 100000 in
set_option maxHeartbeats 8000000 in
theorem refApply_any (w : World) (id ep op : Int) (last : List Tr) (ad : Option Addr) (n cap : Nat) (hl : RowAt trK w ad n cap last) (hn : n ≤ 1000000) (known : Bool) (b0 b1 b2 b3 : Int) (b4 : Bool) (b5 : Int) (recs : List Rc) (rd : Option Addr) (rn rc : Nat) (hrl : recs.length = rn) (hrn : rn ≤ 140737488355328) (p : Pd) (hp : applyD ⟨id, ep, last, op⟩ known ⟨b0, b1, b2, b3, b4, b5, recs⟩ = p) :
 Calls Try.prog 53 #[.agg #[.int .i64 id, .int .i64 ep, .slice ad n cap, .int .i64 op], .bool known, .agg #[.int .i64 b0, .int .i64 b1, .int .i64 b2, .int .i64 b3, .bool b4, .int .i64 b5, .slice rd rn rc]] w (GivesApply w p) := by
 obtain ⟨po, hpo⟩ : ∃ po : Obj, po = (.cells #[.int .i64 id, .int .i64 ep, .slice ad n cap, .int .i64 op] 48 (0, 0)) := ⟨_, rfl⟩
 obtain ⟨xo, hxo⟩ : ∃ xo : Obj, xo = (.cells #[.int .i64 b0, .int .i64 b1, .int .i64 b2, .int .i64 b3, .bool b4, .int .i64 b5, .slice rd rn rc] 52 (0, 0)) := ⟨_, rfl⟩
 obtain ⟨W0, hW0⟩ : ∃ W0, W0 = ((((w.alloc (.cells #[.int .i64 id, .int .i64 ep, .slice ad n cap, .int .i64 op] 48)).alloc (.cells #[.int .i64 b0, .int .i64 b1, .int .i64 b2, .int .i64 b3, .bool b4, .int .i64 b5, .slice rd rn rc] 52)).alloc (.cells #[.int .i64 0, .int .i64 0, .slice none 0 0, .int .i64 0] 48)).alloc (.cells #[.int .i64 b1, .int .i64 b2, .slice none 0 0, .int .i64 (-1)] 48)) := ⟨_, rfl⟩
 have HA0 : Hid (AS w po xo b1 b2 (.slice none 0 0) (-1) W0) := by
  show AS _ _ _ _ _ _ _ _
  rw [hW0, hpo, hxo]
  have e2 := Below.refl w.heap.size w
  refine ⟨?_, ?_, ?_, ?_, (((e2.alloc (Nat.le_refl _) _).alloc (by simp) _).alloc (by simp <;> omega) _).alloc (by simp <;> omega) _⟩
  · rw [heap_alloc_old _ _ (by simp <;> omega), heap_alloc_old _ _ (by simp <;> omega), heap_alloc_old _ _ (by simp)]
    (try exact heap_alloc_new w _)
  · rw [heap_alloc_old _ _ (by simp <;> omega), heap_alloc_old _ _ (by simp)]
    have := heap_alloc_new (w.alloc (.cells #[.int .i64 id, .int .i64 ep, .slice ad n cap, .int .i64 op] 48)) (.cells #[.int .i64 b0, .int .i64 b1, .int .i64 b2, .int .i64 b3, .bool b4, .int .i64 b5, .slice rd rn rc] 52)
    simpa using this
  · show (_ : World).heap[_]? = _
    rw [heap_alloc_old _ _ (by simp)]
    have := heap_alloc_new ((w.alloc (.cells #[.int .i64 id, .int .i64 ep, .slice ad n cap, .int .i64 op] 48)).alloc (.cells #[.int .i64 b0, .int .i64 b1, .int .i64 b2, .int .i64 b3, .bool b4, .int .i64 b5, .slice rd rn rc] 52)) (.cells #[.int .i64 0, .int .i64 0, .slice none 0 0, .int .i64 0] 48)
    simpa using this
  · have := pbox_new (((w.alloc (.cells #[.int .i64 id, .int .i64 ep, .slice ad n cap, .int .i64 op] 48)).alloc (.cells #[.int .i64 b0, .int .i64 b1, .int .i64 b2, .int .i64 b3, .bool b4, .int .i64 b5, .slice rd rn rc] 52)).alloc (.cells #[.int .i64 0, .int .i64 0, .slice none 0 0, .int .i64 0] 48)) b1 b2 (.slice none 0 0) (-1)
    simpa using this
 have HL0 := Lib.hid hl
 have HPP : Hid (applyD ⟨id, ep, last, op⟩ known ⟨b0, b1, b2, b3, b4, b5, recs⟩ = p) := hp
 have HRL := Lib.hid hrl
 have hpb : PBox W0 w.heap.size id ep (.slice ad n cap) op := by have := HA0.out.pb; rw [hpo] at this; exact this
 have hxb : BoxAt W0 (w.heap.size + 1) b0 b1 b2 b3 b4 b5 (.slice rd rn rc) := by have := HA0.out.xb; rw [hxo] at this; exact this
 have HXO := Lib.hid hxo
 have HPB := Lib.hid hpb
 have HXB := Lib.hid hxb
 clear hl hp hrl hpo hxo hpb hxb
 go_enter Try.func53, Try.ntmps53
 go_upto_if 13 with (fail)
 rw [← hW0]
 clear hW0
 obtain ⟨l0, hl0⟩ : ∃ l0, l0 = oldLast ⟨id, ep, last, op⟩ known ⟨b0, b1, b2, b3, b4, b5, recs⟩ := ⟨_, rfl⟩
 obtain ⟨o0, ho0⟩ : ∃ o0, o0 = oldOpen ⟨id, ep, last, op⟩ known := ⟨_, rfl⟩
 go_cut [] from 8 (fun wx => ∃ v, AS w po xo b1 b2 v o0 wx ∧ OwnRow trK wx (w.heap.size + 4) v l0)
 case first =>
  have q1 := HPB.out.c1
  have q2 := HPB.out.c2
  have q3 := HPB.out.c3
  have p2 := HXB.out.c2
  have o2 := HA0.out.ob.c2
  have o3 := HA0.out.ob.c3
  have f2 := HA0.out.ob.free 2
  have f3 := HA0.out.ob.free 3
  cases known
  · have e1 : l0 = [] := by rw [hl0]; simp [oldLast]
    have e2 : o0 = -1 := by rw [ho0]; simp [oldOpen]
    clear hl0 ho0
    go_wp2
    go_meet
    case rel => exact ⟨_, by rw [e2]; exact HA0.out, by rw [e1]; exact ownRow_nil _ _ _⟩
  · have e2 : o0 = op := by rw [ho0]; simp [oldOpen]
    by_cases hee : ep = b2
    · have hd : (ep == b2) = true := by rw [hee]; simp
      have e1 : l0 = last := by rw [hl0]; simp [oldLast, hee]
      have HE1 := Lib.hid e1
      have HE2 := Lib.hid e2
      clear hl0 ho0 hee e1 e2
      go_upto_region 5 with fail
      obtain ⟨W1, hW1⟩ : ∃ W1, W1 = W0.setCell ⟨w.heap.size + 3, 3, none⟩ (.int .i64 op) := ⟨_, rfl⟩
      have HA1 : Hid (AS w po xo b1 b2 (.slice none 0 0) op W1) := by show AS _ _ _ _ _ _ _ _; rw [hW1]; exact HA0.out.s3 op
      have HPB1 : Hid (PBox W1 w.heap.size id ep (.slice ad n cap) op) := by show PBox _ _ _ _ _ _; rw [hW1]; exact HPB.out.off (by omega) _
      rw [← hW1]
      clear hW1 q1 q2 q3 o2 o3 f2 f3
      have q2 := (HPB1.out.on ((Below.refl _ _).alloc (Nat.le_refl _) (.cells #[] 93))).c2
      have HAE : Hid (AS w po xo b1 b2 (.slice none 0 0) op (W1.alloc (.cells #[] 93))) := HA1.out.on ((Below.refl _ _).alloc (Nat.le_refl _) _)
      have HL1 := Lib.hid (HL0.out.keep HAE.out.bel)
      have HVE : Hid (OwnRow trK (W1.alloc (.cells #[] 93)) (w.heap.size + 4) (.slice (some ⟨W1.heap.size, 0, none⟩) 0 0) []) := ownRow_lit trK_ok W1 _ [] HA1.out.lt (by simp) _ rfl 0 rfl
      go_wp2_with (at_builtin; refine list_row (by rfl) trK_ok (.tmp 22) (.tmp 24) rfl (w.heap.size + 4) [] last _ rfl HVE.out HAE.out.lt ad n cap rfl HL1.out (by rw [List.length_nil]; omega) ?_)
      intro v2 w2 hap
      obtain ⟨ad2, cap2, hv2, _, _⟩ := OwnRow.row trK_ok (l := last) (n := n) hap.1 HL0.out.length
      subst hv2
      have HO2 : Hid (OwnRow trK w2 (w.heap.size + 4) (.slice ad2 n cap2) last) := hap.1
      have HA2 : Hid (AS w po xo b1 b2 (.slice none 0 0) op w2) := HAE.out.grown hap.2.1 fun k hk => (HVE.out.lt k hk).1
      clear hap HVE
      have o2 := HA2.out.ob.c2
      have f2 := HA2.out.ob.free 2
      go_wp2
      go_meet
      case rel => exact ⟨_, by rw [HE2.out]; exact HA2.out.s2 (.slice ad2 n cap2), by rw [HE1.out]; exact HO2.out.off (by omega) _ _⟩
    · have hd : (ep == b2) = false := beq_false_of_ne hee
      have e1 : l0 = [] := by rw [hl0]; simp [oldLast, hee]
      clear hl0 ho0 hee
      go_wp2
      go_meet
      case rel => exact ⟨_, by rw [e2]; exact HA0.out.s3 op, by rw [e1]; exact ownRow_nil _ _ _⟩
 case rest =>
  obtain ⟨v, ha, ho⟩ := hcut
  have HA := Lib.hid ha
  have HO := Lib.hid ho
  have hxb : BoxAt wc (w.heap.size + 1) b0 b1 b2 b3 b4 b5 (.slice rd rn rc) := by have := ha.xb; rw [HXO.out] at this; exact this
  have HXC := Lib.hid hxb
  clear hxb HPB HXB HA0
  have hn0 : l0.length ≤ 1000000 := by
   have hll := HL0.out.length
   rw [hl0]
   unfold oldLast
   split
   · show last.length ≤ _; omega
   · exact Nat.zero_le _
  have HPE1 : Hid (b5 ≠ 0 → p = ⟨b1, b2, l0, -1⟩) := by
   intro hm
   rw [← HPP.out, hl0]
   simp [applyD, hm]
  have HPE2 : Hid (b5 = 0 → ∀ oz, oz = (if b4 = true ∧ o0 < 0 then b0 else o0) → p = ⟨b1, b2, newLast l0 ⟨b3, lastI b3 rn, b0⟩, oz⟩) := by
   intro hm oz hoz
   rw [hoz, ← HPP.out, hl0, ho0, ← HRL.out]
   simp [applyD, hm]
  clear hl0 ho0 HPP HRL HL0 ha ho
  obtain ⟨n0, hln0⟩ : ∃ n0, l0.length = n0 := ⟨_, rfl⟩
  rw [hln0] at hn0
  obtain ⟨ad0, cap0, hv0, hr0, hk0⟩ := OwnRow.row trK_ok HO.out hln0
  subst hv0
  have HLN := Lib.hid hln0
  have HR0 := Lib.hid hr0
  have HK0 : Hid (∀ a, ad0 = some a → w.heap.size + 4 ≤ a.block ∧ a.block < wc.heap.size) := fun a ha => hk0 a ha
  clear hln0 hr0 hk0
  have p5 := HXC.out.c5
  by_cases hm : b5 = 0
  · have hd : (b5 == 0) = true := by rw [hm]; rfl
    have HPE : Hid (∀ oz, oz = (if b4 = true ∧ o0 < 0 then b0 else o0) → p = ⟨b1, b2, newLast l0 ⟨b3, lastI b3 rn, b0⟩, oz⟩) := HPE2.out hm
    obtain ⟨lv, hlv⟩ : ∃ lv, lastI b3 rn = lv := ⟨_, rfl⟩
    rw [hlv] at HPE
    have HLV := Lib.hid hlv
    clear HPE1 HPE2 hm hlv
    go_upto_region 9 with fail
    clear p5
    have KS : Hid (∀ W, AS w po xo b1 b2 (.slice ad0 n0 cap0) o0 W → (fun (W : World) => W.cell? ⟨(w.heap.size + 1), 0, none⟩ = some (.int .i64 b0) ∧ W.cell? ⟨(w.heap.size + 1), 1, none⟩ = some (.int .i64 b1) ∧ W.cell? ⟨(w.heap.size + 1), 2, none⟩ = some (.int .i64 b2) ∧ W.cell? ⟨(w.heap.size + 1), 3, none⟩ = some (.int .i64 b3) ∧ W.cell? ⟨(w.heap.size + 1), 4, none⟩ = some (.bool b4) ∧ W.cell? ⟨(w.heap.size + 1), 5, none⟩ = some (.int .i64 b5) ∧ W.cell? ⟨(w.heap.size + 1), 6, none⟩ = some (.slice rd rn rc) ∧ W.cell? ⟨(w.heap.size + 3), 0, none⟩ = some (.int .i64 b1) ∧ W.cell? ⟨(w.heap.size + 3), 1, none⟩ = some (.int .i64 b2) ∧ W.cell? ⟨(w.heap.size + 3), 2, none⟩ = some (.slice ad0 n0 cap0) ∧ W.cell? ⟨(w.heap.size + 3), 3, none⟩ = some (.int .i64 o0) ∧ W.frozen? ⟨w.heap.size + 3, 2, none⟩ = false) W) := by
     intro W hW
     have hX : BoxAt W (w.heap.size + 1) b0 b1 b2 b3 b4 b5 (.slice rd rn rc) := by have := hW.xb; rw [HXO.out] at this; exact this
     exact ⟨hX.c0, hX.c1, hX.c2, hX.c3, hX.c4, hX.c5, hX.c6, hW.ob.c0, hW.ob.c1, hW.ob.c2, hW.ob.c3, hW.ob.free 2⟩
    have hdr : Below wc.heap.size wc wc.drew := (Below.refl _ wc).drew
    have HAd := Lib.hid (HA.out.on hdr)
    have HOd := Lib.hid (HO.out.on hdr)
    refine wp_region_noPanic ?_
    refine wp_region_z [16] (fun (W : World) => W.cell? ⟨(w.heap.size + 1), 0, none⟩ = some (.int .i64 b0) ∧ W.cell? ⟨(w.heap.size + 1), 1, none⟩ = some (.int .i64 b1) ∧ W.cell? ⟨(w.heap.size + 1), 2, none⟩ = some (.int .i64 b2) ∧ W.cell? ⟨(w.heap.size + 1), 3, none⟩ = some (.int .i64 b3) ∧ W.cell? ⟨(w.heap.size + 1), 4, none⟩ = some (.bool b4) ∧ W.cell? ⟨(w.heap.size + 1), 5, none⟩ = some (.int .i64 b5) ∧ W.cell? ⟨(w.heap.size + 1), 6, none⟩ = some (.slice rd rn rc) ∧ W.cell? ⟨(w.heap.size + 3), 0, none⟩ = some (.int .i64 b1) ∧ W.cell? ⟨(w.heap.size + 3), 1, none⟩ = some (.int .i64 b2) ∧ W.cell? ⟨(w.heap.size + 3), 2, none⟩ = some (.slice ad0 n0 cap0) ∧ W.cell? ⟨(w.heap.size + 3), 3, none⟩ = some (.int .i64 o0) ∧ W.frozen? ⟨w.heap.size + 3, 2, none⟩ = false) (by kernel_rfl) ?_
    have hHeld := KS.out _ HAd.out
    obtain ⟨u0, hu0⟩ : ∃ u, u = wc.drew := ⟨_, rfl⟩
    rw [← hu0] at hHeld HAd HOd
    rw [← hu0]
    clear hu0
    refine zt 0 ?_
    refine zt 1 ?_
    refine zt 2 ?_
    refine zt 3 ?_
    refine zt 4 ?_
    refine zt 5 ?_
    refine zt 6 ?_
    refine zt 7 ?_
    refine zt 8 ?_
    refine zt 10 ?_
    refine zt 11 ?_
    refine zr 9 (fun C hC => ?_)
    go_simp
    refine (refLast_any b3 rn u0 lv hrn HLV.out).mono ?_
    rintro e u1 ⟨rfl, rfl⟩
    go_wp2_with fail
    have hHeld : (fun (W : World) => W.cell? ⟨(w.heap.size + 1), 0, none⟩ = some (.int .i64 b0) ∧ W.cell? ⟨(w.heap.size + 1), 1, none⟩ = some (.int .i64 b1) ∧ W.cell? ⟨(w.heap.size + 1), 2, none⟩ = some (.int .i64 b2) ∧ W.cell? ⟨(w.heap.size + 1), 3, none⟩ = some (.int .i64 b3) ∧ W.cell? ⟨(w.heap.size + 1), 4, none⟩ = some (.bool b4) ∧ W.cell? ⟨(w.heap.size + 1), 5, none⟩ = some (.int .i64 b5) ∧ W.cell? ⟨(w.heap.size + 1), 6, none⟩ = some (.slice rd rn rc) ∧ W.cell? ⟨(w.heap.size + 3), 0, none⟩ = some (.int .i64 b1) ∧ W.cell? ⟨(w.heap.size + 3), 1, none⟩ = some (.int .i64 b2) ∧ W.cell? ⟨(w.heap.size + 3), 2, none⟩ = some (.slice ad0 n0 cap0) ∧ W.cell? ⟨(w.heap.size + 3), 3, none⟩ = some (.int .i64 o0) ∧ W.frozen? ⟨w.heap.size + 3, 2, none⟩ = false) _ := hHeld
    refine zc hC hHeld ?_
    clear hC C
    refine zt 12 ?_
    refine zr 13 (fun C hC => ?_)
    go_simp
    obtain ⟨u1, hu1⟩ : ∃ u, u = u0.alloc (.cells #[.int .i64 b3, .int .i64 lv, .int .i64 b0] 93) := ⟨_, rfl⟩
    have hb1 : Below u0.heap.size u0 u1 := by rw [hu1]; exact (Below.refl _ _).alloc (Nat.le_refl _) _
    have HA1 := Lib.hid (HAd.out.on hb1)
    have HO1 := Lib.hid (HOd.out.on hb1)
    have HX1 : Hid (RowAt trK u1 (some ⟨u0.heap.size, 0, none⟩) 1 1 [⟨b3, lv, b0⟩]) := by show RowAt _ _ _ _ _ _; rw [hu1]; exact rowAt_lit trK_ok u0 [⟨b3, lv, b0⟩] (by simp) _ rfl 1 rfl
    obtain ⟨G0, hG0⟩ : ∃ G, G = u0.heap.size := ⟨_, rfl⟩
    rw [← hG0] at HX1
    rw [← hu1, ← hG0]
    clear hu1 hb1 hG0
    have hHeld := KS.out _ HA1.out
    refine zc hC hHeld ?_
    clear hC C
    refine zr 14 (fun C hC => ?_)
    refine held_row (by rfl) trK_ok (.tmp 33) (.tmp 45) rfl (w.heap.size + 4) l0 [⟨b3, lv, b0⟩] _ rfl HO1.out HA1.out.lt (some ⟨G0, 0, none⟩) 1 1 rfl HX1.out (by rw [HLN.out]; omega) ?_
    rintro v2 u2 hap
    obtain ⟨ad2, cap2, hv2, hr2, hk2⟩ := OwnRow.row trK_ok hap.1 (n := n0 + 1) (by rw [List.length_append, HLN.out]; rfl)
    subst hv2
    have HA2 : Hid (AS w po xo b1 b2 (.slice ad0 n0 cap0) o0 u2) := HA1.out.grown hap.2.1 fun k hk => (HO1.out.lt k hk).1
    have HR2 := Lib.hid hr2
    have HK2 : Hid (∀ a, ad2 = some a → w.heap.size + 4 ≤ a.block ∧ a.block < u2.heap.size) := fun a ha => hk2 a ha
    clear hap hr2 hk2 HO1 HA1 HX1
    have hHeld := KS.out _ HA2.out
    refine zc hC hHeld ?_
    clear hC C
    refine zt 15 ?_
    refine zr 16 (fun C hC => ?_)
    go_simp
    refine hC.out _ _ (zfree_no (by kernel_rfl)) (fun _ => ?_)
    clear hC C
    (try simp only [Act.put, List.setIfInBounds_toArray, List.set_cons_zero, List.set_cons_succ])
    refine wpAnyZ_done (by kernel_rfl) ?_ _
    refine NoPanic.normal ?_
    clear hHeld
    obtain ⟨w3, hw3⟩ : ∃ w3, w3 = u2.setCell ⟨w.heap.size + 3, 2, none⟩ (.slice ad2 (n0 + 1) cap2) := ⟨_, rfl⟩
    have HA3 : Hid (AS w po xo b1 b2 (.slice ad2 (n0 + 1) cap2) o0 w3) := by show AS _ _ _ _ _ _ _ _; rw [hw3]; exact HA2.out.s2 _
    have HR3 : Hid (RowAt trK w3 ad2 (n0 + 1) cap2 (l0 ++ [⟨b3, lv, b0⟩])) := by show RowAt _ _ _ _ _ _; rw [hw3]; exact HR2.out.off (fun a ha => by have := (HK2.out a ha).1; omega) _ _
    have HK3 : Hid (∀ a, ad2 = some a → w.heap.size + 4 ≤ a.block ∧ a.block < w3.heap.size) := fun a ha => by rw [hw3, size_set]; exact HK2.out a ha
    rw [show w.heap.size + 1 + 1 + 1 = w.heap.size + 3 from rfl, ← hw3]
    clear hw3 HA2 HR2 HA HAd HOd HR0 HK0 HXC HO HK2
    obtain ⟨k, hk⟩ : ∃ k, k = n0 + 1 - 5 := ⟨_, rfl⟩
    obtain ⟨ad4, cap4, hcut, hr4, hk4⟩ := row_from trK_ok HR3.out k (by omega)
    have hcut : ∀ W, (Instr.slice 46 (.slice ad2 (n0 + 1) cap2) (some (.int .i64 (k : Int))) none none).run Try.prog W = .ok (.slice ad4 (n0 + 1 - k) cap4) W := hcut
    have hmx : (if (n0 : Int) + 1 - 5 < 0 then 0 else (n0 : Int) + 1 - 5) = (k : Int) := by split <;> omega
    have HK4 : Hid (∀ a, ad4 = some a → w.heap.size + 4 ≤ a.block ∧ a.block < w3.heap.size) := fun a ha => by
     obtain ⟨a0, h0, h1⟩ := hk4 a ha
     rw [h1]; exact HK3.out a0 h0
    obtain ⟨l4, hl4⟩ : ∃ l4, l4 = (l0 ++ [(⟨b3, lv, b0⟩ : Tr)]).drop k := ⟨_, rfl⟩
    have HPF : Hid (∀ oz, oz = (if b4 = true ∧ o0 < 0 then b0 else o0) → p = ⟨b1, b2, l4, oz⟩) := by
     intro oz hoz
     rw [HPE.out oz hoz, hl4, hk]
     unfold newLast
     rw [HLN.out]
    rw [← hl4] at hr4
    have HR4 := Lib.hid hr4
    have HKK := Lib.hid hk
    clear hr4 hk4 hl4 HPE HR3 HK3 hk
    have o0_ := HA3.out.ob.c2
    have g2 := HA3.out.ob.free 2
    go_upto_region 11 with fail
    obtain ⟨n4, hn4⟩ : ∃ n4, n4 = n0 + 1 - k := ⟨_, rfl⟩
    rw [← hn4] at HR4
    rw [← hn4]
    obtain ⟨w4, hw4⟩ : ∃ w4, w4 = w3.setCell ⟨w.heap.size + 3, 2, none⟩ (.slice ad4 n4 cap4) := ⟨_, rfl⟩
    have HA4 : Hid (AS w po xo b1 b2 (.slice ad4 n4 cap4) o0 w4) := by show AS _ _ _ _ _ _ _ _; rw [hw4]; exact HA3.out.s2 _
    have HR5 : Hid (RowAt trK w4 ad4 n4 cap4 l4) := by show RowAt _ _ _ _ _ _; rw [hw4]; exact HR4.out.off (fun a ha => by have := (HK4.out a ha).1; omega) _ _
    have HK5 : Hid (∀ a, ad4 = some a → w.heap.size + 4 ≤ a.block ∧ a.block < w4.heap.size) := fun a ha => by rw [hw4, size_set]; exact HK4.out a ha
    rw [← hw4]
    clear hw4 HA3 HR4 HK4 hcut hmx hn4 o0_ g2 KS
    have hX : BoxAt w4 (w.heap.size + 1) b0 b1 b2 b3 b4 b5 (.slice rd rn rc) := by have := HA4.out.xb; rw [HXO.out] at this; exact this
    have p0 := hX.c0
    have p4 := hX.c4
    clear hX
    have oc0 := HA4.out.ob.c0
    have g0 := HA4.out.ob.free 0
    have r0 := HA4.out.rb.c0
    have f0 := HA4.out.rb.free 0
    have oc1 := HA4.out.ob.c1
    have g1 := HA4.out.ob.free 1
    have r1 := HA4.out.rb.c1
    have f1 := HA4.out.rb.free 1
    have oc2 := HA4.out.ob.c2
    have g2 := HA4.out.ob.free 2
    have r2 := HA4.out.rb.c2
    have f2 := HA4.out.rb.free 2
    have oc3 := HA4.out.ob.c3
    have g3 := HA4.out.ob.free 3
    have r3 := HA4.out.rb.c3
    have f3 := HA4.out.rb.free 3
    cases b4
    · have HP : Hid (p = ⟨b1, b2, l4, o0⟩) := HPF.out o0 (by simp)
      clear HPF
      go_wp2
      exact bodyPost_ret (resultsApply ((((HA4.out.rb.s0 b1).s1 b2).s2 (.slice ad4 n4 cap4)).s3 o0) rfl) rfl (gives_apply HA4.out HP.out HR5.out HK5.out)
    · by_cases hlt : o0 < 0
      · have hd9 : decide (o0 < 0) = true := decide_eq_true hlt
        have HP : Hid (p = ⟨b1, b2, l4, b0⟩) := HPF.out b0 (by simp [hlt])
        clear HPF hlt
        go_wp2
        exact bodyPost_ret (resultsApply (((((HA4.out.s3 b0).rb.s0 b1).s1 b2).s2 (.slice ad4 n4 cap4)).s3 b0) rfl) rfl (gives_apply (HA4.out.s3 b0) HP.out (HR5.out.off (fun a ha => by have := (HK5.out a ha).1; omega) _ _) (fun a ha => by rw [size_set]; exact HK5.out a ha))
      · have hd9 : decide (o0 < 0) = false := decide_eq_false hlt
        have HP : Hid (p = ⟨b1, b2, l4, o0⟩) := HPF.out o0 (by simp [hlt])
        clear HPF hlt
        go_wp2
        exact bodyPost_ret (resultsApply ((((HA4.out.rb.s0 b1).s1 b2).s2 (.slice ad4 n4 cap4)).s3 o0) rfl) rfl (gives_apply HA4.out HP.out HR5.out HK5.out)
  · have hd : (b5 == 0) = false := beq_false_of_ne hm
    have HPE := Lib.hid (HPE1.out hm)
    clear HPE1 HPE2 hm
    have oc0 := HA.out.ob.c0
    have g0 := HA.out.ob.free 0
    have r0 := HA.out.rb.c0
    have f0 := HA.out.rb.free 0
    have oc1 := HA.out.ob.c1
    have g1 := HA.out.ob.free 1
    have r1 := HA.out.rb.c1
    have f1 := HA.out.rb.free 1
    have oc2 := HA.out.ob.c2
    have g2 := HA.out.ob.free 2
    have r2 := HA.out.rb.c2
    have f2 := HA.out.rb.free 2
    have oc3 := HA.out.ob.c3
    have g3 := HA.out.ob.free 3
    have r3 := HA.out.rb.c3
    have f3 := HA.out.rb.free 3
    go_wp2
    exact bodyPost_ret (resultsApply (((((HA.out.s3 (-1)).rb.s0 b1).s1 b2).s2 (.slice ad0 n0 cap0)).s3 (-1)) rfl) rfl (gives_apply (HA.out.s3 (-1)) HPE.out (HR0.out.off (fun a ha => by have := (HK0.out a ha).1; omega) _ _) (fun a ha => by rw [size_set]; exact HK0.out a ha))
end Go.Proofs.Ytipaebflkebdjaa
namespace Go.Proofs.Ytipaebflkebdjaa
open Go.RowKit
open Go.SeqMath
open Go.ProdMath
open Go.BatMath hiding AllB getD_lt take_all
set_option linter.unusedVariables false

/-- A block that is a table. -/
def TabBox (w : World) (kt : Nat) (v : Value) : Prop := w.heap[kt]? = some (.cells #[v] 45 (0, 0))
section
variable {w w' : World} {kt : Nat} {v : Value}
theorem TabBox.c0 (h : TabBox w kt v) : w.cell? ⟨kt, 0, none⟩ = some v := by rw [cell_of_row _ _ 0 _ _ _ h]; rfl
theorem TabBox.free (h : TabBox w kt v) (j : Nat) : w.frozen? ⟨kt, j, none⟩ = false := frozen_of_row w kt j _ _ h
theorem TabBox.lt (h : TabBox w kt v) : kt < w.heap.size := lt_of_block h
theorem TabBox.on (h : TabBox w kt v) (hb : Below w.heap.size w w') : TabBox w' kt v := by
 have hlt := h.lt
 unfold TabBox at *
 rw [hb.block kt hlt]
 exact h
theorem TabBox.s0 (h : TabBox w kt v) (u : Value) : TabBox (w.setCell ⟨kt, 0, none⟩ u) kt u := box_set h 0 _
end
/-- A table of these producers. -/
structure TabAt (w : World) (kt : Nat) (ad : Option Addr) (len cap : Nat) (ms : List PM) : Prop where
 box : TabBox w kt (.slice ad len cap)
 pds : PdsAt w ad len cap ms
theorem TabAt.keep {w w' : World} {kt : Nat} {ad : Option Addr} {len cap : Nat} {ms : List PM} (h : TabAt w kt ad len cap ms) (hb : Below w.heap.size w w') : TabAt w' kt ad len cap ms := ⟨h.box.on hb, h.pds.keep hb⟩
def pds (ms : List PM) : List Pd := ms.map (·.p)
def GivesAt (w : World) (i : Nat) (b : Bool) (e : Ending) (w' : World) : Prop := e = .returned (.tuple #[.int .i64 (i : Int), .bool b]) ∧ Below w.heap.size w w'
theorem gives_at {w w' : World} {i j : Nat} {b c : Bool} (h1 : j = i) (h2 : c = b) (hb : Below w.heap.size w w') : GivesAt w i b (.returned (.tuple #[.int .i64 (j : Int), .bool c])) w' := ⟨by rw [h1, h2], hb⟩
theorem has_at {l : List Pd} {id : Int} {i : Nat} {p : Pd} (hi : atD l id = i) (hp : l[i]? = some p) : hasD l id = decide (p.id = id) := by unfold hasD; rw [hi, hp]
theorem has_end {l : List Pd} {id : Int} {i : Nat} (hi : atD l id = i) (hp : l.length ≤ i) : hasD l id = false := by unfold hasD; rw [hi, List.getElem?_eq_none hp]
set_option maxRecDepth 100000 in
set_option maxHeartbeats 4000000 in
theorem tabAt_any (w : World) (kt : Nat) (ad : Option Addr) (len cap : Nat) (ms : List PM) (h : TabAt w kt ad len cap ms) (hL : len ≤ 100000000000) (id : Int) :
 Calls Try.prog 51 #[.pointer (some ⟨kt, 0, none⟩), .int .i64 id] w (GivesAt w (atD (pds ms) id) (hasD (pds ms) id)) := by
 have H := Lib.hid h
 have hlen := h.pds.row.length
 obtain ⟨l, hl⟩ : ∃ l, l = pds ms := ⟨_, rfl⟩
 have hll : l.length = len := by rw [hl]; unfold pds; rw [List.length_map]; exact hlen
 have HGET : Hid (∀ (i : Nat) m, ms[i]? = some m → l[i]? = some m.p) := by
  intro i m hm
  rw [hl]; unfold pds
  rw [List.getElem?_map, hm]; rfl
 rw [← hl]
 clear h hl hlen
 go_enter Try.func51, Try.ntmps51
 go_wp2
 go_loopw [6] (fun v6 wr => ∃ i : Nat, v6 = .int .i64 (i : Int) ∧ i ≤ atD l id ∧ Below w.heap.size w wr) (fun v6 _ => len - (intOf v6).toNat)
 case atStart => exact ⟨0, rfl, Nat.zero_le _, Below.refl _ _⟩
 case round =>
  obtain ⟨i, rfl, hi, hbel⟩ := hrel
  have HB := Lib.hid hbel
  have HI := Lib.hid hi
  have hil : i ≤ len := by have := atD_le l id; omega
  clear hbel hi
  have HT := Lib.hid (H.out.keep HB.out)
  have t0 := HT.out.box.c0
  by_cases hlt : i < len
  · have hd : decide (i < len) = true := decide_eq_true hlt
    have hij : (i : Int) < (len : Int) := by omega
    obtain ⟨bk, off, m, rfl, hbk, hm, _, c0, _, _, _⟩ := HT.out.pds.get hlt
    have hp := HGET.out i m hm
    by_cases hid : m.p.id < id
    · have hd2 : decide (m.p.id < id) = true := decide_eq_true hid
      have HS : Hid (i + 1 ≤ atD l id) := (atD_step l id i m.p HI.out hp).1 hid
      clear hp hm hid
      go_wp2
      go_roundw
      case rel => exact ⟨i + 1, by go_num, HS.out, HB.out⟩
      case measure => simp [intOf]; omega
    · have hd2 : decide (m.p.id < id) = false := decide_eq_false hid
      have hat : atD l id = i := by
       have h1 := HI.out
       have h2 := atD_step l id i m.p HI.out hp
       have h3 : ¬ (i + 1 ≤ atD l id) := fun h => hid (h2.2 h)
       omega
      have HAT := Lib.hid hat
      have HHAS := Lib.hid (has_at hat hp)
      have KS : Hid (∀ W, Below wr.heap.size wr W → (fun (W : World) => W.cell? ⟨kt, 0, none⟩ = some (.slice (some ⟨bk, off, none⟩) len cap) ∧ W.cell? ⟨bk, off + i * 4, none⟩ = some (.int .i64 m.p.id)) W) := by
       intro W hW
       refine ⟨(HT.out.keep hW).box.c0, ?_⟩
       rw [hW.cell (p := ⟨bk, off + i * 4, none⟩) (World.block_lt_of_cell? _ _ c0)]
       exact c0
      have hb1d : Below wr.heap.size wr wr.drew := (Below.refl _ wr).drew
      clear hat hp hm hid hbk
      go_upto_region 4 with fail
      clear c0 t0
      refine wp_region_noPanic ?_
      refine wp_region_z [] (fun (W : World) => W.cell? ⟨kt, 0, none⟩ = some (.slice (some ⟨bk, off, none⟩) len cap) ∧ W.cell? ⟨bk, off + i * 4, none⟩ = some (.int .i64 m.p.id)) (by kernel_rfl) ?_
      have hHeld := KS.out _ hb1d
      obtain ⟨u0, hu0⟩ : ∃ u, u = wr.drew := ⟨_, rfl⟩
      rw [← hu0] at hHeld hb1d
      rw [← hu0]
      clear hu0
      have HU := Lib.hid hb1d
      clear hb1d
      refine zt 0 ?_
      refine zt 1 ?_
      refine zt 2 ?_
      refine zt 3 ?_
      refine zt 4 ?_
      refine zt 5 ?_
      refine zt 6 ?_
      refine zt 7 ?_
      refine zt 8 ?_
      refine zt 9 ?_
      refine zt 10 ?_
      refine zt 11 ?_
      refine zt 12 ?_
      refine zt 13 ?_
      refine zt 14 ?_
      refine zt 15 ?_
      refine zt 16 ?_
      refine zt 17 ?_
      refine zt 18 ?_
      refine zt 19 ?_
      refine zt 20 ?_
      refine zt 21 ?_
      refine wpAnyZ_done (by kernel_rfl) ?_ _
      refine NoPanic.normal ?_
      clear hHeld
      go_wp2
      go_ret2
      exact gives_at HAT.out.symm (by rw [HHAS.out, beq_dec]) (HB.out.trans (HU.out.mono HB.out.size))
  · have hd : decide (i < len) = false := decide_eq_false hlt
    have hat : atD l id = i := by have := atD_le l id; have := HI.out; omega
    have HAT := Lib.hid hat
    have HHAS := Lib.hid (has_end hat (by omega))
    have KS : Hid (∀ W, Below wr.heap.size wr W → (fun (W : World) => W.cell? ⟨kt, 0, none⟩ = some (.slice ad len cap)) W) := fun W hW => (HT.out.keep hW).box.c0
    have hb1d : Below wr.heap.size wr wr.drew := (Below.refl _ wr).drew
    clear hat
    go_upto_region 4 with fail
    clear t0
    refine wp_region_noPanic ?_
    refine wp_region_z [] (fun (W : World) => W.cell? ⟨kt, 0, none⟩ = some (.slice ad len cap)) (by kernel_rfl) ?_
    have hHeld := KS.out _ hb1d
    obtain ⟨u0, hu0⟩ : ∃ u, u = wr.drew := ⟨_, rfl⟩
    rw [← hu0] at hHeld hb1d
    rw [← hu0]
    clear hu0
    have HU := Lib.hid hb1d
    clear hb1d
    refine zt 0 ?_
    refine zt 1 ?_
    refine zt 2 ?_
    refine zt 3 ?_
    refine zt 4 ?_
    refine zt 5 ?_
    refine zt 6 ?_
    refine zt 7 ?_
    refine zt 8 ?_
    refine zt 9 ?_
    refine zt 10 ?_
    refine zt 11 ?_
    refine zt 12 ?_
    refine zt 13 ?_
    refine zt 14 ?_
    refine zt 15 ?_
    refine zt 16 ?_
    refine zt 17 ?_
    refine zt 18 ?_
    refine zt 19 ?_
    refine zt 20 ?_
    refine zt 21 ?_
    refine wpAnyZ_done (by kernel_rfl) ?_ _
    refine NoPanic.normal ?_
    clear hHeld
    go_wp2
    go_ret2
    exact gives_at HAT.out.symm HHAS.out.symm (HB.out.trans (HU.out.mono HB.out.size))
end Go.Proofs.Ytipaebflkebdjaa
