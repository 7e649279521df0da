/- Parts of a proof, merged: ProdMem, RegionZ, ProdDup. -/
import Derived.Deep.CutRange
import Derived.Deep.CutBlock
import Derived.Deep.RegionHeld3
import Derived.Test.YtinilkkpocnnpaaKb1
import Derived.Test.YtinilkkpocnnpaaKb2
import Derived.Test.YtinilkkpocnnpaaKb3
namespace Go.Proofs.Ytinilkkpocnnpaa
open Go.RowKit
open Go.SeqMath
open Go.ProdMath
open Go.BatMath hiding AllB getD_lt take_all
set_option linter.unusedVariables false

theorem infoTr : (Try.prog.info? 59).map (fun i => (i.zero, i.size, i.bytes)) = some (some (.agg #[.int .i64 0, .int .i64 0, .int .i64 0]), 3, 24) := by kernel_rfl
def trK : Kind Tr := ⟨fun x => [.int .i64 x.f, .int .i64 x.l, .int .i64 x.b], 3, 59, 38⟩
theorem trK_ok : trK.Ok 24 where
  und := Try.underlying38
  info := by
    obtain ⟨i, hi, hz, hs, hb⟩ := info_parts infoTr
    exact ⟨i, _, hi, hz, hs, hb, rfl⟩
  len := fun _ => rfl
  pos := by decide
  one := fun r u hu => by
    simp only [trK, List.mem_cons, List.not_mem_nil, or_false] at hu
    rcases hu with rfl | rfl | rfl <;> rfl
  few := by decide
theorem infoDr : (Try.prog.info? 80).map (fun i => (i.zero, i.size, i.bytes)) = some (some (.agg #[.int .i64 0, .int .i64 0, .int .i64 0]), 3, 24) := by kernel_rfl
def drK : Kind Dr := ⟨fun x => [.int .i64 x.prod, .int .i64 x.first, .int .i64 x.last], 3, 80, 62⟩
theorem drK_ok : drK.Ok 24 where
  und := Try.underlying62
  info := by
    obtain ⟨i, hi, hz, hs, hb⟩ := info_parts infoDr
    exact ⟨i, _, hi, hz, hs, hb, rfl⟩
  len := fun _ => rfl
  pos := by decide
  one := fun r u hu => by
    simp only [drK, List.mem_cons, List.not_mem_nil, or_false] at hu
    rcases hu with rfl | rfl | rfl <;> rfl
  few := by decide
/-- A producer, and where its latest batches lie. -/
structure PM where
  p : Pd
  ad : Option Addr
  cap : Nat
theorem infoPd : (Try.prog.info? 40).map (fun i => (i.zero, i.size, i.bytes)) = some (some (.agg #[.int .i64 0, .int .i64 0, .slice none 0 0, .int .i64 0]), 4, 48) := by kernel_rfl
def pdK : Kind PM := ⟨fun m => [.int .i64 m.p.id, .int .i64 m.p.epoch, .slice m.ad m.p.last.length m.cap, .int .i64 m.p.opn], 4, 40, 36⟩
theorem pdK_ok : pdK.Ok 48 where
  und := Try.underlying36
  info := by
    obtain ⟨i, hi, hz, hs, hb⟩ := info_parts infoPd
    exact ⟨i, _, hi, hz, hs, hb, rfl⟩
  len := fun _ => rfl
  pos := by decide
  one := fun r u hu => by
    simp only [pdK, List.mem_cons, List.not_mem_nil, or_false] at hu
    rcases hu with rfl | rfl | rfl | rfl <;> rfl
  few := by decide
/-- A batch, and where its records lie. -/
structure BM where
  b : Bat
  ad : Option Addr
  cap : Nat
theorem infoBat : (Try.prog.info? 33).map (fun i => (i.zero, i.size, i.bytes)) = some (some (.agg #[.int .i64 0, .int .i64 0, .int .i64 0, .int .i64 0, .bool false, .int .i64 0, .slice none 0 0]), 7, 72) := by kernel_rfl
def batK : Kind BM := ⟨fun m => [.int .i64 m.b.base, .int .i64 m.b.prod, .int .i64 m.b.epoch, .int .i64 m.b.seq, .bool m.b.txn, .int .i64 m.b.marker, .slice m.ad m.b.recs.length m.cap], 7, 33, 28⟩
theorem batK_ok : batK.Ok 72 where
  und := Try.underlying28
  info := by
    obtain ⟨i, hi, hz, hs, hb⟩ := info_parts infoBat
    exact ⟨i, _, hi, hz, hs, hb, rfl⟩
  len := fun _ => rfl
  pos := by decide
  one := fun r u hu => by
    simp only [batK, List.mem_cons, List.not_mem_nil, or_false] at hu
    rcases hu with rfl | rfl | rfl | rfl | rfl | rfl | rfl <;> rfl
  few := by decide
/-- A producer's latest batches in memory. -/
abbrev LastAt (w : World) (m : PM) : Prop := RowAt trK w m.ad m.p.last.length m.cap m.p.last
abbrev RecAt (w : World) (m : BM) : Prop := RecsAt w m.ad m.b.recs.length m.cap m.b.recs
def LastsAt (w : World) (ms : List PM) : Prop := ∀ m ∈ ms, LastAt w m
def RecssAt (w : World) (ms : List BM) : Prop := ∀ m ∈ ms, RecAt w m
theorem LastsAt.keep {w w' : World} {ms : List PM} (h : LastsAt w ms) (hb : Below w.heap.size w w') : LastsAt w' ms := fun m hm => (h m hm).keep hb
theorem RecssAt.keep {w w' : World} {ms : List BM} (h : RecssAt w ms) (hb : Below w.heap.size w w') : RecssAt w' ms := fun m hm => (h m hm).keep hb
/-- Producers, batches in a slice. -/
structure PdsAt (w : World) (ad : Option Addr) (len cap : Nat) (ms : List PM) : Prop where
  row : RowAt pdK w ad len cap ms
  ins : LastsAt w ms
theorem PdsAt.keep {w w' : World} {ad : Option Addr} {len cap : Nat} {ms : List PM} (h : PdsAt w ad len cap ms) (hb : Below w.heap.size w w') : PdsAt w' ad len cap ms := ⟨h.row.keep hb, h.ins.keep hb⟩
structure BatsAt (w : World) (ad : Option Addr) (len cap : Nat) (ms : List BM) : Prop where
  row : RowAt batK w ad len cap ms
  ins : RecssAt w ms
theorem BatsAt.keep {w w' : World} {ad : Option Addr} {len cap : Nat} {ms : List BM} (h : BatsAt w ad len cap ms) (hb : Below w.heap.size w w') : BatsAt w' ad len cap ms := ⟨h.row.keep hb, h.ins.keep hb⟩
/-- The cells of the batch at i. -/
theorem BatsAt.get {w : World} {ad : Option Addr} {len cap : Nat} {ms : List BM} (h : BatsAt w ad len cap ms) {i : Nat} (hi : i < len) :
    ∃ b off m, ad = some ⟨b, off, none⟩ ∧ b < w.heap.size ∧ ms[i]? = some m ∧ RecAt w m ∧ w.cell? ⟨b, off + i * 7, none⟩ = some (.int .i64 m.b.base) ∧ w.cell? ⟨b, off + i * 7 + 1, none⟩ = some (.int .i64 m.b.prod) ∧ w.cell? ⟨b, off + i * 7 + 2, none⟩ = some (.int .i64 m.b.epoch) ∧ w.cell? ⟨b, off + i * 7 + 3, none⟩ = some (.int .i64 m.b.seq) ∧ w.cell? ⟨b, off + i * 7 + 4, none⟩ = some (.bool m.b.txn) ∧ w.cell? ⟨b, off + i * 7 + 5, none⟩ = some (.int .i64 m.b.marker) ∧ w.cell? ⟨b, off + i * 7 + 6, none⟩ = some (.slice m.ad m.b.recs.length m.cap) := by
  obtain ⟨b, off, m, e, hb, hm, hc⟩ := h.row.get hi
  exact ⟨b, off, m, e, hb, hm, h.ins m (List.mem_of_getElem? hm), hc 0 _ rfl, hc 1 _ rfl, hc 2 _ rfl, hc 3 _ rfl, hc 4 _ rfl, hc 5 _ rfl, hc 6 _ rfl⟩
theorem PdsAt.get {w : World} {ad : Option Addr} {len cap : Nat} {ms : List PM} (h : PdsAt w ad len cap ms) {i : Nat} (hi : i < len) :
    ∃ b off m, ad = some ⟨b, off, none⟩ ∧ b < w.heap.size ∧ ms[i]? = some m ∧ LastAt w m ∧ w.cell? ⟨b, off + i * 4, none⟩ = some (.int .i64 m.p.id) ∧ w.cell? ⟨b, off + i * 4 + 1, none⟩ = some (.int .i64 m.p.epoch) ∧ w.cell? ⟨b, off + i * 4 + 2, none⟩ = some (.slice m.ad m.p.last.length m.cap) ∧ w.cell? ⟨b, off + i * 4 + 3, none⟩ = some (.int .i64 m.p.opn) := by
  obtain ⟨b, off, m, e, hb, hm, hc⟩ := h.row.get hi
  exact ⟨b, off, m, e, hb, hm, h.ins m (List.mem_of_getElem? hm), hc 0 _ rfl, hc 1 _ rfl, hc 2 _ rfl, hc 3 _ rfl⟩
theorem tr_get {w : World} {ad : Option Addr} {len cap : Nat} {l : List Tr} (h : RowAt trK w ad len cap l) {i : Nat} (hi : i < len) :
    ∃ b off x, ad = some ⟨b, off, none⟩ ∧ b < w.heap.size ∧ l[i]? = some x ∧ w.cell? ⟨b, off + i * 3, none⟩ = some (.int .i64 x.f) ∧ w.cell? ⟨b, off + i * 3 + 1, none⟩ = some (.int .i64 x.l) ∧ w.cell? ⟨b, off + i * 3 + 2, none⟩ = some (.int .i64 x.b) := by
  obtain ⟨b, off, m, e, hb, hm, hc⟩ := h.get hi
  exact ⟨b, off, m, e, hb, hm, hc 0 _ rfl, hc 1 _ rfl, hc 2 _ rfl⟩
/-- A block that is one producer; three numbers. -/
def PBox (w : World) (k : Nat) (b0 b1 : Int) (v : Value) (b3 : Int) : Prop := w.heap[k]? = some (.cells #[.int .i64 b0, .int .i64 b1, v, .int .i64 b3] 40 (0, 0))
section
variable {w w' : World} {k : Nat} {b0 b1 b3 : Int} {v : Value}
theorem PBox.c0 (h : PBox w k b0 b1 v b3) : w.cell? ⟨k, 0, none⟩ = some (.int .i64 b0) := by rw [cell_of_row _ _ 0 _ _ _ h]; rfl
theorem PBox.c1 (h : PBox w k b0 b1 v b3) : w.cell? ⟨k, 1, none⟩ = some (.int .i64 b1) := by rw [cell_of_row _ _ 1 _ _ _ h]; rfl
theorem PBox.c2 (h : PBox w k b0 b1 v b3) : w.cell? ⟨k, 2, none⟩ = some v := by rw [cell_of_row _ _ 2 _ _ _ h]; rfl
theorem PBox.c3 (h : PBox w k b0 b1 v b3) : w.cell? ⟨k, 3, none⟩ = some (.int .i64 b3) := by rw [cell_of_row _ _ 3 _ _ _ h]; rfl
theorem PBox.free (h : PBox w k b0 b1 v b3) (j : Nat) : w.frozen? ⟨k, j, none⟩ = false := frozen_of_row w k j _ _ h
theorem PBox.lt (h : PBox w k b0 b1 v b3) : k < w.heap.size := lt_of_block h
theorem PBox.keep {B : Nat} (h : PBox w k b0 b1 v b3) (hb : Below B w w') (hk : k < B) : PBox w' k b0 b1 v b3 := by
  unfold PBox at *
  rw [hb.block k hk]
  exact h
theorem PBox.on (h : PBox w k b0 b1 v b3) (hb : Below w.heap.size w w') : PBox w' k b0 b1 v b3 := h.keep hb h.lt
theorem PBox.s0 (h : PBox w k b0 b1 v b3) (n : Int) : PBox (w.setCell ⟨k, 0, none⟩ (.int .i64 n)) k n b1 v b3 := box_set h 0 _
theorem PBox.s1 (h : PBox w k b0 b1 v b3) (n : Int) : PBox (w.setCell ⟨k, 1, none⟩ (.int .i64 n)) k b0 n v b3 := box_set h 1 _
theorem PBox.s2 (h : PBox w k b0 b1 v b3) (u : Value) : PBox (w.setCell ⟨k, 2, none⟩ u) k b0 b1 u b3 := box_set h 2 _
theorem PBox.s3 (h : PBox w k b0 b1 v b3) (n : Int) : PBox (w.setCell ⟨k, 3, none⟩ (.int .i64 n)) k b0 b1 v n := box_set h 3 _
theorem PBox.off (h : PBox w k b0 b1 v b3) {j i : Nat} (hj : j ≠ k) (u : Value) : PBox (w.setCell ⟨j, i, none⟩ u) k b0 b1 v b3 := box_off h hj u
theorem PBox.grown {r : Option Nat} (h : PBox w k b0 b1 v b3) (hg : w.grownBy w' r) (hr : r ≠ some k) : PBox w' k b0 b1 v b3 := by
  have hlt := h.lt
  unfold PBox at *
  rw [hg.block k hlt (fun e => hr e.symm)]
  exact h
theorem pbox_new (w : World) (b0 b1 : Int) (v : Value) (b3 : Int) : PBox (w.alloc (.cells #[.int .i64 b0, .int .i64 b1, v, .int .i64 b3] 40)) w.heap.size b0 b1 v b3 := heap_alloc_new w _
theorem BoxAt.grows {b2 : Int} {b4 : Bool} {b5 : Int} {r : Option Nat} (h : BoxAt w k b0 b1 b2 b3 b4 b5 v) (hg : w.grownBy w' r) (hr : r ≠ some k) : BoxAt w' k b0 b1 b2 b3 b4 b5 v := by
  have hlt := h.lt
  unfold BoxAt at *
  rw [hg.block k hlt (fun e => hr e.symm)]
  exact h
end
theorem beq_dec (a b : Int) : (a == b) = decide (a = b) := by
  by_cases h : a = b
  · subst h; simp
  · rw [decide_eq_false h]; exact beq_false_of_ne h
theorem beq_dec2 (a b : Int) : (a == b) = decide (b = a) := by
  rw [beq_dec]
  by_cases h : a = b
  · subst h; rfl
  · rw [decide_eq_false h, decide_eq_false (fun e => h e.symm)]
theorem refAdd_any (n k : Int) (w : World) (v : Int) (k0 : 0 ≤ k) (k1 : k ≤ 1000000) (hv : addI n k = v) :
    Calls Try.prog 62 #[.int .i64 n, .int .i64 k] w fun e w' => e = .returned (.int .i64 v) ∧ w = w' := by
  rcases hr : rightB n with _ | _
  · have HV : Hid (v = -1) := by show _ = _; rw [← hv, add_no hr]
    have HR := Lib.hid hr
    clear hv hr
    go_enter Try.func62, Try.ntmps62
    go_wp2_with (go_at_call 61; refine (refSeq_any n _ false HR.out).mono ?_; rintro e w' ⟨rfl, rfl⟩)
    go_ret
    exact ⟨by rw [HV.out]; rfl, rfl⟩
  · obtain ⟨n0, n1⟩ := of_right hr
    have HV : Hid ((n + k) % 2147483648 = v) := by show _ = _; rw [← hv, add_yes n0 n1]
    have HR := Lib.hid hr
    clear hv hr
    go_enter Try.func62, Try.ntmps62
    go_wp2_with (go_at_call 61; refine (refSeq_any n _ true HR.out).mono ?_; rintro e w' ⟨rfl, rfl⟩)
    go_ret
    exact ⟨by show Ending.returned (.int .i64 (((n + k) % 2147483648 + 2147483648) % 2147483648)) = _; rw [← HV.out]; congr 2; omega, rfl⟩
theorem refLast_any (n : Int) (c : Nat) (w : World) (v : Int) (hc : c ≤ 140737488355328) (hv : lastI n c = v) :
    Calls Try.prog 44 #[.int .i64 n, .int .i64 (c : Int)] w fun e w' => e = .returned (.int .i64 v) ∧ w = w' := by
  by_cases h1 : c < 1
  · have HV : Hid (v = -1) := by show _ = _; rw [← hv, last_no (.inl (by omega))]
    have hd : decide ((c : Int) < 1) = true := decide_eq_true (by omega)
    clear hv
    go_enter Try.func44, Try.ntmps44
    go_wp2
    go_ret
    exact ⟨by rw [HV.out]; rfl, rfl⟩
  · have hd : decide ((c : Int) < 1) = false := decide_eq_false (by omega)
    by_cases h2 : 16 < c
    · have HV : Hid (v = -1) := by show _ = _; rw [← hv, last_no (.inr (by omega))]
      have hd2 : decide ((16 : Int) < (c : Int)) = true := decide_eq_true (by omega)
      clear hv
      go_enter Try.func44, Try.ntmps44
      go_wp2
      go_ret
      exact ⟨by rw [HV.out]; rfl, rfl⟩
    · have hd2 : decide ((16 : Int) < (c : Int)) = false := decide_eq_false (by omega)
      have HV : Hid (addI n ((c : Int) - 1) = v) := by show _ = _; rw [← hv, last_yes (by omega) (by omega)]
      clear hv
      go_enter Try.func44, Try.ntmps44
      go_wp2_with fail
      refine (refAdd_any n _ w v (by omega) (by omega) HV.out).mono ?_
      rintro e w' ⟨rfl, rfl⟩
      go_wp2
      go_ret
      exact ⟨rfl, rfl⟩
theorem refFollows_any (l f : Int) (w : World) (r : Bool) (hr : followsB l f = r) :
    Calls Try.prog 43 #[.int .i64 l, .int .i64 f] w fun e w' => e = .returned (.bool r) ∧ w = w' := by
  by_cases h1 : l = -1
  · subst h1
    have HV : Hid (decide (f = 0) = r) := by show _ = _; rw [← hr, follows_none]
    clear hr
    go_enter Try.func43, Try.ntmps43
    go_wp2
    go_ret
    exact ⟨by rw [← HV.out, ← beq_dec]; rfl, rfl⟩
  · have hd : (l == -1) = false := by simp [h1]
    rcases hs : rightB l with _ | _
    · have HV : Hid (r = false) := by show _ = _; rw [← hr, follows_no h1 hs]
      have HS := Lib.hid hs
      clear hr hs h1
      go_enter Try.func43, Try.ntmps43
      go_wp2_with (go_at_call 61; refine (refSeq_any l _ false HS.out).mono ?_; rintro e w' ⟨rfl, rfl⟩)
      go_ret
      exact ⟨by rw [HV.out]; rfl, rfl⟩
    · obtain ⟨n0, n1⟩ := of_right hs
      have HV : Hid (decide (f = addI l 1) = r) := by show _ = _; rw [← hr, follows_yes n0 n1]
      have HS := Lib.hid hs
      obtain ⟨v, hv⟩ : ∃ v, addI l 1 = v := ⟨_, rfl⟩
      rw [hv] at HV
      have HA := Lib.hid hv
      clear hr hs hv h1
      go_enter Try.func43, Try.ntmps43
      go_wp2_with (first | (go_at_call 61; refine (refSeq_any l _ true HS.out).mono ?_; rintro e w' ⟨rfl, rfl⟩) | (go_at_call 62; refine (refAdd_any l 1 _ v (by omega) (by omega) HA.out).mono ?_; rintro e w' ⟨rfl, rfl⟩))
      go_ret
      exact ⟨by rw [← HV.out, ← beq_dec2]; rfl, rfl⟩
end Go.Proofs.Ytinilkkpocnnpaa
namespace Go.Proofs.Ytinilkkpocnnpaa
open Go
set_option linter.unusedVariables false

section
variable {P : Program} {ops : Array Oper} {Q : Exit → Act → World → Prop} {md : Region.Mode} {S : World → Prop} {Z : List Nat}
/-- What has come up came up behind what it waits for. -/
def Closed (md : Region.Mode) (ops : Array Oper) (L : Array Bool) : Prop := ∀ j o, ops[j]? = some o → L.getD j false = true → ∀ e ∈ o.after, Region.binds md e = true → L.getD e.on false = true
def closedB (md : Region.Mode) (ops : Array Oper) (L : Array Bool) : Bool := (List.range ops.size).all fun j => !(L.getD j false) || match ops[j]? with | some o => o.after.all fun e => !(Region.binds md e) || L.getD e.on false | none => true
theorem closed_of {L : Array Bool} (h : closedB md ops L = true) : Closed md ops L := by
  intro j o ho hl e he hb
  have hj : j < ops.size := (Array.getElem?_eq_some_iff.1 ho).1
  have h1 := List.all_eq_true.1 h j (List.mem_range.2 hj)
  rw [hl, ho] at h1
  simp only [Bool.not_true, Bool.false_or, Array.all_eq_true'] at h1
  have h2 := h1 e he
  rw [hb] at h2
  simpa using h2
/-- Does z wait for i, by some steps? -/
def waitsB (md : Region.Mode) (ops : Array Oper) (i : Nat) : Nat → Nat → Bool
  | 0, _ => false
  | n + 1, z => match ops[z]? with | some o => o.after.any fun e => Region.binds md e && (e.on == i || waitsB md ops i n e.on) | none => false
theorem waits_closed {i : Nat} {L : Array Bool} (hc : Closed md ops L) : ∀ (n z : Nat), waitsB md ops i n z = true → L.getD z false = true → L.getD i false = true
  | 0, z, h, _ => by cases h
  | n + 1, z, h, hz => by
    unfold waitsB at h
    cases ho : ops[z]? with
    | none => rw [ho] at h; cases h
    | some o =>
      rw [ho] at h
      obtain ⟨e, he, h1⟩ := Array.any_eq_true'.1 h
      rw [Bool.and_eq_true, Bool.or_eq_true] at h1
      have h2 := hc z o ho hz e he h1.1
      rcases h1.2 with h3 | h3
      · rw [beq_iff_eq] at h3; rw [← h3]; exact h2
      · exact waits_closed hc n _ h3 h2
/-- None of Z has come up. -/
def ZFree (Z : List Nat) (L : Array Bool) : Prop := ∀ z ∈ Z, L.getD z false = false
/-- Whatever order is picked from here on; S holds behind every operation as long as none of Z has come up. -/
def wpAnyZ (P : Program) (md : Region.Mode) (ops : Array Oper) (Q : Exit → Act → World → Prop) (Z : List Nat) (S : World → Prop) : Nat → Array Bool → Act → World → Prop
  | 0, listed, a, w => Region.ready md ops listed = [] ∧ Q .normal a w
  | fuel + 1, listed, a, w =>
    (Region.ready md ops listed = [] → Q .normal a w) ∧
    ∀ i ∈ Region.ready md ops listed, wpOp P ops Q i (fun a' w' => (ZFree Z (listed.setIfInBounds i true) → S w') ∧ wpAnyZ P md ops Q Z S fuel (listed.setIfInBounds i true) a' w') a w
theorem wpAny_of_z : ∀ (fuel : Nat) (listed : Array Bool) (a : Act) (w : World), wpAnyZ P md ops Q Z S fuel listed a w → wpAny P md ops Q fuel listed a w
  | 0, _, _, _, h => h
  | fuel + 1, _, _, _, h => ⟨h.1, fun i hi => wpOp_mono (fun a' w' h' => wpAny_of_z fuel _ a' w' h'.2) (h.2 i hi)⟩
theorem closed_step {j : Nat} {L : Array Bool} (hc : Closed md ops L) (hj : j ∈ Region.ready md ops L) : Closed md ops (L.setIfInBounds j true) := by
  intro k o ho hl e he hb
  by_cases hkj : j = k
  · subst hkj
    obtain ⟨_, o', ho', hall⟩ := mem_ready.1 hj
    rw [ho] at ho'
    cases ho'
    exact getD_set_true (hall e he hb)
  · rw [getD_set_ne false hkj] at hl
    exact getD_set_true (hc k o ho hl e he hb)
theorem unlisted {i : Nat} {L : Array Bool} (h : L.getD i true = false) : L.getD i false = false := by
  rcases Nat.lt_or_ge i L.size with h' | h'
  · simp [h'] at h ⊢; exact h
  · simp [Array.getElem?_eq_none h'] at h
theorem wpAnyZ_first {i n : Nat} {oi : Oper} {v : Value} (hi : ops[i]? = some oi) (hsel : ∀ (j : Nat) (o : Oper) cs b, ops[j]? = some o → o.op ≠ .select cs b)
    (hQ : ∀ c a w, Q (.panic c) (a.put oi.dst v) w → Q (.panic c) a w) (hz : ∀ z ∈ Z, waitsB md ops i n z = true) (hiz : i ∉ Z) :
    ∀ (fuel : Nat) (listed : Array Bool) (a : Act) (w : World),
      (∀ j oj, ops[j]? = some oj → j ≠ i → listed.getD j true = false → (∀ e ∈ oj.after, Region.binds md e = true → e.on ≠ i) → oi.apart ops oj = true) →
      i ∈ Region.ready md ops listed → Closed md ops listed → YieldsIf P ops S oi v a → S w →
      wpAnyZ P md ops Q Z S fuel (listed.setIfInBounds i true) (a.put oi.dst v) w → wpAnyZ P md ops Q Z S (fuel + 1) listed a w := by
  have free : ∀ L, Closed md ops L → L.getD i true = false → ZFree Z L := fun L hc hu z hzZ => by
    cases hzl : L.getD z false
    · rfl
    · have := waits_closed hc n z (hz z hzZ) hzl
      rw [unlisted hu] at this
      cases this
  intro fuel
  induction fuel with
  | zero =>
    intro listed a w _ hr _ hy hS H
    refine ⟨fun h => (by rw [h] at hr; cases hr), fun j hj => ?_⟩
    by_cases hji : j = i
    · subst hji; exact hy.wpOp hi hS ⟨fun _ => hS, H⟩
    · have := ready_mono hj hji
      rw [H.1] at this
      cases this
  | succ fuel ih =>
    intro listed a w hfree hr hc hy hS H
    refine ⟨fun h => (by rw [h] at hr; cases hr), fun j hj => ?_⟩
    by_cases hji : j = i
    · subst hji; exact hy.wpOp hi hS ⟨fun _ => hS, H⟩
    · have h1 := H.2 j (ready_mono hj hji)
      obtain ⟨hjun, oj, hoj, hall⟩ := mem_ready.1 hj
      have hnot : ∀ e ∈ oj.after, Region.binds md e = true → e.on ≠ i := fun e he hb heq => by
        have h1 := hall e he hb
        have h0 := (mem_ready.1 hr).1
        rw [heq] at h1
        rw [unlisted h0] at h1
        cases h1
      have h2 := wpOp_putIf hoj (hfree j oj hoj hji hjun hnot) (fun cs b => hsel i oi cs b hi) (fun cs b => hsel j oj cs b hoj) hQ hy h1
      have hfree' : ∀ k ok, ops[k]? = some ok → k ≠ i → (listed.setIfInBounds j true).getD k true = false →
          (∀ e ∈ ok.after, Region.binds md e = true → e.on ≠ i) → oi.apart ops ok = true := fun k ok hk hki hun hno => by
        refine hfree k ok hk hki ?_ hno
        by_cases hjk : j = k
        · subst hjk; exact hjun
        · rw [getD_set_ne true hjk] at hun; exact hun
      have hr' := ready_mono hr (Ne.symm hji)
      have hc' := closed_step hc hj
      have hzf := free _ hc' (mem_ready.1 hr').1
      have hzf2 : ZFree Z ((listed.setIfInBounds i true).setIfInBounds j true) := fun z hzZ => by
        have hne : i ≠ z := fun e => hiz (e ▸ hzZ)
        rw [Array.setIfInBounds_comm _ _ (Ne.symm hji), getD_set_ne false hne]
        exact hzf z hzZ
      refine wpOp_mono (fun a' w' h3 => ⟨fun _ => h3.2.1 hzf2, ih (listed.setIfInBounds j true) a' w' hfree' hr' hc' h3.1 (h3.2.1 hzf2) ?_⟩) h2
      rw [Array.setIfInBounds_comm _ _ hji]
      exact h3.2.2
theorem wpAnyZ_take {i : Nat} {oi : Oper} {v : Value} {fuel : Nat} {listed : Array Bool} {a : Act} {w : World} (hi : ops[i]? = some oi)
    (hs : Region.noSelect ops = true) (hf : Region.free md ops listed i = true) (hr : (Region.ready md ops listed).contains i = true) (hc : closedB md ops listed = true) (hz : (Z.all fun z => waitsB md ops i 12 z && !(z == i)) = true)
    (hQ : ∀ c a w, Q (.panic c) (a.put oi.dst v) w → Q (.panic c) a w) (hy : YieldsIf P ops S oi v a) (hS : S w)
    (h : wpAnyZ P md ops Q Z S fuel (listed.setIfInBounds i true) (a.put oi.dst v) w) : wpAnyZ P md ops Q Z S (fuel + 1) listed a w := by
  have hz' := List.all_eq_true.1 hz
  refine wpAnyZ_first (n := 12) hi (Region.noSelect_spec hs) hQ (fun z hzZ => ?_) (fun hiZ => ?_) fuel listed a w (Region.free_spec hi hf) (by simpa using hr) (closed_of hc) hy hS h
  · have := hz' z hzZ; rw [Bool.and_eq_true] at this; exact this.1
  · have := hz' i hiZ; simp at this
/-- Each of the operations 'rs' comes up next. -/
def AllReadyZ (P : Program) (md : Region.Mode) (ops : Array Oper) (Q : Exit → Act → World → Prop) (Z : List Nat) (S : World → Prop) (fuel : Nat) (listed : Array Bool) (a : Act) (w : World) (rs : List Nat) : Prop :=
  ∀ i ∈ rs, wpOp P ops Q i (fun a' w' => (ZFree Z (listed.setIfInBounds i true) → S w') ∧ wpAnyZ P md ops Q Z S fuel (listed.setIfInBounds i true) a' w') a w
theorem AllReadyZ.nil {fuel : Nat} {listed : Array Bool} {a : Act} {w : World} : AllReadyZ P md ops Q Z S fuel listed a w [] := fun _ h => by cases h
theorem AllReadyZ.cons {fuel : Nat} {listed : Array Bool} {a : Act} {w : World} {i : Nat} {o : Oper} {rs : List Nat} (ho : ops[i]? = some o)
    (h : ∀ K' : Act → World → Prop, Shut (∀ a w, (ZFree Z (listed.setIfInBounds i true) → S w) → ((ZFree Z (listed.setIfInBounds i true) → S w) → wpAnyZ P md ops Q Z S fuel (listed.setIfInBounds i true) a w) → K' a w) → if Region.wanted o (yielded ops a.tmps) = true then Oper.wp P o a w K' Q else K' (a.put o.dst undef) w)
    (hs : AllReadyZ P md ops Q Z S fuel listed a w rs) : AllReadyZ P md ops Q Z S fuel listed a w (i :: rs) := fun j hj => by
  rcases List.mem_cons.1 hj with rfl | hj
  · exact wpOp_step ho (fun K' hK => h K' (fun a w hS hW => hK a w ⟨hS, hW hS⟩))
  · exact hs j hj
theorem wpAnyZ_ready {rs : List Nat} {fuel : Nat} {listed : Array Bool} {a : Act} {w : World} (hr : Region.ready md ops listed = rs) (hne : rs ≠ [])
    (h : AllReadyZ P md ops Q Z S fuel listed a w rs) : wpAnyZ P md ops Q Z S (fuel + 1) listed a w :=
  ⟨fun h0 => absurd (hr ▸ h0) hne, by rw [hr]; exact h⟩
theorem wpAnyZ_done {listed : Array Bool} {a : Act} {w : World} (hr : Region.ready md ops listed = []) (h : Q .normal a w) :
    ∀ fuel, wpAnyZ P md ops Q Z S fuel listed a w
  | 0 => ⟨hr, h⟩
  | _ + 1 => ⟨fun _ => h, by rw [hr]; simp⟩
theorem wp_region_z {id : Nat} {a : Act} {w : World} (Z : List Nat) (S : World → Prop) (hm : P.follows .mixedOrders = true)
    (h : wpAnyZ P .any ops Q Z S ops.size (Array.replicate ops.size false) a w.drew) : (Code.region id ops true).wp P Q a w :=
  wp_region_any hm (wpAny_of_z _ _ _ _ h)
theorem wpAnyZ_strengthen {S' : World → Prop} (h : ∀ w, S' w → S w) :
    ∀ (fuel : Nat) (listed : Array Bool) (a : Act) (w : World), wpAnyZ P md ops Q Z S' fuel listed a w → wpAnyZ P md ops Q Z S fuel listed a w
  | 0, _, _, _, hh => hh
  | fuel + 1, _, _, _, hh => ⟨hh.1, fun i hi => wpOp_mono (fun _ _ hk => ⟨fun hz => h _ (hk.1 hz), wpAnyZ_strengthen h fuel _ _ _ hk.2⟩) (hh.2 i hi)⟩
/-- One way alone is left, and one operation: it turns the worlds as it likes. -/
theorem zfree_no {i : Nat} {listed : Array Bool} {Z : List Nat} {p : Prop} (h : (Z.contains i && decide (i < listed.size)) = true) : ZFree Z (listed.setIfInBounds i true) → p := by
  intro hz
  rw [Bool.and_eq_true] at h
  have := hz i (by simpa using h.1)
  have hlt : i < listed.size := of_decide_eq_true h.2
  simp [hlt] at this
end
end Go.Proofs.Ytinilkkpocnnpaa
namespace Go.Proofs.Ytinilkkpocnnpaa
open Go.RowKit
open Go.SeqMath
open Go.ProdMath
open Go.BatMath hiding AllB getD_lt take_all
set_option linter.unusedVariables false

/-- Three numbers in a block. -/
def TBox (w : World) (k : Nat) (x : Tr) : Prop := w.heap[k]? = some (.cells #[.int .i64 x.f, .int .i64 x.l, .int .i64 x.b] 59 (0, 0))
theorem TBox.c0 {w : World} {k : Nat} {x : Tr} (h : TBox w k x) : w.cell? ⟨k, 0, none⟩ = some (.int .i64 x.f) := by rw [cell_of_row _ _ 0 _ _ _ h]; rfl
theorem TBox.c1 {w : World} {k : Nat} {x : Tr} (h : TBox w k x) : w.cell? ⟨k, 1, none⟩ = some (.int .i64 x.l) := by rw [cell_of_row _ _ 1 _ _ _ h]; rfl
theorem TBox.c2 {w : World} {k : Nat} {x : Tr} (h : TBox w k x) : w.cell? ⟨k, 2, none⟩ = some (.int .i64 x.b) := by rw [cell_of_row _ _ 2 _ _ _ h]; rfl
theorem TBox.on {w w' : World} {k : Nat} {x : Tr} (h : TBox w k x) (hb : Below w.heap.size w w') : TBox w' k x := by
  have hlt := lt_of_block h
  unfold TBox at *
  rw [hb.block k hlt]
  exact h
theorem tbox_new (w : World) (x : Tr) : TBox (w.alloc (.cells #[.int .i64 x.f, .int .i64 x.l, .int .i64 x.b] 59)) w.heap.size x := heap_alloc_new w _
def GivesDup (w : World) (r : Option Int) (e : Ending) (w' : World) : Prop := e = .returned (.tuple #[.int .i64 (r.getD (-1)), .bool r.isSome]) ∧ Below w.heap.size w w'
theorem gives_dup_none {w w' : World} {r : Option Int} (h : r = none) (hb : Below w.heap.size w w') : GivesDup w r (.returned (.tuple #[.int .i64 (-1), .bool false])) w' := ⟨by rw [h]; rfl, hb⟩
theorem gives_dup_some {w w' : World} {r : Option Int} {v : Int} (h : r = some v) (hb : Below w.heap.size w w') : GivesDup w r (.returned (.tuple #[.int .i64 v, .bool true])) w' := ⟨by rw [h]; rfl, hb⟩
set_option maxRecDepth 100000 in
set_option maxHeartbeats 4000000 in
theorem refDup_any (w : World) (id ep op : Int) (last : List Tr) (ad : Option Addr) (n cap : Nat) (hl : RowAt trK w ad n cap last) (hn : n ≤ 100000000000) (b0 b1 b2 b3 : Int) (b4 : Bool) (b5 : Int) (rd : Option Addr) (rn rc : Nat) (hrn : rn ≤ 140737488355328) (r : Option Int) (hr : (if b2 = ep ∧ b5 = 0 then dupL last b3 rn else none) = r) :
    Calls Try.prog 26 #[.agg #[.int .i64 id, .int .i64 ep, .slice ad n cap, .int .i64 op], .agg #[.int .i64 b0, .int .i64 b1, .int .i64 b2, .int .i64 b3, .bool b4, .int .i64 b5, .slice rd rn rc]] w (GivesDup w r) := by
  obtain ⟨W0, hW0⟩ : ∃ W0, W0 = ((w.alloc (.cells #[.int .i64 id, .int .i64 ep, .slice ad n cap, .int .i64 op] 40)).alloc (.cells #[.int .i64 b0, .int .i64 b1, .int .i64 b2, .int .i64 b3, .bool b4, .int .i64 b5, .slice rd rn rc] 33)) := ⟨_, rfl⟩
  have HB0 : Hid (Below w.heap.size w W0) := by show Below _ _ _; rw [hW0]; exact ((Below.refl _ _).alloc (Nat.le_refl _) _).alloc (by simp) _
  have HP0 : Hid (PBox W0 w.heap.size id ep (.slice ad n cap) op) := by
    show PBox _ _ _ _ _ _
    rw [hW0]
    exact (pbox_new w id ep (.slice ad n cap) op).keep ((Below.refl _ _).alloc (Nat.le_refl _) _) (by simp)
  have HX0 : Hid (BoxAt W0 (w.heap.size + 1) b0 b1 b2 b3 b4 b5 (.slice rd rn rc)) := by
    show BoxAt _ _ _ _ _ _ _ _ _
    rw [hW0]
    have := boxAt_new (w.alloc (.cells #[.int .i64 id, .int .i64 ep, .slice ad n cap, .int .i64 op] 40)) b0 b1 b2 b3 b4 b5 (.slice rd rn rc)
    simpa using this
  have HL0 := Lib.hid (hl.keep HB0.out)
  have HR := Lib.hid hr
  have HW0 := Lib.hid hW0
  clear hl hr hW0
  obtain ⟨B1, hB1⟩ : ∃ B, B = w.heap.size := ⟨_, rfl⟩
  obtain ⟨B2, hB2⟩ : ∃ B, B = w.heap.size + 1 := ⟨_, rfl⟩
  rw [← hB1] at HP0
  rw [← hB2] at HX0
  go_enter Try.func26, Try.ntmps26
  go_upto_region 1 with fail
  rw [← HW0.out, ← hB2, ← hB1]
  clear HW0 hB1 hB2
  have q0 := HP0.out.c0
  have q1 := HP0.out.c1
  have q2 := HP0.out.c2
  have q3 := HP0.out.c3
  have p2 := HX0.out.c2
  have p5 := HX0.out.c5
  by_cases he : b2 = ep
  · have hd1 : (b2 == ep) = true := by rw [he]; simp
    by_cases hm : b5 = 0
    · have hd2 : (b5 == 0) = true := by rw [hm]; rfl
      have HRR : Hid (dupL (last.drop 0) b3 rn = r) := by show _ = _; rw [← HR.out, if_pos ⟨he, hm⟩]; rfl
      clear HR he hm
      go_wp2
      go_loopw [21] (fun v21 wr => ∃ j : Nat, v21 = .int .i64 (j : Int) ∧ j ≤ n ∧ dupL (last.drop j) b3 rn = r ∧ Below W0.heap.size W0 wr) (fun v21 _ => n - (intOf v21).toNat)
      case atStart => exact ⟨0, rfl, Nat.zero_le _, HRR.out, Below.refl _ _⟩
      case round =>
        obtain ⟨j, rfl, hj, hdu, hbel⟩ := hrel
        have HD := Lib.hid hdu
        have HB := Lib.hid hbel
        clear hdu hbel HRR q0 q1 q2 q3 p2 p5
        obtain ⟨wo, hwo⟩ : ∃ wo : World, wo = wr := ⟨_, rfl⟩
        subst hwo
        by_cases hlt : j < n
        · have hd3 : decide (j < n) = true := decide_eq_true hlt
          have hjn : (j : Int) < (n : Int) := by omega
          obtain ⟨bk, off, x, rfl, hbk, hx, c0, c1, c2⟩ := tr_get (HL0.out.keep HB.out) hlt
          have hdrop : last.drop j = x :: last.drop (j + 1) := by
            obtain ⟨hjl, hxe⟩ := List.getElem?_eq_some_iff.1 hx
            rw [List.drop_eq_getElem_cons hjl, hxe]
          have HDR := Lib.hid hdrop
          clear hdrop hx hbk
          go_upto_region 5 with fail
          obtain ⟨W1, hW1⟩ : ∃ W1, W1 = wo.alloc (.cells #[.int .i64 x.f, .int .i64 x.l, .int .i64 x.b] 59) := ⟨_, rfl⟩
          have HB1 : Hid (Below W0.heap.size W0 W1) := by show Below _ _ _; rw [hW1]; exact HB.out.alloc HB.out.size _
          obtain ⟨K, hK⟩ : ∃ K, K = wo.heap.size := ⟨_, rfl⟩
          have HT1 : Hid (TBox W1 K x) := by show TBox _ _ _; rw [hW1, hK]; exact tbox_new wo x
          have HX1 := Lib.hid (HX0.out.on HB1.out)
          rw [← hW1, ← hK]
          clear hW1 hK c0 c1 c2 HB
          have KS : Hid (∀ W, Below W1.heap.size W1 W → (fun W => W.cell? ⟨K, 0, none⟩ = some (.int .i64 x.f) ∧ W.cell? ⟨K, 1, none⟩ = some (.int .i64 x.l) ∧ W.cell? ⟨K, 2, none⟩ = some (.int .i64 x.b) ∧ W.cell? ⟨B2, 0, none⟩ = some (.int .i64 b0) ∧ W.cell? ⟨B2, 1, none⟩ = some (.int .i64 b1) ∧ W.cell? ⟨B2, 2, none⟩ = some (.int .i64 b2) ∧ W.cell? ⟨B2, 3, none⟩ = some (.int .i64 b3) ∧ W.cell? ⟨B2, 4, none⟩ = some (.bool b4) ∧ W.cell? ⟨B2, 5, none⟩ = some (.int .i64 b5) ∧ W.cell? ⟨B2, 6, none⟩ = some (.slice rd rn rc) ∧ Below W1.heap.size W1 W) W) := by
            intro W hW
            have hX := HX1.out.on hW
            have hT := HT1.out.on hW
            exact ⟨hT.c0, hT.c1, hT.c2, hX.c0, hX.c1, hX.c2, hX.c3, hX.c4, hX.c5, hX.c6, hW⟩
          have hb1d : Below W1.heap.size W1 W1.drew := (Below.refl _ W1).drew
          by_cases hf : x.f = b3
          · have hd4 : (x.f == b3) = true := by rw [hf]; simp
            obtain ⟨lv, hlv⟩ : ∃ lv, lastI b3 rn = lv := ⟨_, rfl⟩
            have HLV := Lib.hid hlv
            by_cases hll : x.l = lv
            · have hd5 : (x.l == lv) = true := by rw [hll]; simp
              have HEND : Hid (r = some x.b) := by
                show r = _
                rw [← HD.out, HDR.out, dup_hit]
                unfold hitB
                rw [hf, hlv, hll]
                simp
              clear hlv
              refine wp_region_noPanic ?_
              refine wp_region_z [] (fun W => W.cell? ⟨K, 0, none⟩ = some (.int .i64 x.f) ∧ W.cell? ⟨K, 1, none⟩ = some (.int .i64 x.l) ∧ W.cell? ⟨K, 2, none⟩ = some (.int .i64 x.b) ∧ W.cell? ⟨B2, 0, none⟩ = some (.int .i64 b0) ∧ W.cell? ⟨B2, 1, none⟩ = some (.int .i64 b1) ∧ W.cell? ⟨B2, 2, none⟩ = some (.int .i64 b2) ∧ W.cell? ⟨B2, 3, none⟩ = some (.int .i64 b3) ∧ W.cell? ⟨B2, 4, none⟩ = some (.bool b4) ∧ W.cell? ⟨B2, 5, none⟩ = some (.int .i64 b5) ∧ W.cell? ⟨B2, 6, none⟩ = some (.slice rd rn rc) ∧ Below W1.heap.size W1 W) (by kernel_rfl) ?_
              have hHeld : (fun W => W.cell? ⟨K, 0, none⟩ = some (.int .i64 x.f) ∧ W.cell? ⟨K, 1, none⟩ = some (.int .i64 x.l) ∧ W.cell? ⟨K, 2, none⟩ = some (.int .i64 x.b) ∧ W.cell? ⟨B2, 0, none⟩ = some (.int .i64 b0) ∧ W.cell? ⟨B2, 1, none⟩ = some (.int .i64 b1) ∧ W.cell? ⟨B2, 2, none⟩ = some (.int .i64 b2) ∧ W.cell? ⟨B2, 3, none⟩ = some (.int .i64 b3) ∧ W.cell? ⟨B2, 4, none⟩ = some (.bool b4) ∧ W.cell? ⟨B2, 5, none⟩ = some (.int .i64 b5) ∧ W.cell? ⟨B2, 6, none⟩ = some (.slice rd rn rc) ∧ Below W1.heap.size W1 W) _ := KS.out _ hb1d
              obtain ⟨u0, hu0⟩ : ∃ u, u = W1.drew := ⟨_, rfl⟩
              rw [← hu0] at hHeld hb1d
              rw [← hu0]
              clear hu0
              have HU0 := Lib.hid hb1d
              clear hb1d
              refine wpAnyZ_take (i := 0) (oi := ⟨_, _, _, _, _, _⟩) (v := ?_) rfl (by kernel_rfl) (by kernel_rfl) (by kernel_rfl) (by kernel_rfl) (by kernel_rfl) (fun _ _ _ h => h) (Or.inl ⟨by rfl, ?_⟩) (by assumption) ?_
              rotate_left
              · intro W hSw
                (try dsimp only at hSw)
                go_simp
                (try with_reducible rfl)
              (try simp only [Act.put, List.setIfInBounds_toArray, List.set_cons_zero, List.set_cons_succ])
              refine wpAnyZ_take (i := 1) (oi := ⟨_, _, _, _, _, _⟩) (v := ?_) rfl (by kernel_rfl) (by kernel_rfl) (by kernel_rfl) (by kernel_rfl) (by kernel_rfl) (fun _ _ _ h => h) (Or.inl ⟨by rfl, ?_⟩) (by assumption) ?_
              rotate_left
              · intro W hSw
                (try dsimp only at hSw)
                go_simp
                (try with_reducible rfl)
              (try simp only [Act.put, List.setIfInBounds_toArray, List.set_cons_zero, List.set_cons_succ])
              refine wpAnyZ_take (i := 2) (oi := ⟨_, _, _, _, _, _⟩) (v := ?_) rfl (by kernel_rfl) (by kernel_rfl) (by kernel_rfl) (by kernel_rfl) (by kernel_rfl) (fun _ _ _ h => h) (Or.inl ⟨by rfl, ?_⟩) (by assumption) ?_
              rotate_left
              · intro W hSw
                (try dsimp only at hSw)
                go_simp
                (try with_reducible rfl)
              (try simp only [Act.put, List.setIfInBounds_toArray, List.set_cons_zero, List.set_cons_succ])
              refine wpAnyZ_take (i := 3) (oi := ⟨_, _, _, _, _, _⟩) (v := ?_) rfl (by kernel_rfl) (by kernel_rfl) (by kernel_rfl) (by kernel_rfl) (by kernel_rfl) (fun _ _ _ h => h) (Or.inl ⟨by rfl, ?_⟩) (by assumption) ?_
              rotate_left
              · intro W hSw
                (try dsimp only at hSw)
                go_simp
                (try with_reducible rfl)
              (try simp only [Act.put, List.setIfInBounds_toArray, List.set_cons_zero, List.set_cons_succ])
              refine wpAnyZ_take (i := 4) (oi := ⟨_, _, _, _, _, _⟩) (v := ?_) rfl (by kernel_rfl) (by kernel_rfl) (by kernel_rfl) (by kernel_rfl) (by kernel_rfl) (fun _ _ _ h => h) (Or.inl ⟨by rfl, ?_⟩) (by assumption) ?_
              rotate_left
              · intro W hSw
                (try dsimp only at hSw)
                go_simp
                (try with_reducible rfl)
              (try simp only [Act.put, List.setIfInBounds_toArray, List.set_cons_zero, List.set_cons_succ])
              refine wpAnyZ_take (i := 5) (oi := ⟨_, _, _, _, _, _⟩) (v := ?_) rfl (by kernel_rfl) (by kernel_rfl) (by kernel_rfl) (by kernel_rfl) (by kernel_rfl) (fun _ _ _ h => h) (Or.inl ⟨by rfl, ?_⟩) (by assumption) ?_
              rotate_left
              · intro W hSw
                (try dsimp only at hSw)
                go_simp
                (try with_reducible rfl)
              (try simp only [Act.put, List.setIfInBounds_toArray, List.set_cons_zero, List.set_cons_succ])
              refine wpAnyZ_take (i := 6) (oi := ⟨_, _, _, _, _, _⟩) (v := ?_) rfl (by kernel_rfl) (by kernel_rfl) (by kernel_rfl) (by kernel_rfl) (by kernel_rfl) (fun _ _ _ h => h) (Or.inl ⟨by rfl, ?_⟩) (by assumption) ?_
              rotate_left
              · intro W hSw
                (try dsimp only at hSw)
                go_simp
                (try with_reducible rfl)
              (try simp only [Act.put, List.setIfInBounds_toArray, List.set_cons_zero, List.set_cons_succ])
              refine wpAnyZ_take (i := 7) (oi := ⟨_, _, _, _, _, _⟩) (v := ?_) rfl (by kernel_rfl) (by kernel_rfl) (by kernel_rfl) (by kernel_rfl) (by kernel_rfl) (fun _ _ _ h => h) (Or.inl ⟨by rfl, ?_⟩) (by assumption) ?_
              rotate_left
              · intro W hSw
                (try dsimp only at hSw)
                go_simp
                (try with_reducible rfl)
              (try simp only [Act.put, List.setIfInBounds_toArray, List.set_cons_zero, List.set_cons_succ])
              refine wpAnyZ_take (i := 8) (oi := ⟨_, _, _, _, _, _⟩) (v := ?_) rfl (by kernel_rfl) (by kernel_rfl) (by kernel_rfl) (by kernel_rfl) (by kernel_rfl) (fun _ _ _ h => h) (Or.inl ⟨by rfl, ?_⟩) (by assumption) ?_
              rotate_left
              · intro W hSw
                (try dsimp only at hSw)
                go_simp
                (try with_reducible rfl)
              (try simp only [Act.put, List.setIfInBounds_toArray, List.set_cons_zero, List.set_cons_succ])
              refine wpAnyZ_take (i := 9) (oi := ⟨_, _, _, _, _, _⟩) (v := ?_) rfl (by kernel_rfl) (by kernel_rfl) (by kernel_rfl) (by kernel_rfl) (by kernel_rfl) (fun _ _ _ h => h) (Or.inl ⟨by rfl, ?_⟩) (by assumption) ?_
              rotate_left
              · intro W hSw
                (try dsimp only at hSw)
                go_simp
                (try with_reducible rfl)
              (try simp only [Act.put, List.setIfInBounds_toArray, List.set_cons_zero, List.set_cons_succ])
              refine wpAnyZ_take (i := 10) (oi := ⟨_, _, _, _, _, _⟩) (v := ?_) rfl (by kernel_rfl) (by kernel_rfl) (by kernel_rfl) (by kernel_rfl) (by kernel_rfl) (fun _ _ _ h => h) (Or.inl ⟨by rfl, ?_⟩) (by assumption) ?_
              rotate_left
              · intro W hSw
                (try dsimp only at hSw)
                go_simp
                (try with_reducible rfl)
              (try simp only [Act.put, List.setIfInBounds_toArray, List.set_cons_zero, List.set_cons_succ])
              refine wpAnyZ_take (i := 11) (oi := ⟨_, _, _, _, _, _⟩) (v := ?_) rfl (by kernel_rfl) (by kernel_rfl) (by kernel_rfl) (by kernel_rfl) (by kernel_rfl) (fun _ _ _ h => h) (Or.inl ⟨by rfl, ?_⟩) (by assumption) ?_
              rotate_left
              · intro W hSw
                (try dsimp only at hSw)
                go_simp
                (try with_reducible rfl)
              (try simp only [Act.put, List.setIfInBounds_toArray, List.set_cons_zero, List.set_cons_succ])
              refine wpAnyZ_take (i := 12) (oi := ⟨_, _, _, _, _, _⟩) (v := ?_) rfl (by kernel_rfl) (by kernel_rfl) (by kernel_rfl) (by kernel_rfl) (by kernel_rfl) (fun _ _ _ h => h) (Or.inl ⟨by rfl, ?_⟩) (by assumption) ?_
              rotate_left
              · intro W hSw
                (try dsimp only at hSw)
                go_simp
                (try with_reducible rfl)
              (try simp only [Act.put, List.setIfInBounds_toArray, List.set_cons_zero, List.set_cons_succ])
              refine wpAnyZ_ready (rs := [13]) (by kernel_rfl) (by simp) ?_
              refine AllReadyZ.cons (o := ⟨_, _, _, _, _, _⟩) rfl (fun C hC => ?_) AllReadyZ.nil
              go_simp
              refine (refLast_any b3 rn u0 lv hrn HLV.out).mono ?_
              rintro e u1 ⟨rfl, rfl⟩
              go_wp2_with fail
              have hHeld : (fun W => W.cell? ⟨K, 0, none⟩ = some (.int .i64 x.f) ∧ W.cell? ⟨K, 1, none⟩ = some (.int .i64 x.l) ∧ W.cell? ⟨K, 2, none⟩ = some (.int .i64 x.b) ∧ W.cell? ⟨B2, 0, none⟩ = some (.int .i64 b0) ∧ W.cell? ⟨B2, 1, none⟩ = some (.int .i64 b1) ∧ W.cell? ⟨B2, 2, none⟩ = some (.int .i64 b2) ∧ W.cell? ⟨B2, 3, none⟩ = some (.int .i64 b3) ∧ W.cell? ⟨B2, 4, none⟩ = some (.bool b4) ∧ W.cell? ⟨B2, 5, none⟩ = some (.int .i64 b5) ∧ W.cell? ⟨B2, 6, none⟩ = some (.slice rd rn rc) ∧ Below W1.heap.size W1 W) _ := hHeld
              refine hC.out _ _ (fun _ => hHeld) (fun _ => ?_)
              clear hC C
              (try simp only [Act.put, List.setIfInBounds_toArray, List.set_cons_zero, List.set_cons_succ])
              refine wpAnyZ_take (i := 14) (oi := ⟨_, _, _, _, _, _⟩) (v := ?_) rfl (by kernel_rfl) (by kernel_rfl) (by kernel_rfl) (by kernel_rfl) (by kernel_rfl) (fun _ _ _ h => h) (Or.inl ⟨by rfl, ?_⟩) (by assumption) ?_
              rotate_left
              · intro W hSw
                (try dsimp only at hSw)
                go_simp
                (try with_reducible rfl)
              (try simp only [Act.put, List.setIfInBounds_toArray, List.set_cons_zero, List.set_cons_succ])
              refine wpAnyZ_take (i := 15) (oi := ⟨_, _, _, _, _, _⟩) (v := ?_) rfl (by kernel_rfl) (by kernel_rfl) (by kernel_rfl) (by kernel_rfl) (by kernel_rfl) (fun _ _ _ h => h) (Or.inl ⟨by rfl, ?_⟩) (by assumption) ?_
              rotate_left
              · intro W hSw
                (try dsimp only at hSw)
                go_simp
                (try with_reducible rfl)
              (try simp only [Act.put, List.setIfInBounds_toArray, List.set_cons_zero, List.set_cons_succ])
              refine wpAnyZ_done (by kernel_rfl) ?_ _
              refine NoPanic.normal ?_
              have HU := HU0
              clear hHeld
              have k2 := (KS.out _ HU.out).2.2.1
              go_wp2
              go_ret2
              exact gives_dup_some HEND.out (HB0.out.trans ((HB1.out.trans (HU.out.mono HB1.out.size)).mono HB0.out.size))
            · have hd5 : (x.l == lv) = false := beq_false_of_ne hll
              have HNX : Hid (dupL (last.drop (j + 1)) b3 rn = r) := by
                show _ = _
                rw [← HD.out, HDR.out, dup_miss]
                unfold hitB
                rw [hlv, decide_eq_false hll, Bool.and_false]
              clear hlv
              refine wp_region_noPanic ?_
              refine wp_region_z [] (fun W => W.cell? ⟨K, 0, none⟩ = some (.int .i64 x.f) ∧ W.cell? ⟨K, 1, none⟩ = some (.int .i64 x.l) ∧ W.cell? ⟨K, 2, none⟩ = some (.int .i64 x.b) ∧ W.cell? ⟨B2, 0, none⟩ = some (.int .i64 b0) ∧ W.cell? ⟨B2, 1, none⟩ = some (.int .i64 b1) ∧ W.cell? ⟨B2, 2, none⟩ = some (.int .i64 b2) ∧ W.cell? ⟨B2, 3, none⟩ = some (.int .i64 b3) ∧ W.cell? ⟨B2, 4, none⟩ = some (.bool b4) ∧ W.cell? ⟨B2, 5, none⟩ = some (.int .i64 b5) ∧ W.cell? ⟨B2, 6, none⟩ = some (.slice rd rn rc) ∧ Below W1.heap.size W1 W) (by kernel_rfl) ?_
              have hHeld : (fun W => W.cell? ⟨K, 0, none⟩ = some (.int .i64 x.f) ∧ W.cell? ⟨K, 1, none⟩ = some (.int .i64 x.l) ∧ W.cell? ⟨K, 2, none⟩ = some (.int .i64 x.b) ∧ W.cell? ⟨B2, 0, none⟩ = some (.int .i64 b0) ∧ W.cell? ⟨B2, 1, none⟩ = some (.int .i64 b1) ∧ W.cell? ⟨B2, 2, none⟩ = some (.int .i64 b2) ∧ W.cell? ⟨B2, 3, none⟩ = some (.int .i64 b3) ∧ W.cell? ⟨B2, 4, none⟩ = some (.bool b4) ∧ W.cell? ⟨B2, 5, none⟩ = some (.int .i64 b5) ∧ W.cell? ⟨B2, 6, none⟩ = some (.slice rd rn rc) ∧ Below W1.heap.size W1 W) _ := KS.out _ hb1d
              obtain ⟨u0, hu0⟩ : ∃ u, u = W1.drew := ⟨_, rfl⟩
              rw [← hu0] at hHeld hb1d
              rw [← hu0]
              clear hu0
              have HU0 := Lib.hid hb1d
              clear hb1d
              refine wpAnyZ_take (i := 0) (oi := ⟨_, _, _, _, _, _⟩) (v := ?_) rfl (by kernel_rfl) (by kernel_rfl) (by kernel_rfl) (by kernel_rfl) (by kernel_rfl) (fun _ _ _ h => h) (Or.inl ⟨by rfl, ?_⟩) (by assumption) ?_
              rotate_left
              · intro W hSw
                (try dsimp only at hSw)
                go_simp
                (try with_reducible rfl)
              (try simp only [Act.put, List.setIfInBounds_toArray, List.set_cons_zero, List.set_cons_succ])
              refine wpAnyZ_take (i := 1) (oi := ⟨_, _, _, _, _, _⟩) (v := ?_) rfl (by kernel_rfl) (by kernel_rfl) (by kernel_rfl) (by kernel_rfl) (by kernel_rfl) (fun _ _ _ h => h) (Or.inl ⟨by rfl, ?_⟩) (by assumption) ?_
              rotate_left
              · intro W hSw
                (try dsimp only at hSw)
                go_simp
                (try with_reducible rfl)
              (try simp only [Act.put, List.setIfInBounds_toArray, List.set_cons_zero, List.set_cons_succ])
              refine wpAnyZ_take (i := 2) (oi := ⟨_, _, _, _, _, _⟩) (v := ?_) rfl (by kernel_rfl) (by kernel_rfl) (by kernel_rfl) (by kernel_rfl) (by kernel_rfl) (fun _ _ _ h => h) (Or.inl ⟨by rfl, ?_⟩) (by assumption) ?_
              rotate_left
              · intro W hSw
                (try dsimp only at hSw)
                go_simp
                (try with_reducible rfl)
              (try simp only [Act.put, List.setIfInBounds_toArray, List.set_cons_zero, List.set_cons_succ])
              refine wpAnyZ_take (i := 3) (oi := ⟨_, _, _, _, _, _⟩) (v := ?_) rfl (by kernel_rfl) (by kernel_rfl) (by kernel_rfl) (by kernel_rfl) (by kernel_rfl) (fun _ _ _ h => h) (Or.inl ⟨by rfl, ?_⟩) (by assumption) ?_
              rotate_left
              · intro W hSw
                (try dsimp only at hSw)
                go_simp
                (try with_reducible rfl)
              (try simp only [Act.put, List.setIfInBounds_toArray, List.set_cons_zero, List.set_cons_succ])
              refine wpAnyZ_take (i := 4) (oi := ⟨_, _, _, _, _, _⟩) (v := ?_) rfl (by kernel_rfl) (by kernel_rfl) (by kernel_rfl) (by kernel_rfl) (by kernel_rfl) (fun _ _ _ h => h) (Or.inl ⟨by rfl, ?_⟩) (by assumption) ?_
              rotate_left
              · intro W hSw
                (try dsimp only at hSw)
                go_simp
                (try with_reducible rfl)
              (try simp only [Act.put, List.setIfInBounds_toArray, List.set_cons_zero, List.set_cons_succ])
              refine wpAnyZ_take (i := 5) (oi := ⟨_, _, _, _, _, _⟩) (v := ?_) rfl (by kernel_rfl) (by kernel_rfl) (by kernel_rfl) (by kernel_rfl) (by kernel_rfl) (fun _ _ _ h => h) (Or.inl ⟨by rfl, ?_⟩) (by assumption) ?_
              rotate_left
              · intro W hSw
                (try dsimp only at hSw)
                go_simp
                (try with_reducible rfl)
              (try simp only [Act.put, List.setIfInBounds_toArray, List.set_cons_zero, List.set_cons_succ])
              refine wpAnyZ_take (i := 6) (oi := ⟨_, _, _, _, _, _⟩) (v := ?_) rfl (by kernel_rfl) (by kernel_rfl) (by kernel_rfl) (by kernel_rfl) (by kernel_rfl) (fun _ _ _ h => h) (Or.inl ⟨by rfl, ?_⟩) (by assumption) ?_
              rotate_left
              · intro W hSw
                (try dsimp only at hSw)
                go_simp
                (try with_reducible rfl)
              (try simp only [Act.put, List.setIfInBounds_toArray, List.set_cons_zero, List.set_cons_succ])
              refine wpAnyZ_take (i := 7) (oi := ⟨_, _, _, _, _, _⟩) (v := ?_) rfl (by kernel_rfl) (by kernel_rfl) (by kernel_rfl) (by kernel_rfl) (by kernel_rfl) (fun _ _ _ h => h) (Or.inl ⟨by rfl, ?_⟩) (by assumption) ?_
              rotate_left
              · intro W hSw
                (try dsimp only at hSw)
                go_simp
                (try with_reducible rfl)
              (try simp only [Act.put, List.setIfInBounds_toArray, List.set_cons_zero, List.set_cons_succ])
              refine wpAnyZ_take (i := 8) (oi := ⟨_, _, _, _, _, _⟩) (v := ?_) rfl (by kernel_rfl) (by kernel_rfl) (by kernel_rfl) (by kernel_rfl) (by kernel_rfl) (fun _ _ _ h => h) (Or.inl ⟨by rfl, ?_⟩) (by assumption) ?_
              rotate_left
              · intro W hSw
                (try dsimp only at hSw)
                go_simp
                (try with_reducible rfl)
              (try simp only [Act.put, List.setIfInBounds_toArray, List.set_cons_zero, List.set_cons_succ])
              refine wpAnyZ_take (i := 9) (oi := ⟨_, _, _, _, _, _⟩) (v := ?_) rfl (by kernel_rfl) (by kernel_rfl) (by kernel_rfl) (by kernel_rfl) (by kernel_rfl) (fun _ _ _ h => h) (Or.inl ⟨by rfl, ?_⟩) (by assumption) ?_
              rotate_left
              · intro W hSw
                (try dsimp only at hSw)
                go_simp
                (try with_reducible rfl)
              (try simp only [Act.put, List.setIfInBounds_toArray, List.set_cons_zero, List.set_cons_succ])
              refine wpAnyZ_take (i := 10) (oi := ⟨_, _, _, _, _, _⟩) (v := ?_) rfl (by kernel_rfl) (by kernel_rfl) (by kernel_rfl) (by kernel_rfl) (by kernel_rfl) (fun _ _ _ h => h) (Or.inl ⟨by rfl, ?_⟩) (by assumption) ?_
              rotate_left
              · intro W hSw
                (try dsimp only at hSw)
                go_simp
                (try with_reducible rfl)
              (try simp only [Act.put, List.setIfInBounds_toArray, List.set_cons_zero, List.set_cons_succ])
              refine wpAnyZ_take (i := 11) (oi := ⟨_, _, _, _, _, _⟩) (v := ?_) rfl (by kernel_rfl) (by kernel_rfl) (by kernel_rfl) (by kernel_rfl) (by kernel_rfl) (fun _ _ _ h => h) (Or.inl ⟨by rfl, ?_⟩) (by assumption) ?_
              rotate_left
              · intro W hSw
                (try dsimp only at hSw)
                go_simp
                (try with_reducible rfl)
              (try simp only [Act.put, List.setIfInBounds_toArray, List.set_cons_zero, List.set_cons_succ])
              refine wpAnyZ_take (i := 12) (oi := ⟨_, _, _, _, _, _⟩) (v := ?_) rfl (by kernel_rfl) (by kernel_rfl) (by kernel_rfl) (by kernel_rfl) (by kernel_rfl) (fun _ _ _ h => h) (Or.inl ⟨by rfl, ?_⟩) (by assumption) ?_
              rotate_left
              · intro W hSw
                (try dsimp only at hSw)
                go_simp
                (try with_reducible rfl)
              (try simp only [Act.put, List.setIfInBounds_toArray, List.set_cons_zero, List.set_cons_succ])
              refine wpAnyZ_ready (rs := [13]) (by kernel_rfl) (by simp) ?_
              refine AllReadyZ.cons (o := ⟨_, _, _, _, _, _⟩) rfl (fun C hC => ?_) AllReadyZ.nil
              go_simp
              refine (refLast_any b3 rn u0 lv hrn HLV.out).mono ?_
              rintro e u1 ⟨rfl, rfl⟩
              go_wp2_with fail
              have hHeld : (fun W => W.cell? ⟨K, 0, none⟩ = some (.int .i64 x.f) ∧ W.cell? ⟨K, 1, none⟩ = some (.int .i64 x.l) ∧ W.cell? ⟨K, 2, none⟩ = some (.int .i64 x.b) ∧ W.cell? ⟨B2, 0, none⟩ = some (.int .i64 b0) ∧ W.cell? ⟨B2, 1, none⟩ = some (.int .i64 b1) ∧ W.cell? ⟨B2, 2, none⟩ = some (.int .i64 b2) ∧ W.cell? ⟨B2, 3, none⟩ = some (.int .i64 b3) ∧ W.cell? ⟨B2, 4, none⟩ = some (.bool b4) ∧ W.cell? ⟨B2, 5, none⟩ = some (.int .i64 b5) ∧ W.cell? ⟨B2, 6, none⟩ = some (.slice rd rn rc) ∧ Below W1.heap.size W1 W) _ := hHeld
              refine hC.out _ _ (fun _ => hHeld) (fun _ => ?_)
              clear hC C
              (try simp only [Act.put, List.setIfInBounds_toArray, List.set_cons_zero, List.set_cons_succ])
              refine wpAnyZ_take (i := 14) (oi := ⟨_, _, _, _, _, _⟩) (v := ?_) rfl (by kernel_rfl) (by kernel_rfl) (by kernel_rfl) (by kernel_rfl) (by kernel_rfl) (fun _ _ _ h => h) (Or.inl ⟨by rfl, ?_⟩) (by assumption) ?_
              rotate_left
              · intro W hSw
                (try dsimp only at hSw)
                go_simp
                (try with_reducible rfl)
              (try simp only [Act.put, List.setIfInBounds_toArray, List.set_cons_zero, List.set_cons_succ])
              refine wpAnyZ_take (i := 15) (oi := ⟨_, _, _, _, _, _⟩) (v := ?_) rfl (by kernel_rfl) (by kernel_rfl) (by kernel_rfl) (by kernel_rfl) (by kernel_rfl) (fun _ _ _ h => h) (Or.inl ⟨by rfl, ?_⟩) (by assumption) ?_
              rotate_left
              · intro W hSw
                (try dsimp only at hSw)
                go_simp
                (try with_reducible rfl)
              (try simp only [Act.put, List.setIfInBounds_toArray, List.set_cons_zero, List.set_cons_succ])
              refine wpAnyZ_done (by kernel_rfl) ?_ _
              refine NoPanic.normal ?_
              have HU := HU0
              clear hHeld
              have HBU := Lib.hid (HB1.out.trans (HU.out.mono HB1.out.size))
              go_wp2
              go_roundw
              case rel => exact ⟨j + 1, by go_num, by omega, HNX.out, HBU.out⟩
              case measure => simp [intOf]; omega
          · have hd4 : (x.f == b3) = false := beq_false_of_ne hf
            have HNX : Hid (dupL (last.drop (j + 1)) b3 rn = r) := by
              show _ = _
              rw [← HD.out, HDR.out, dup_miss]
              unfold hitB
              rw [decide_eq_false hf, Bool.false_and]
            refine wp_region_noPanic ?_
            refine wp_region_z [] (fun W => W.cell? ⟨K, 0, none⟩ = some (.int .i64 x.f) ∧ W.cell? ⟨K, 1, none⟩ = some (.int .i64 x.l) ∧ W.cell? ⟨K, 2, none⟩ = some (.int .i64 x.b) ∧ W.cell? ⟨B2, 0, none⟩ = some (.int .i64 b0) ∧ W.cell? ⟨B2, 1, none⟩ = some (.int .i64 b1) ∧ W.cell? ⟨B2, 2, none⟩ = some (.int .i64 b2) ∧ W.cell? ⟨B2, 3, none⟩ = some (.int .i64 b3) ∧ W.cell? ⟨B2, 4, none⟩ = some (.bool b4) ∧ W.cell? ⟨B2, 5, none⟩ = some (.int .i64 b5) ∧ W.cell? ⟨B2, 6, none⟩ = some (.slice rd rn rc) ∧ Below W1.heap.size W1 W) (by kernel_rfl) ?_
            have hHeld : (fun W => W.cell? ⟨K, 0, none⟩ = some (.int .i64 x.f) ∧ W.cell? ⟨K, 1, none⟩ = some (.int .i64 x.l) ∧ W.cell? ⟨K, 2, none⟩ = some (.int .i64 x.b) ∧ W.cell? ⟨B2, 0, none⟩ = some (.int .i64 b0) ∧ W.cell? ⟨B2, 1, none⟩ = some (.int .i64 b1) ∧ W.cell? ⟨B2, 2, none⟩ = some (.int .i64 b2) ∧ W.cell? ⟨B2, 3, none⟩ = some (.int .i64 b3) ∧ W.cell? ⟨B2, 4, none⟩ = some (.bool b4) ∧ W.cell? ⟨B2, 5, none⟩ = some (.int .i64 b5) ∧ W.cell? ⟨B2, 6, none⟩ = some (.slice rd rn rc) ∧ Below W1.heap.size W1 W) _ := KS.out _ hb1d
            obtain ⟨u0, hu0⟩ : ∃ u, u = W1.drew := ⟨_, rfl⟩
            rw [← hu0] at hHeld hb1d
            rw [← hu0]
            clear hu0
            have HU := Lib.hid hb1d
            clear hb1d
            refine wpAnyZ_take (i := 0) (oi := ⟨_, _, _, _, _, _⟩) (v := ?_) rfl (by kernel_rfl) (by kernel_rfl) (by kernel_rfl) (by kernel_rfl) (by kernel_rfl) (fun _ _ _ h => h) (Or.inl ⟨by rfl, ?_⟩) (by assumption) ?_
            rotate_left
            · intro W hSw
              (try dsimp only at hSw)
              go_simp
              (try with_reducible rfl)
            (try simp only [Act.put, List.setIfInBounds_toArray, List.set_cons_zero, List.set_cons_succ])
            refine wpAnyZ_take (i := 1) (oi := ⟨_, _, _, _, _, _⟩) (v := ?_) rfl (by kernel_rfl) (by kernel_rfl) (by kernel_rfl) (by kernel_rfl) (by kernel_rfl) (fun _ _ _ h => h) (Or.inl ⟨by rfl, ?_⟩) (by assumption) ?_
            rotate_left
            · intro W hSw
              (try dsimp only at hSw)
              go_simp
              (try with_reducible rfl)
            (try simp only [Act.put, List.setIfInBounds_toArray, List.set_cons_zero, List.set_cons_succ])
            refine wpAnyZ_take (i := 2) (oi := ⟨_, _, _, _, _, _⟩) (v := ?_) rfl (by kernel_rfl) (by kernel_rfl) (by kernel_rfl) (by kernel_rfl) (by kernel_rfl) (fun _ _ _ h => h) (Or.inl ⟨by rfl, ?_⟩) (by assumption) ?_
            rotate_left
            · intro W hSw
              (try dsimp only at hSw)
              go_simp
              (try with_reducible rfl)
            (try simp only [Act.put, List.setIfInBounds_toArray, List.set_cons_zero, List.set_cons_succ])
            refine wpAnyZ_take (i := 3) (oi := ⟨_, _, _, _, _, _⟩) (v := ?_) rfl (by kernel_rfl) (by kernel_rfl) (by kernel_rfl) (by kernel_rfl) (by kernel_rfl) (fun _ _ _ h => h) (Or.inl ⟨by rfl, ?_⟩) (by assumption) ?_
            rotate_left
            · intro W hSw
              (try dsimp only at hSw)
              go_simp
              (try with_reducible rfl)
            (try simp only [Act.put, List.setIfInBounds_toArray, List.set_cons_zero, List.set_cons_succ])
            refine wpAnyZ_take (i := 4) (oi := ⟨_, _, _, _, _, _⟩) (v := ?_) rfl (by kernel_rfl) (by kernel_rfl) (by kernel_rfl) (by kernel_rfl) (by kernel_rfl) (fun _ _ _ h => h) (Or.inl ⟨by rfl, ?_⟩) (by assumption) ?_
            rotate_left
            · intro W hSw
              (try dsimp only at hSw)
              go_simp
              (try with_reducible rfl)
            (try simp only [Act.put, List.setIfInBounds_toArray, List.set_cons_zero, List.set_cons_succ])
            refine wpAnyZ_take (i := 5) (oi := ⟨_, _, _, _, _, _⟩) (v := ?_) rfl (by kernel_rfl) (by kernel_rfl) (by kernel_rfl) (by kernel_rfl) (by kernel_rfl) (fun _ _ _ h => h) (Or.inl ⟨by rfl, ?_⟩) (by assumption) ?_
            rotate_left
            · intro W hSw
              (try dsimp only at hSw)
              go_simp
              (try with_reducible rfl)
            (try simp only [Act.put, List.setIfInBounds_toArray, List.set_cons_zero, List.set_cons_succ])
            refine wpAnyZ_take (i := 6) (oi := ⟨_, _, _, _, _, _⟩) (v := undef) rfl (by kernel_rfl) (by kernel_rfl) (by kernel_rfl) (by kernel_rfl) (by kernel_rfl) (fun _ _ _ h => h) (Or.inr ⟨by rfl, rfl⟩) (by assumption) ?_
            (try simp only [Act.put, List.setIfInBounds_toArray, List.set_cons_zero, List.set_cons_succ])
            refine wpAnyZ_take (i := 7) (oi := ⟨_, _, _, _, _, _⟩) (v := undef) rfl (by kernel_rfl) (by kernel_rfl) (by kernel_rfl) (by kernel_rfl) (by kernel_rfl) (fun _ _ _ h => h) (Or.inr ⟨by rfl, rfl⟩) (by assumption) ?_
            (try simp only [Act.put, List.setIfInBounds_toArray, List.set_cons_zero, List.set_cons_succ])
            refine wpAnyZ_take (i := 8) (oi := ⟨_, _, _, _, _, _⟩) (v := undef) rfl (by kernel_rfl) (by kernel_rfl) (by kernel_rfl) (by kernel_rfl) (by kernel_rfl) (fun _ _ _ h => h) (Or.inr ⟨by rfl, rfl⟩) (by assumption) ?_
            (try simp only [Act.put, List.setIfInBounds_toArray, List.set_cons_zero, List.set_cons_succ])
            refine wpAnyZ_take (i := 9) (oi := ⟨_, _, _, _, _, _⟩) (v := undef) rfl (by kernel_rfl) (by kernel_rfl) (by kernel_rfl) (by kernel_rfl) (by kernel_rfl) (fun _ _ _ h => h) (Or.inr ⟨by rfl, rfl⟩) (by assumption) ?_
            (try simp only [Act.put, List.setIfInBounds_toArray, List.set_cons_zero, List.set_cons_succ])
            refine wpAnyZ_take (i := 10) (oi := ⟨_, _, _, _, _, _⟩) (v := undef) rfl (by kernel_rfl) (by kernel_rfl) (by kernel_rfl) (by kernel_rfl) (by kernel_rfl) (fun _ _ _ h => h) (Or.inr ⟨by rfl, rfl⟩) (by assumption) ?_
            (try simp only [Act.put, List.setIfInBounds_toArray, List.set_cons_zero, List.set_cons_succ])
            refine wpAnyZ_take (i := 11) (oi := ⟨_, _, _, _, _, _⟩) (v := undef) rfl (by kernel_rfl) (by kernel_rfl) (by kernel_rfl) (by kernel_rfl) (by kernel_rfl) (fun _ _ _ h => h) (Or.inr ⟨by rfl, rfl⟩) (by assumption) ?_
            (try simp only [Act.put, List.setIfInBounds_toArray, List.set_cons_zero, List.set_cons_succ])
            refine wpAnyZ_take (i := 12) (oi := ⟨_, _, _, _, _, _⟩) (v := undef) rfl (by kernel_rfl) (by kernel_rfl) (by kernel_rfl) (by kernel_rfl) (by kernel_rfl) (fun _ _ _ h => h) (Or.inr ⟨by rfl, rfl⟩) (by assumption) ?_
            (try simp only [Act.put, List.setIfInBounds_toArray, List.set_cons_zero, List.set_cons_succ])
            refine wpAnyZ_take (i := 13) (oi := ⟨_, _, _, _, _, _⟩) (v := undef) rfl (by kernel_rfl) (by kernel_rfl) (by kernel_rfl) (by kernel_rfl) (by kernel_rfl) (fun _ _ _ h => h) (Or.inr ⟨by rfl, rfl⟩) (by assumption) ?_
            (try simp only [Act.put, List.setIfInBounds_toArray, List.set_cons_zero, List.set_cons_succ])
            refine wpAnyZ_take (i := 14) (oi := ⟨_, _, _, _, _, _⟩) (v := undef) rfl (by kernel_rfl) (by kernel_rfl) (by kernel_rfl) (by kernel_rfl) (by kernel_rfl) (fun _ _ _ h => h) (Or.inr ⟨by rfl, rfl⟩) (by assumption) ?_
            (try simp only [Act.put, List.setIfInBounds_toArray, List.set_cons_zero, List.set_cons_succ])
            refine wpAnyZ_take (i := 15) (oi := ⟨_, _, _, _, _, _⟩) (v := ?_) rfl (by kernel_rfl) (by kernel_rfl) (by kernel_rfl) (by kernel_rfl) (by kernel_rfl) (fun _ _ _ h => h) (Or.inl ⟨by rfl, ?_⟩) (by assumption) ?_
            rotate_left
            · intro W hSw
              (try dsimp only at hSw)
              go_simp
              (try with_reducible rfl)
            (try simp only [Act.put, List.setIfInBounds_toArray, List.set_cons_zero, List.set_cons_succ])
            refine wpAnyZ_done (by kernel_rfl) ?_ _
            refine NoPanic.normal ?_
            clear hHeld
            have HBU := Lib.hid (HB1.out.trans (HU.out.mono HB1.out.size))
            go_wp2
            go_roundw
            case rel => exact ⟨j + 1, by go_num, by omega, HNX.out, HBU.out⟩
            case measure => simp [intOf]; omega
        · have hd3 : decide (j < n) = false := decide_eq_false hlt
          have hln := HL0.out.length
          have HEND : Hid (r = none) := by show r = none; rw [← HD.out, List.drop_of_length_le (by omega), dup_none]
          clear hln
          go_wp2
          go_ret2
          exact gives_dup_none HEND.out (HB0.out.trans (HB.out.mono HB0.out.size))
    · have hd2 : (b5 == 0) = false := beq_false_of_ne hm
      have HEND : Hid (r = none) := by show r = none; rw [← HR.out, if_neg (fun h => hm h.2)]
      clear HR
      go_wp2
      go_ret2
      exact gives_dup_none HEND.out HB0.out
  · have hd1 : (b2 == ep) = false := beq_false_of_ne he
    have HEND : Hid (r = none) := by show r = none; rw [← HR.out, if_neg (fun h => he h.1)]
    clear HR
    go_wp2
    go_ret2
    exact gives_dup_none HEND.out HB0.out
end Go.Proofs.Ytinilkkpocnnpaa
