/- Parts of a proof, merged: TcMem, SnState. -/
import Derived.Lib.SliceRun
import Derived.Test.YtgohekjkbgfeeaaGreatKg11
import Derived.Test.YtgohekjkbgfeeaaGreatKg12
import Derived.Test.YtgohekjkbgfeeaaGreatKg3
import Derived.Test.YtgohekjkbgfeeaaGreatKg7
import Derived.Test.YtgohekjkbgfeeaaGreatKg8
import Derived.Test.YtgohekjkbgfeeaaGreatKg6
import Derived.Test.YtgohekjkbgfeeaaGreatKg10
namespace Go.Proofs.YtgohekjkbgfeeaaGreat
open Go.RowKit
open Go.SeqMath
open Go.ProdMath
open Go.BatMath hiding AllB getD_lt take_all
set_option linter.unusedVariables false

/-- An entry: the producer's number, and its state. -/
def pmE (m : PM) : Value × Value := (.int .i64 m.p.id, .agg #[.int .i64 m.p.id, .int .i64 m.p.epoch, .slice m.ad m.p.last.length m.cap, .int .i64 m.p.opn])
abbrev TcMap (w : World) (km : Nat) (ms : List PM) : Prop := MapAs Tryz.prog 2 pmE w km ms
theorem keyI : Maps.Keyed Tryz.prog 2 := Maps.int_keyed Tryz.underlying2
theorem tcMapT : Tryz.prog.underlying 103 = some (.map 2 78) := Tryz.underlying103
theorem wf_i64 {n : Int} (h0 : -9223372036854775808 ≤ n) (h1 : n ≤ 9223372036854775807) : (Lit.int .i64 n).wf = true := by
  have e1 : IntKind.i64.min = -9223372036854775808 := rfl
  have e2 : IntKind.i64.max = 9223372036854775807 := rfl
  simp only [Lit.wf, e1, e2, Bool.and_eq_true, decide_eq_true_eq]
  omega
theorem key_int {n : Int} (h0 : -9223372036854775808 ≤ n) (h1 : n ≤ 9223372036854775807) : ∃ l, keyOf Tryz.prog 2 (.int .i64 n) = some l := ⟨_, Maps.keyOf_int_mk Tryz.underlying2 (wf_i64 h0 h1)⟩
/-! lists of them -/
def lookM (ms : List PM) (k : Int) : Option PM := ms.find? fun m => decide (m.p.id = k)
theorem lookM_p : ∀ (ms : List PM) (k : Int), (lookM ms k).map (·.p) = lookD (pds ms) k
  | [], k => rfl
  | m :: ms, k => by
    have ih := lookM_p ms k
    show _ = lookD (m.p :: pds ms) k
    rw [look_cons]
    unfold lookM at ih ⊢
    rw [List.find?_cons]
    by_cases h : m.p.id = k
    · rw [decide_eq_true h, if_pos h]; rfl
    · rw [decide_eq_false h, if_neg h]; exact ih
theorem lookM_some {ms : List PM} {k : Int} {m : PM} (h : lookM ms k = some m) : m ∈ ms ∧ m.p.id = k := ⟨List.mem_of_find?_eq_some h, by simpa using List.find?_some h⟩
theorem lookM_none {ms : List PM} {k : Int} (h : lookM ms k = none) : ∀ m ∈ ms, m.p.id ≠ k := by
  unfold lookM at h
  rw [List.find?_eq_none] at h
  intro m hm e
  exact h m hm (by simp [e])
def insM : List PM → PM → List PM
  | [], x => [x]
  | m :: ms, x => if m.p.id < x.p.id then m :: insM ms x else if m.p.id = x.p.id then x :: ms else x :: m :: ms
theorem insM_pds : ∀ (ms : List PM) (x : PM), pds (insM ms x) = insD (pds ms) x.p
  | [], x => rfl
  | m :: ms, x => by
    have ih := insM_pds ms x
    show pds (insM (m :: ms) x) = insD (m.p :: pds ms) x.p
    unfold insM insD
    split
    · show m.p :: pds (insM ms x) = _
      rw [ih]
    · split <;> rfl
theorem insM_new : ∀ (ms : List PM) (x : PM), (∀ m ∈ ms, m.p.id ≠ x.p.id) → (insM ms x).Perm (x :: ms)
  | [], x, _ => List.Perm.refl _
  | m :: ms, x, h => by
    unfold insM
    split
    · exact ((insM_new ms x fun q hq => h q (by simp [hq])).cons m).trans (List.Perm.swap _ _ _)
    · rw [if_neg (h m (by simp))]
theorem insM_old : ∀ (ms : List PM) (x m0 : PM), Asc (pds ms) → m0 ∈ ms → m0.p.id = x.p.id → ∃ rest, ms.Perm (m0 :: rest) ∧ (insM ms x).Perm (x :: rest)
  | m :: ms, x, m0, ha, hm, e => by
    have h1 := asc_head (p := m.p) (l := pds ms) ha
    unfold insM
    rcases List.mem_cons.1 hm with rfl | hm
    · rw [if_neg (by omega), if_pos e]
      exact ⟨ms, List.Perm.refl _, List.Perm.refl _⟩
    · have h2 := h1 m0.p (List.mem_map.2 ⟨m0, hm, rfl⟩)
      rw [if_pos (by omega)]
      obtain ⟨rest, r1, r2⟩ := insM_old ms x m0 (asc_tail (p := m.p) (l := pds ms) ha) hm e
      exact ⟨m :: rest, (r1.cons m).trans (List.Perm.swap _ _ _), (r2.cons m).trans (List.Perm.swap _ _ _)⟩
/-! what a block is -/
def IsMap (w : World) (k : Nat) : Prop := ∃ es c, w.heap[k]? = some (.map es c)
/-- A block that is one slice, of whatever type. -/
def IsSl (w : World) (k : Nat) : Prop := ∃ ad n cap t, w.heap[k]? = some (.cells #[.slice ad n cap] t (0, 0))
theorem cell_map {w : World} {k j : Nat} {x : Option Nat} (h : IsMap w k) : w.cell? ⟨k, j, none⟩ = none := by
  obtain ⟨es, c, h⟩ := h
  simp [World.cell?, h]
theorem MapAs.is {α : Type} {P : Program} {t : TypeId} {f : α → Value × Value} {w : World} {km : Nat} {ps : List α} (h : MapAs P t f w km ps) : IsMap w km := by
  obtain ⟨es, c, hb, _⟩ := h
  exact ⟨es, c, hb⟩
section
variable {α : Type} {K : Kind α} {w w' : World} {ad : Option Addr} {len cap k : Nat} {l : List α}
theorem RowAt.past_map (h : RowAt K w ad len cap l) (hg : w.grownBy w' (some k)) (hk : IsMap w k) : RowAt K w' ad len cap l := by
  refine ⟨h.length, h.fits, h.room, ?_⟩
  rcases h.cells with h0 | ⟨b, off, e, hlt, hc⟩
  · exact .inl h0
  · refine .inr ⟨b, off, e, Nat.lt_of_lt_of_le hlt hg.size, fun i x hi j u hj => hg.cell (hc i x hi j u hj) (fun e2 => ?_)⟩
    have h3 := hc i x hi j u hj
    have e3 : b = k := Option.some.inj e2
    rw [e3, cell_map (x := none) hk] at h3
    cases h3
end
theorem LastsAt.past_map {w w' : World} {k : Nat} {ms : List PM} (h : LastsAt w ms) (hg : w.grownBy w' (some k)) (hk : IsMap w k) : LastsAt w' ms := fun m hm => (h m hm).past_map hg hk
theorem TabBox.is {w : World} {k len cap : Nat} {ad : Option Addr} (h : TabBox w k (.slice ad len cap)) : IsSl w k := ⟨ad, len, cap, _, h⟩
/-- The document's own table stays where a map turns. -/
theorem TabOk.past_map {w w' : World} {kt k : Nat} {ad : Option Addr} {len cap : Nat} {ms : List PM} (h : TabOk w kt ad len cap ms) (hg : w.grownBy w' (some k)) (hk : IsMap w k) : TabOk w' kt ad len cap ms :=
  ⟨⟨h.tab.box.grown hg (fun e => by
      obtain ⟨es, c, hm⟩ := hk
      have hb := h.tab.box
      unfold TabBox at hb
      rw [← Option.some.inj e, hm] at hb
      cases hb), ⟨h.tab.pds.row.past_map hg hk, h.tab.pds.ins.past_map hg hk⟩⟩, fun a ha => ⟨(h.row a ha).1, Nat.lt_of_lt_of_le (h.row a ha).2 hg.size⟩, fun m hm a ha => ⟨(h.ins m hm a ha).1, Nat.lt_of_lt_of_le (h.ins m hm a ha).2 hg.size⟩⟩
/-! the code's table -/
def TcBox (w : World) (kt km : Nat) : Prop := w.heap[kt]? = some (.cells #[.map (some km)] 105 (0, 0))
section
variable {w w' : World} {kt km : Nat}
theorem TcBox.c0 (h : TcBox w kt km) : w.cell? ⟨kt, 0, none⟩ = some (.map (some km)) := by rw [cell_of_row _ _ 0 _ _ _ h]; rfl
theorem TcBox.free (h : TcBox w kt km) (j : Nat) : w.frozen? ⟨kt, j, none⟩ = false := frozen_of_row w kt j _ _ h
theorem TcBox.lt (h : TcBox w kt km) : kt < w.heap.size := lt_of_block h
theorem TcBox.same (h : TcBox w kt km) (he : w'.heap[kt]? = w.heap[kt]?) : TcBox w' kt km := he.trans h
theorem TcBox.on (h : TcBox w kt km) (hb : Below w.heap.size w w') : TcBox w' kt km := h.same (hb.block kt h.lt)
end
structure TcOk (w : World) (kt km : Nat) (ms : List PM) : Prop where
  box : TcBox w kt km
  map : TcMap w km ms
  ins : LastsAt w ms
section
variable {w w' : World} {kt km k : Nat} {ms : List PM}
theorem TcOk.keep (h : TcOk w kt km ms) (hb : Below w.heap.size w w') : TcOk w' kt km ms := ⟨h.box.on hb, h.map.on hb, h.ins.keep hb⟩
theorem TcBox.past_map (h : TcBox w kt km) (hg : w.grownBy w' (some k)) (hk : IsMap w k) : TcBox w' kt km := h.same (hg.block kt h.lt fun e => by
  obtain ⟨es, c, hm⟩ := hk
  unfold TcBox at h
  rw [Option.some.inj e, hm] at h
  cases h)
/-- Another map turns. -/
theorem TcOk.past_map (h : TcOk w kt km ms) (hg : w.grownBy w' (some k)) (hk : IsMap w k) (hne : k ≠ km) : TcOk w' kt km ms :=
  ⟨h.box.past_map hg hk, h.map.grown hg (fun e => hne (Option.some.inj e)), h.ins.past_map hg hk⟩
end
def GivesNewT (w : World) (e : Ending) (w' : World) : Prop := ∃ kt km, e = .returned (.pointer (some ⟨kt, 0, none⟩)) ∧ TcOk w' kt km [] ∧ Below w.heap.size w w' ∧ w.heap.size ≤ kt ∧ w.heap.size ≤ km
set_option maxRecDepth 100000 in
theorem tcNew_any (w : World) : Calls Tryz.prog 36 #[] w (GivesNewT w) := by
  have hmm := @run_makeMap Tryz.prog
  go_enter Tryz.func36, Tryz.ntmps36
  go_wp2
  go_ret
  have hb : Below w.heap.size w ((w.alloc (.map #[] 0)).alloc (.cells #[.map (some w.heap.size)] 105)) := ((Below.refl _ w).alloc (Nat.le_refl _) _).alloc (by simp) _
  refine ⟨_, _, rfl, ⟨?_, ?_, fun m hm => by cases hm⟩, hb, by simp, Nat.le_refl _⟩
  · have h1 := heap_alloc_new (w.alloc (.map #[] 0)) (.cells #[.map (some w.heap.size)] 105)
    show (_ : World).heap[_]? = _
    simpa using h1
  · exact (mapAs_new Tryz.prog 2 pmE w).on ((Below.refl _ _).alloc (by simp) _)
/-- slices.Clone of what is known of latest batches. -/
def ClonedT (w : World) (l : List Tr) (e : Ending) (w' : World) : Prop := ∃ ad cap, e = .returned (.slice ad l.length cap) ∧ OwnRow trK w' w.heap.size (.slice ad l.length cap) l ∧ Below w.heap.size w w'
set_option maxRecDepth 100000 in
theorem trClone_any (w : World) (ad : Option Addr) (len cap : Nat) (l : List Tr) (hr : RowAt trK w ad len cap l) (hl : len ≤ 1000000) : Calls Tryz.prog 85 #[.slice ad len cap] w (ClonedT w l) := by
  have hroom := hr.room
  have hlen := hr.length
  have HR := Lib.hid hr
  clear hr
  cases ad with
  | none =>
    have hc := hroom rfl
    have hfits := HR.out.fits
    have h0 : len = 0 := by omega
    subst hc
    subst h0
    obtain rfl : l = [] := List.eq_nil_of_length_eq_zero hlen
    have hnil : ∀ W, (binOp .eql 76 (.slice none 0 0) (.slice none 0 0)).run Tryz.prog W = .ok (.bool true) W := fun W => Lib.run_eql_slice_nil (P := Tryz.prog) W 76 79 none 0 0 0 0 Tryz.underlying76
    go_enter Tryz.func85, Tryz.ntmps85
    go_wp2
    go_ret
    exact ⟨none, 0, rfl, ownRow_nil _ _ _, Below.refl _ _⟩
  | some a =>
    have hnil : ∀ W, (binOp .eql 76 (.slice (some a) len cap) (.slice none 0 0)).run Tryz.prog W = .ok (.bool false) W := fun W => Lib.run_eql_slice_nil (P := Tryz.prog) W 76 79 (some a) len cap 0 0 Tryz.underlying76
    have HL := Lib.hid hlen
    clear hroom hlen
    go_enter Tryz.func85, Tryz.ntmps85
    go_wp2_with (at_builtin; refine list_row (by rfl) trK_ok (.tmp 5) (.tmp 6) rfl w.heap.size [] l _ rfl (ownRow_lit trK_ok w w.heap.size [] (Nat.le_refl _) (by simp) _ rfl 0 rfl) (by simp) (some a) len cap rfl (HR.out.keep ((Below.refl _ w).alloc (Nat.le_refl _) _)) (by rw [List.length_nil]; omega) ?_)
    rintro v' w' hap
    have HAP := Lib.hid hap
    clear hap
    go_wp2
    go_ret
    have h1 := HAP.out
    obtain ⟨ad', cap', rfl, _, _⟩ := OwnRow.row trK_ok h1.1 rfl
    refine ⟨ad', cap', rfl, h1.1, ?_⟩
    exact appended_below h1 (ownRow_lit trK_ok w w.heap.size [] (Nat.le_refl _) (by simp) _ rfl 0 rfl) ((Below.refl _ w).alloc (Nat.le_refl _) _) (Nat.le_refl _) (by simp)
theorem tcOpen_any (w : World) (id ep op : Int) (ad : Option Addr) (n cap : Nat) (r : Bool) (hr : decide (0 ≤ op) = r) :
    Calls Tryz.prog 46 #[.agg #[.int .i64 id, .int .i64 ep, .slice ad n cap, .int .i64 op]] w fun e w' => e = .returned (.bool r) ∧ Below w.heap.size w w' := by
  have HR := Lib.hid hr
  clear hr
  obtain ⟨W0, hW0⟩ : ∃ W0, W0 = (w.alloc (.cells #[.int .i64 id, .int .i64 ep, .slice ad n cap, .int .i64 op] 78)) := ⟨_, rfl⟩
  have HB0 : Hid (Below w.heap.size w W0) := by show Below _ _ _; rw [hW0]; exact (Below.refl _ _).alloc (Nat.le_refl _) _
  have HP0 : Hid (PBox W0 w.heap.size (id) (ep) (.slice ad n cap) (op)) := by
    show PBox _ w.heap.size (id) (ep) (.slice ad n cap) (op)
    rw [hW0]
    have h1 := pbox_new w (id) (ep) (.slice ad n cap) (op)
    simpa using h1
  have HW0 := Lib.hid hW0
  clear hW0
  obtain ⟨B1, hB1⟩ : ∃ B, B = w.heap.size := ⟨_, rfl⟩
  rw [← hB1] at HP0
  go_enter Tryz.func46, Tryz.ntmps46
  go_upto_region 1 with fail
  rw [← HW0.out, ← hB1]
  clear HW0 hB1
  have q3 := HP0.out.c3
  go_wp2
  go_ret
  exact ⟨by rw [← HR.out]; rfl, HB0.out⟩
theorem resultsCopied {tmps : Array Value} {B : Nat} {W : World} {b0 b1 b3 : Int} {v : Value} (h : PBox W B b0 b1 v b3) (ht : tmps.getD 2 undef = .pointer (some ⟨B, 0, none⟩)) :
    (results Tryz.f50 tmps).run Tryz.prog W = .ok (.agg #[.int .i64 b0, .int .i64 b1, v, .int .i64 b3]) W := by
  rw [results_cell_one (p := 2) (ty := 78) Tryz.results50, ht]
  have hl := run_loadVar_row (P := Tryz.prog) W B 78 78 _ (0, 0) _ h Tryz.underlying78 rfl (by kernel_rfl)
  simp only [asAddr, Sem.run_pure, Result.andThen, hl]
/-- A producer in new memory. -/
def GivesP (w : World) (p : Pd) (e : Ending) (w' : World) : Prop :=
  ∃ ad cap, e = .returned (.agg #[.int .i64 p.id, .int .i64 p.epoch, .slice ad p.last.length cap, .int .i64 p.opn]) ∧ OwnRow trK w' (w.heap.size + 2) (.slice ad p.last.length cap) p.last ∧ Below w.heap.size w w'
set_option maxRecDepth 100000 in
set_option maxHeartbeats 4000000 in
theorem tcCopied_any (w : World) (id ep op : Int) (last : List Tr) (ad : Option Addr) (n cap : Nat) (hl : RowAt trK w ad n cap last) (hn : n ≤ 1000000) :
    Calls Tryz.prog 50 #[.agg #[.int .i64 id, .int .i64 ep, .slice ad n cap, .int .i64 op]] w (GivesP w ⟨id, ep, last, op⟩) := by
  obtain ⟨W0, hW0⟩ : ∃ W0, W0 = ((w.alloc (.cells #[.int .i64 id, .int .i64 ep, .slice ad n cap, .int .i64 op] 78)).alloc (.cells #[.int .i64 0, .int .i64 0, .slice none 0 0, .int .i64 0] 78)) := ⟨_, rfl⟩
  have HB0 : Hid (Below w.heap.size w W0) := by show Below _ _ _; rw [hW0]; exact ((Below.refl _ _).alloc (Nat.le_refl _) _).alloc (by simp) _
  have HP0 : Hid (PBox W0 w.heap.size id ep (.slice ad n cap) op) := by
    show PBox _ _ _ _ _ _
    rw [hW0]
    exact (pbox_new w id ep (.slice ad n cap) op).on ((Below.refl _ _).alloc (by simp) _)
  have HQ0 : Hid (PBox W0 (w.heap.size + 1) 0 0 (.slice none 0 0) 0) := by
    show PBox _ _ _ _ _ _
    rw [hW0]
    have h1 := pbox_new (w.alloc (.cells #[.int .i64 id, .int .i64 ep, .slice ad n cap, .int .i64 op] 78)) 0 0 (.slice none 0 0) 0
    simpa using h1
  have HS0 : Hid (W0.heap.size = w.heap.size + 2) := by show _ = _; rw [hW0]; simp
  have HL0 := Lib.hid (hl.keep HB0.out)
  have hln := hl.length
  have HLN := Lib.hid hln
  clear hl hln
  have HW0 := Lib.hid hW0
  clear hW0
  obtain ⟨B1, hB1⟩ : ∃ B, B = w.heap.size := ⟨_, rfl⟩
  obtain ⟨B2, hB2⟩ : ∃ B, B = w.heap.size + 1 := ⟨_, rfl⟩
  have HBN : Hid (B1 = w.heap.size ∧ B2 = w.heap.size + 1) := ⟨hB1, hB2⟩
  rw [← hB1] at HP0
  rw [← hB2] at HQ0
  go_enter Tryz.func50, Tryz.ntmps50
  go_upto_region 1 with fail
  rw [← HW0.out, ← hB2, ← hB1]
  clear HW0 hB1 hB2
  have q2 := HP0.out.c2
  have g2 := HP0.out.free 2
  go_wp2_with fail
  refine (trClone_any W0 ad n cap last HL0.out hn).mono ?_
  rintro e w1 ⟨ad1, cap1, rfl, ho, hb⟩
  have HO := Lib.hid ho
  have HB1 := Lib.hid (HB0.out.trans (hb.mono HB0.out.size))
  have HP1 := Lib.hid (HP0.out.on hb)
  have HQ1 := Lib.hid (HQ0.out.on hb)
  clear ho hb q2 g2 HP0 HQ0
  have q2 := HP1.out.c2
  have g2 := HP1.out.free 2
  go_upto_region 2 with fail
  obtain ⟨w2, hw2⟩ : ∃ z, z = w1.setCell ⟨B1, 2, none⟩ (.slice ad1 last.length cap1) := ⟨_, rfl⟩
  rw [← hw2]
  have hne : B2 ≠ B1 := by have := HBN.out; omega
  have HP2 : Hid (PBox w2 B1 id ep (.slice ad1 last.length cap1) op) := by show PBox _ _ _ _ _ _; rw [hw2]; exact HP1.out.s2 _
  have HQ2 : Hid (PBox w2 B2 0 0 (.slice none 0 0) 0) := by show PBox _ _ _ _ _ _; rw [hw2]; exact HQ1.out.off hne.symm _
  have HB2 : Hid (Below w.heap.size w w2) := by show Below _ _ _; rw [hw2]; exact HB1.out.setCell (show w.heap.size ≤ B1 by have := HBN.out; omega) _
  have HO2 : Hid (OwnRow trK w2 (w.heap.size + 2) (.slice ad1 last.length cap1) last) := by
    show OwnRow _ _ _ _ _
    have h1 := HO.out
    rw [HS0.out] at h1
    rw [hw2]
    exact h1.grown (grow_set (grow_refl w1 _) 2 _) (fun k hk e => by have := (h1.lt k hk).1; have := HBN.out; cases e; omega)
  clear hw2 HP1 HQ1 HB1 HO q2 g2
  have q0 := HP2.out.c0
  have q1 := HP2.out.c1
  have q2 := HP2.out.c2
  have q3 := HP2.out.c3
  have r0 := HQ2.out.c0
  have r1 := HQ2.out.c1
  have r2 := HQ2.out.c2
  have r3 := HQ2.out.c3
  have f0 := HQ2.out.free 0
  have f1 := HQ2.out.free 1
  have f2 := HQ2.out.free 2
  have f3 := HQ2.out.free 3
  go_wp2
  have hk : ∀ W (j : Nat) (u : Value), OwnRow trK W (w.heap.size + 2) (.slice ad1 last.length cap1) last → OwnRow trK (W.setCell ⟨B2, j, none⟩ u) (w.heap.size + 2) (.slice ad1 last.length cap1) last := fun W j u h =>
    h.grown (grow_set (grow_refl W _) j u) (fun k hk e => by have := (h.lt k hk).1; have := HBN.out; cases e; omega)
  have hB2 : w.heap.size ≤ B2 := by have := HBN.out; omega
  have hfin : GivesP w ⟨id, ep, last, op⟩ (.returned (.agg #[.int .i64 id, .int .i64 ep, .slice ad1 last.length cap1, .int .i64 op])) ((((w2.setCell ⟨B2, 0, none⟩ (.int .i64 id)).setCell ⟨B2, 1, none⟩ (.int .i64 ep)).setCell ⟨B2, 2, none⟩ (.slice ad1 last.length cap1)).setCell ⟨B2, 3, none⟩ (.int .i64 op)) :=
    ⟨ad1, cap1, rfl, hk _ _ _ (hk _ _ _ (hk _ _ _ (hk _ _ _ HO2.out))), (((HB2.out.setCell hB2 _).setCell hB2 _).setCell hB2 _).setCell hB2 _⟩
  exact bodyPost_ret (v := .agg #[.int .i64 id, .int .i64 ep, .slice ad1 last.length cap1, .int .i64 op]) (resultsCopied ((((HQ2.out.s0 id).s1 ep).s2 (.slice ad1 last.length cap1)).s3 op) rfl) rfl hfin
end Go.Proofs.YtgohekjkbgfeeaaGreat
namespace Go.Proofs.YtgohekjkbgfeeaaGreat
open Go.RowKit
open Go.SnapMath
open Go.ProdMath
open Go.BatMath hiding AllB getD_lt take_all
set_option linter.unusedVariables false

theorem resultsSnState {tmps : Array Value} {B : Nat} {W : World} {b0 b1 b3 : Int} {v x : Value} (h : PBox W B b0 b1 v b3) (ht : tmps.getD 2 undef = .pointer (some ⟨B, 0, none⟩)) (hx : tmps.getD 3 undef = x) :
    (results Tryz.f74 tmps).run Tryz.prog W = .ok (.tuple #[.agg #[.int .i64 b0, .int .i64 b1, v, .int .i64 b3], x]) W := by
  rw [results_cell_tmp (p := 2) (u := 3) (ty := 78) Tryz.results74, ht]
  have hl := run_loadVar_row (P := Tryz.prog) W B 78 78 _ (0, 0) _ h Tryz.underlying78 rfl (by kernel_rfl)
  simp only [asAddr, Sem.run_pure, Result.andThen, hl, hx]
/-- A state that is right, or none. -/
def GivesSnState (w0 w : World) (k : Nat) (bs : List Nat) (e : Ending) (w' : World) : Prop :=
  w.grownBy w' (some k) ∧ ((∃ p ad cap b, e = .returned (.tuple #[.agg #[.int .i64 p.id, .int .i64 p.epoch, .slice ad p.last.length cap, .int .i64 p.opn], .bool true]) ∧ RowAt trK w' ad p.last.length cap p.last ∧ (∀ a, ad = some a → w.heap.size ≤ a.block ∧ a.block < w'.heap.size) ∧ KrAt w0 w' k b false ∧ RightP p ∧ In64 p.id ∧ bs = pdS p ++ b) ∨
    (∃ b0 b1 va vn vc b3, e = .returned (.tuple #[.agg #[.int .i64 b0, .int .i64 b1, .slice va vn vc, .int .i64 b3], .bool false]) ∧ StNo bs))
set_option maxRecDepth 100000 in
set_option maxHeartbeats 8000000 in
theorem snState_any (w1 wo : World) (k : Nat) (b : List Nat) (h : KrAt w1 wo k b false) (hL : b.length ≤ 1048600) :
    Calls Tryz.prog 74 #[.pointer (some ⟨k, 0, none⟩)] wo (GivesSnState w1 wo k b) := by
  have HRD := Lib.hid h
  clear h
  obtain ⟨⟨pid, c1, g1⟩, e1⟩ : ∃ r, rdN b false = r := ⟨_, rfl⟩
  obtain ⟨⟨pep, c2, g2⟩, e2⟩ : ∃ r, rdN c1 g1 = r := ⟨_, rfl⟩
  obtain ⟨⟨po, c3, g3⟩, e3⟩ : ∃ r, rdN c2 g2 = r := ⟨_, rfl⟩
  obtain ⟨⟨kk, c4, g4⟩, e4⟩ : ∃ r, rdN c3 g3 = r := ⟨_, rfl⟩
  obtain ⟨⟨pl, c5, g5⟩, e5⟩ : ∃ r, rdF kk.toNat c4 g4 = r := ⟨_, rfl⟩
  have l1 := (rdN_len b false).1
  have l2 := (rdN_len c1 g1).1
  have l3 := (rdN_len c2 g2).1
  have l4 := (rdN_len c3 g3).1
  have l5 := rdF_len kk.toNat c4 g4
  have hik := rdN_in c3 g3
  have hi1 := rdN_in b false
  have hi2 := rdN_in c1 g1
  have hi3 := rdN_in c2 g2
  rw [e1] at l1 hi1
  rw [e2] at l2 hi2
  rw [e3] at l3 hi3
  rw [e4] at l4 hik
  rw [e5] at l5
  simp only at l1 l2 l3 l4 l5 hik hi1 hi2 hi3
  have HE1 := Lib.hid e1
  have HE2 := Lib.hid e2
  have HE3 := Lib.hid e3
  have HE4 := Lib.hid e4
  have HE5 := Lib.hid e5
  have HK0' : Hid (b.length ≤ 140737488355328) := by show _ ≤ _; omega
  have HK1 : Hid (c1.length ≤ 140737488355328) := by show _ ≤ _; omega
  have HK2 : Hid (c2.length ≤ 140737488355328) := by show _ ≤ _; omega
  have HK3 : Hid (c3.length ≤ 140737488355328) := by show _ ≤ _; omega
  have HK4 : Hid (c4.length ≤ 1048600) := by show _ ≤ _; omega
  have HPLL : Hid (pl.length = kk.toNat) := l5.1
  have HNOR : Hid (pep < 0 ∨ 32767 < pep ∨ kk < 0 ∨ 5 < kk → StNo b) := state_range e1 e2 e3 e4
  have HNOF : Hid (g5 = true → StNo b) := state_fell e1 e2 e3 e4 e5
  have HIK := Lib.hid hik
  have HI1 := Lib.hid hi1
  clear e1 e2 e3 e4 e5 l1 l2 l3 l4 l5 hL hik hi1 hi2 hi3
  go_enter Tryz.func74, Tryz.ntmps74
  go_upto_region 1 with fail
  obtain ⟨W0, hW0⟩ : ∃ z, z = wo.alloc (.cells #[.int .i64 0, .int .i64 0, .slice none 0 0, .int .i64 0] 78) := ⟨_, rfl⟩
  obtain ⟨Rb, hRb⟩ : ∃ z, z = wo.heap.size := ⟨_, rfl⟩
  have HRB : Hid (PBox W0 Rb 0 0 (.slice none 0 0) 0) := by show PBox _ _ _ _ _ _; rw [hW0, hRb]; exact pbox_new wo _ _ _ _
  have HRW : Hid (wo.heap.size ≤ Rb) := by show _ ≤ _; rw [hRb]; exact Nat.le_refl _
  have hb0 : Below wo.heap.size wo W0 := by rw [hW0]; exact (Below.refl _ _).alloc (Nat.le_refl _) _
  have HKR : Hid (k < Rb) := by show _ < _; rw [hRb]; exact HRD.out.lt
  have HR0 := Lib.hid (HRD.out.on hb0)
  have HG0 : Hid (wo.grownBy W0 (some k)) := grow_below (grow_refl _ _) hb0
  rw [← hW0, ← hRb]
  clear hW0 hRb hb0 HRD
  go_wp2_with fail
  refine (snNext_any w1 W0 k _ _ HR0.out HK0'.out).mono ?_
  rintro e wa ⟨rfl, hr, hg⟩
  rw [HE1.out] at hr ⊢
  have HRa := Lib.hid hr
  have HGa : Hid (wo.grownBy wa (some k)) := grow_trans HG0.out hg
  have HRBa := Lib.hid (HRB.out.grown hg (fun e => by have := HKR.out; cases e; omega))
  clear hr hg HR0 HG0 HRB
  go_wp2_with fail
  refine (snNext_any w1 wa k _ _ HRa.out HK1.out).mono ?_
  rintro e wb ⟨rfl, hr, hg⟩
  rw [HE2.out] at hr ⊢
  have HRb := Lib.hid hr
  have HGb : Hid (wo.grownBy wb (some k)) := grow_trans HGa.out hg
  have HRBb := Lib.hid (HRBa.out.grown hg (fun e => by have := HKR.out; cases e; omega))
  clear hr hg HRa HGa HRBa
  go_wp2_with fail
  refine (snNext_any w1 wb k _ _ HRb.out HK2.out).mono ?_
  rintro e wc ⟨rfl, hr, hg⟩
  rw [HE3.out] at hr ⊢
  have HRc := Lib.hid hr
  have HGc : Hid (wo.grownBy wc (some k)) := grow_trans HGb.out hg
  have HRBc := Lib.hid (HRBb.out.grown hg (fun e => by have := HKR.out; cases e; omega))
  clear hr hg HRb HGb HRBb
  go_wp2_with fail
  refine (snNext_any w1 wc k _ _ HRc.out HK3.out).mono ?_
  rintro e wd ⟨rfl, hr, hg⟩
  rw [HE4.out] at hr ⊢
  have HRd := Lib.hid hr
  have HGd : Hid (wo.grownBy wd (some k)) := grow_trans HGc.out hg
  have HRBd := Lib.hid (HRBc.out.grown hg (fun e => by have := HKR.out; cases e; omega))
  clear hr hg HRc HGc HRBc
  by_cases hbad : pep < 0 ∨ 32767 < pep ∨ kk < 0 ∨ 5 < kk
  · have HNO : Hid (StNo b) := HNOR.out hbad
    have r0 := HRBd.out.c0
    have r1 := HRBd.out.c1
    have r2 := HRBd.out.c2
    have r3 := HRBd.out.c3
    have f0 := HRBd.out.free 0
    have f1 := HRBd.out.free 1
    have f2 := HRBd.out.free 2
    have f3 := HRBd.out.free 3
    have HEND : Hid (PBox ((((wd.setCell ⟨Rb, 0, none⟩ (.int .i64 0)).setCell ⟨Rb, 1, none⟩ (.int .i64 0)).setCell ⟨Rb, 2, none⟩ (.slice none 0 0)).setCell ⟨Rb, 3, none⟩ (.int .i64 0)) Rb 0 0 (.slice none 0 0) 0 ∧ wo.grownBy ((((wd.setCell ⟨Rb, 0, none⟩ (.int .i64 0)).setCell ⟨Rb, 1, none⟩ (.int .i64 0)).setCell ⟨Rb, 2, none⟩ (.slice none 0 0)).setCell ⟨Rb, 3, none⟩ (.int .i64 0)) (some k)) :=
      ⟨(((HRBd.out.s0 0).s1 0).s2 (.slice none 0 0)).s3 0, grow_new (grow_new (grow_new (grow_new HGd.out HRW.out _) HRW.out _) HRW.out _) HRW.out _⟩
    have hcs : pep < 0 ∨ (¬ pep < 0 ∧ 32767 < pep) ∨ (¬ pep < 0 ∧ ¬ 32767 < pep ∧ kk < 0) ∨ (¬ pep < 0 ∧ ¬ 32767 < pep ∧ ¬ kk < 0 ∧ 5 < kk) := by omega
    clear hbad HRBd HGd HRd
    rcases hcs with h1 | ⟨h1, h2⟩ | ⟨h1, h2, h3⟩ | ⟨h1, h2, h3, h4⟩
    · have d1 : decide (pep < 0) = true := decide_eq_true h1
      go_wp2
      refine bodyPost_ret (v := .tuple #[.agg #[.int .i64 0, .int .i64 0, .slice none 0 0, .int .i64 0], .bool false]) (resultsSnState HEND.out.1 rfl rfl) rfl ?_
      exact ⟨HEND.out.2, .inr ⟨0, 0, _, _, _, 0, rfl, HNO.out⟩⟩
    · have d1 : decide (pep < 0) = false := decide_eq_false h1
      have d2 : decide (32767 < pep) = true := decide_eq_true h2
      go_wp2
      refine bodyPost_ret (v := .tuple #[.agg #[.int .i64 0, .int .i64 0, .slice none 0 0, .int .i64 0], .bool false]) (resultsSnState HEND.out.1 rfl rfl) rfl ?_
      exact ⟨HEND.out.2, .inr ⟨0, 0, _, _, _, 0, rfl, HNO.out⟩⟩
    · have d1 : decide (pep < 0) = false := decide_eq_false h1
      have d2 : decide (32767 < pep) = false := decide_eq_false h2
      have d3 : decide (kk < 0) = true := decide_eq_true h3
      go_wp2
      refine bodyPost_ret (v := .tuple #[.agg #[.int .i64 0, .int .i64 0, .slice none 0 0, .int .i64 0], .bool false]) (resultsSnState HEND.out.1 rfl rfl) rfl ?_
      exact ⟨HEND.out.2, .inr ⟨0, 0, _, _, _, 0, rfl, HNO.out⟩⟩
    · have d1 : decide (pep < 0) = false := decide_eq_false h1
      have d2 : decide (32767 < pep) = false := decide_eq_false h2
      have d3 : decide (kk < 0) = false := decide_eq_false h3
      have d4 : decide (5 < kk) = true := decide_eq_true h4
      go_wp2
      refine bodyPost_ret (v := .tuple #[.agg #[.int .i64 0, .int .i64 0, .slice none 0 0, .int .i64 0], .bool false]) (resultsSnState HEND.out.1 rfl rfl) rfl ?_
      exact ⟨HEND.out.2, .inr ⟨0, 0, _, _, _, 0, rfl, HNO.out⟩⟩
  · have d1 : decide (pep < 0) = false := decide_eq_false (by omega)
    have d2 : decide (32767 < pep) = false := decide_eq_false (by omega)
    have d3 : decide (kk < 0) = false := decide_eq_false (by omega)
    have d4 : decide (5 < kk) = false := decide_eq_false (by omega)
    obtain ⟨kn, rfl⟩ : ∃ kn : Nat, kk = (kn : Int) := ⟨kk.toNat, by omega⟩
    have hkn : kn ≤ 5 := by omega
    have HKN : Hid (pl.length = kn) := by have h1 := HPLL.out; rwa [Int.toNat_natCast] at h1
    have hE5 := HE5.out
    rw [Int.toNat_natCast] at hE5
    have HE5n := Lib.hid hE5
    clear hbad hE5 HNOR
    go_upto_region 5 with fail
    obtain ⟨W4, hW4⟩ : ∃ x, x = wd.alloc (.cells #[.int .i64 pid, .int .i64 pep, .slice none 0 0, .int .i64 po] 78) := ⟨_, rfl⟩
    obtain ⟨P, hP⟩ : ∃ x, x = wd.heap.size := ⟨_, rfl⟩
    have hb4 : Below wd.heap.size wd W4 := by rw [hW4]; exact (Below.refl _ _).alloc (Nat.le_refl _) _
    have HP4 : Hid (PBox W4 P pid pep (.slice none 0 0) po) := by show PBox _ _ _ _ _ _; rw [hW4, hP]; exact pbox_new wd _ _ _ _
    have HKP : Hid (k < P) := by show _ < _; rw [hP]; exact HRd.out.lt
    have HRP : Hid (Rb < P) := by show _ < _; rw [hP]; exact HRBd.out.lt
    have HWP : Hid (wo.heap.size ≤ P) := by show _ ≤ _; rw [hP]; exact HGd.out.size
    have HR4 := Lib.hid (HRd.out.on hb4)
    have HRB4 := Lib.hid (HRBd.out.on hb4)
    have HG4 : Hid (wo.grownBy W4 (some k)) := grow_below HGd.out hb4
    rw [← hW4, ← hP]
    clear hW4 hP hb4 HRd HRBd HGd
    go_wp2
    go_loopw [37] (fun v37 wr => ∃ (i : Nat) (ci : List Nat) (gi : Bool) (v : Value) (xs : List Tr), v37 = .int .i64 (i : Int) ∧ i ≤ kn ∧ Hid (PBox wr P pid pep v po) ∧ Hid (OwnRow trK wr (P + 1) v xs) ∧ Hid (KrAt w1 wr k ci gi) ∧ Hid (PBox wr Rb 0 0 (.slice none 0 0) 0) ∧ Hid (wo.grownBy wr (some k)) ∧ Hid (rdF i c4 g4 = (xs, ci, gi)) ∧ Hid (ci.length ≤ 1048600)) (fun v37 _ => kn - (intOf v37).toNat)
    case atStart => exact ⟨0, c4, g4, _, [], rfl, Nat.zero_le _, HP4.out, ownRow_nil trK _ _, HR4.out, HRB4.out, HG4.out, rfl, HK4.out⟩
    case round =>
      obtain ⟨i, ci, gi, v, xs, rfl, hi, HP, HO, HR, HRB, HG, HX, HCL⟩ := hrel
      clear HP4 HR4 HRB4 HG4
      obtain ⟨wi, hwi⟩ : ∃ wi : World, wi = wr := ⟨_, rfl⟩
      subst hwi
      by_cases hlt : i < kn
      · have hd2 : decide (i < kn) = true := decide_eq_true hlt
        have hil : (i : Int) < (kn : Int) := by omega
        obtain ⟨⟨xf, e1, j1⟩, q1⟩ : ∃ r, rdN ci gi = r := ⟨_, rfl⟩
        obtain ⟨⟨xl, e2, j2⟩, q2⟩ : ∃ r, rdN e1 j1 = r := ⟨_, rfl⟩
        obtain ⟨⟨xb, e3, j3⟩, q3⟩ : ∃ r, rdN e2 j2 = r := ⟨_, rfl⟩
        have HXS : Hid (rdF (i + 1) c4 g4 = (xs ++ [⟨xf, xl, xb⟩], e3, j3)) := rdF_succ HX.out (rdTr_of q1 q2 q3)
        have a1 := (rdN_len ci gi).1
        have a2 := (rdN_len e1 j1).1
        have a3 := (rdN_len e2 j2).1
        rw [q1] at a1
        rw [q2] at a2
        rw [q3] at a3
        simp only at a1 a2 a3
        have hcl : ci.length ≤ 1048600 := HCL.out
        have HCI : Hid (ci.length ≤ 140737488355328) := by show _ ≤ _; omega
        have HD1 : Hid (e1.length ≤ 140737488355328) := by show _ ≤ _; omega
        have HD2 : Hid (e2.length ≤ 140737488355328) := by show _ ≤ _; omega
        have HD3 : Hid (e3.length ≤ 1048600) := by show _ ≤ _; omega
        have HXL : Hid (xs.length ≤ 5) := by
          show _ ≤ _
          have h1 := (rdF_len i c4 g4).1
          rw [HX.out] at h1
          have h2 : xs.length = i := h1
          omega
        have HF1 := Lib.hid q1
        have HF2 := Lib.hid q2
        have HF3 := Lib.hid q3
        have HKE : Hid (∀ j, v.ownBlock = some j → P + 1 ≤ j) := fun j hj => (HO.out.lt j hj).1
        clear q1 q2 q3 hcl a1 a2 a3 HX HCL
        go_upto_region 7 with fail
        have hdrw : wi.grownBy wi.drew (some k) := ⟨rfl, rfl, rfl, Nat.le_refl _, fun _ _ _ => rfl⟩
        refine wp_region_noPanic ?_
        refine wp_region_z [12] (fun (V : World) => V.cell? ⟨P, 2, none⟩ = some v) (by kernel_rfl) ?_
        have hHeld : (fun (V : World) => V.cell? ⟨P, 2, none⟩ = some v) _ := (HP.out.grown hdrw (fun e => Nat.lt_irrefl _ (show k < k from (Option.some.inj e) ▸ HKP.out))).c2
        obtain ⟨u0, hu0⟩ : ∃ u, u = wi.drew := ⟨_, rfl⟩
        rw [← hu0] at hHeld hdrw
        rw [← hu0]
        have hb0 : Below wi.heap.size wi u0 := by rw [hu0]; exact (Below.refl _ _).drew
        have HP0 := Lib.hid (HP.out.grown hdrw (fun e => Nat.lt_irrefl _ (show k < k from (Option.some.inj e) ▸ HKP.out)))
        have HO0 := Lib.hid (HO.out.on hb0)
        have HR0 := Lib.hid (HR.out.on hb0)
        have HRB0 := Lib.hid (HRB.out.on hb0)
        have HG0 : Hid (wo.grownBy u0 (some k)) := grow_trans HG.out hdrw
        clear hu0 hdrw hb0 HP HO HR HRB HG
        refine wpAnyZ_take (i := 0) (oi := ⟨_, _, _, _, _, _⟩) (v := ?_) rfl (by kernel_rfl) (by kernel_rfl) (by kernel_rfl) (by kernel_rfl) (by kernel_rfl) (fun _ _ _ h => h) (Or.inl ⟨by rfl, ?_⟩) (by assumption) ?_
        rotate_left
        · intro W hSw
          (try dsimp only at hSw)
          go_simp
          (try with_reducible rfl)
        (try simp only [Act.put, List.setIfInBounds_toArray, List.set_cons_zero, List.set_cons_succ])
        refine wpAnyZ_take (i := 1) (oi := ⟨_, _, _, _, _, _⟩) (v := ?_) rfl (by kernel_rfl) (by kernel_rfl) (by kernel_rfl) (by kernel_rfl) (by kernel_rfl) (fun _ _ _ h => h) (Or.inl ⟨by rfl, ?_⟩) (by assumption) ?_
        rotate_left
        · intro W hSw
          (try dsimp only at hSw)
          go_simp
          (try with_reducible rfl)
        (try simp only [Act.put, List.setIfInBounds_toArray, List.set_cons_zero, List.set_cons_succ])
        refine wpAnyZ_take (i := 2) (oi := ⟨_, _, _, _, _, _⟩) (v := ?_) rfl (by kernel_rfl) (by kernel_rfl) (by kernel_rfl) (by kernel_rfl) (by kernel_rfl) (fun _ _ _ h => h) (Or.inl ⟨by rfl, ?_⟩) (by assumption) ?_
        rotate_left
        · intro W hSw
          (try dsimp only at hSw)
          go_simp
          (try with_reducible rfl)
        (try simp only [Act.put, List.setIfInBounds_toArray, List.set_cons_zero, List.set_cons_succ])
        refine wpAnyZ_take (i := 4) (oi := ⟨_, _, _, _, _, _⟩) (v := ?_) rfl (by kernel_rfl) (by kernel_rfl) (by kernel_rfl) (by kernel_rfl) (by kernel_rfl) (fun _ _ _ h => h) (Or.inl ⟨by rfl, ?_⟩) (by assumption) ?_
        rotate_left
        · intro W hSw
          (try dsimp only at hSw)
          go_simp
          (try with_reducible rfl)
        (try simp only [Act.put, List.setIfInBounds_toArray, List.set_cons_zero, List.set_cons_succ])
        refine wpAnyZ_take (i := 6) (oi := ⟨_, _, _, _, _, _⟩) (v := ?_) rfl (by kernel_rfl) (by kernel_rfl) (by kernel_rfl) (by kernel_rfl) (by kernel_rfl) (fun _ _ _ h => h) (Or.inl ⟨by rfl, ?_⟩) (by assumption) ?_
        rotate_left
        · intro W hSw
          (try dsimp only at hSw)
          go_simp
          (try with_reducible rfl)
        (try simp only [Act.put, List.setIfInBounds_toArray, List.set_cons_zero, List.set_cons_succ])
        refine wpAnyZ_ready (rs := [3]) (by kernel_rfl) (by simp) ?_
        refine AllReadyZ.cons (o := ⟨_, _, _, _, _, _⟩) rfl (fun C hC => ?_) AllReadyZ.nil
        go_simp
        refine (snNext_any w1 u0 k _ _ HR0.out HCI.out).mono ?_
        rintro e u1 ⟨rfl, hr, hg⟩
        rw [HF1.out] at hr ⊢
        have HP1 := Lib.hid (HP0.out.grown hg (fun e => Nat.lt_irrefl _ (show k < k from (Option.some.inj e) ▸ HKP.out)))
        have HRB1 := Lib.hid (HRB0.out.grown hg (fun e => by have := HKR.out; cases e; omega))
        have HO1 := Lib.hid (HO0.out.grown hg (fun q hq e => by have := HKE.out q hq; have := HKP.out; cases e; omega))
        have HR1 := Lib.hid hr
        have HG1 : Hid (wo.grownBy u1 (some k)) := grow_trans HG0.out hg
        clear hr hg HP0 HO0 HR0 HRB0 HG0
        have hHeld : (fun (V : World) => V.cell? ⟨P, 2, none⟩ = some v) u1 := HP1.out.c2
        refine hC.out _ _ (fun _ => hHeld) (fun _ => ?_)
        clear hC C
        (try dsimp only)
        refine wpAnyZ_ready (rs := [5]) (by kernel_rfl) (by simp) ?_
        refine AllReadyZ.cons (o := ⟨_, _, _, _, _, _⟩) rfl (fun C hC => ?_) AllReadyZ.nil
        go_simp
        refine (snNext_any w1 u1 k _ _ HR1.out HD1.out).mono ?_
        rintro e u2 ⟨rfl, hr, hg⟩
        rw [HF2.out] at hr ⊢
        have HP2 := Lib.hid (HP1.out.grown hg (fun e => Nat.lt_irrefl _ (show k < k from (Option.some.inj e) ▸ HKP.out)))
        have HRB2 := Lib.hid (HRB1.out.grown hg (fun e => by have := HKR.out; cases e; omega))
        have HO2 := Lib.hid (HO1.out.grown hg (fun q hq e => by have := HKE.out q hq; have := HKP.out; cases e; omega))
        have HR2 := Lib.hid hr
        have HG2 : Hid (wo.grownBy u2 (some k)) := grow_trans HG1.out hg
        clear hr hg HP1 HO1 HR1 HRB1 HG1
        have hHeld : (fun (V : World) => V.cell? ⟨P, 2, none⟩ = some v) u2 := HP2.out.c2
        refine hC.out _ _ (fun _ => hHeld) (fun _ => ?_)
        clear hC C
        (try dsimp only)
        refine wpAnyZ_ready (rs := [7]) (by kernel_rfl) (by simp) ?_
        refine AllReadyZ.cons (o := ⟨_, _, _, _, _, _⟩) rfl (fun C hC => ?_) AllReadyZ.nil
        go_simp
        refine (snNext_any w1 u2 k _ _ HR2.out HD2.out).mono ?_
        rintro e u3 ⟨rfl, hr, hg⟩
        rw [HF3.out] at hr ⊢
        have HP3 := Lib.hid (HP2.out.grown hg (fun e => Nat.lt_irrefl _ (show k < k from (Option.some.inj e) ▸ HKP.out)))
        have HRB3 := Lib.hid (HRB2.out.grown hg (fun e => by have := HKR.out; cases e; omega))
        have HO3 := Lib.hid (HO2.out.grown hg (fun q hq e => by have := HKE.out q hq; have := HKP.out; cases e; omega))
        have HR3 := Lib.hid hr
        have HG3 : Hid (wo.grownBy u3 (some k)) := grow_trans HG2.out hg
        clear hr hg HP2 HO2 HR2 HRB2 HG2
        have hHeld : (fun (V : World) => V.cell? ⟨P, 2, none⟩ = some v) u3 := HP3.out.c2
        refine hC.out _ _ (fun _ => hHeld) (fun _ => ?_)
        clear hC C
        (try dsimp only)
        refine wpAnyZ_take (i := 8) (oi := ⟨_, _, _, _, _, _⟩) (v := ?_) rfl (by kernel_rfl) (by kernel_rfl) (by kernel_rfl) (by kernel_rfl) (by kernel_rfl) (fun _ _ _ h => h) (Or.inl ⟨by rfl, ?_⟩) (by assumption) ?_
        rotate_left
        · intro W hSw
          (try dsimp only at hSw)
          go_simp
          (try with_reducible rfl)
        (try simp only [Act.put, List.setIfInBounds_toArray, List.set_cons_zero, List.set_cons_succ])
        refine wpAnyZ_ready (rs := [9]) (by kernel_rfl) (by simp) ?_
        refine AllReadyZ.cons (o := ⟨_, _, _, _, _, _⟩) rfl (fun C hC => ?_) AllReadyZ.nil
        go_simp
        obtain ⟨u4, hu4⟩ : ∃ u, u = u3.alloc (.cells #[.int .i64 xf, .int .i64 xl, .int .i64 xb] 79) := ⟨_, rfl⟩
        have hb4 : Below u3.heap.size u3 u4 := by rw [hu4]; exact (Below.refl _ _).alloc (Nat.le_refl _) _
        have HX4 : Hid (RowAt trK u4 (some ⟨u3.heap.size, 0, none⟩) 1 1 [⟨xf, xl, xb⟩]) := by show RowAt _ _ _ _ _ _; rw [hu4]; exact rowAt_lit trK_ok u3 [⟨xf, xl, xb⟩] (by simp) _ rfl 1 rfl
        have HP4 := Lib.hid (HP3.out.on hb4)
        have HO4 := Lib.hid (HO3.out.on hb4)
        have HR4 := Lib.hid (HR3.out.on hb4)
        have HRB4 := Lib.hid (HRB3.out.on hb4)
        have HG4 : Hid (wo.grownBy u4 (some k)) := grow_below HG3.out hb4
        obtain ⟨G0, hG0⟩ : ∃ G, G = u3.heap.size := ⟨_, rfl⟩
        rw [← hG0] at HX4
        rw [← hu4, ← hG0]
        clear hu4 hb4 hG0 HP3 HO3 HR3 HRB3 HG3
        have hHeld : (fun (V : World) => V.cell? ⟨P, 2, none⟩ = some v) u4 := HP4.out.c2
        refine hC.out _ _ (fun _ => hHeld) (fun _ => ?_)
        clear hC C
        (try simp only [Act.put, List.setIfInBounds_toArray, List.set_cons_zero, List.set_cons_succ])
        refine wpAnyZ_ready (rs := [10]) (by kernel_rfl) (by simp) ?_
        refine AllReadyZ.cons (o := ⟨_, _, _, _, _, _⟩) rfl (fun C hC => ?_) AllReadyZ.nil
        refine held_row (by rfl) trK_ok (.tmp 40) (.tmp 48) rfl (P + 1) xs [⟨xf, xl, xb⟩] _ rfl HO4.out HP4.out.lt (some ⟨G0, 0, none⟩) 1 1 rfl HX4.out (by have h0 : xs.length ≤ 5 := HXL.out; omega) ?_
        rintro v2 u5 hap
        obtain ⟨n2, hn2⟩ : ∃ n, (xs ++ [(⟨xf, xl, xb⟩ : Tr)]).length = n := ⟨_, rfl⟩
        obtain ⟨ad2, cap2, hv2, hr2, hk2⟩ := OwnRow.row trK_ok hap.1 hn2
        subst hv2
        have HP5 := Lib.hid (HP4.out.grown hap.2.1 (fun e => by have := HKE.out P e; omega))
        have HO5 := Lib.hid hap.1
        have HR5 := Lib.hid (HR4.out.grown hap.2.1 (fun q hq => by have := HKE.out q hq; have := HKP.out; have := HR4.out.old; constructor <;> omega))
        have HRB5 := Lib.hid (HRB4.out.grown hap.2.1 (fun e => by have := HKE.out Rb e; have := HRP.out; omega))
        have HG5 : Hid (wo.grownBy u5 (some k)) := grow_own HG4.out hap.2.1 (fun q hq => by have := HKE.out q hq; have := HWP.out; omega)
        have r2 := HP5.out.c2
        have f2 := HP5.out.free 2
        clear hap hr2 hk2 hn2 HP4 HO4 HR4 HRB4 HG4 HX4
        have hHeld : (fun (V : World) => V.cell? ⟨P, 2, none⟩ = some v) u5 := HP5.out.c2
        refine hC.out _ _ (fun _ => hHeld) (fun _ => ?_)
        clear hC C
        (try simp only [Act.put, List.setIfInBounds_toArray, List.set_cons_zero, List.set_cons_succ])
        refine wpAnyZ_take (i := 11) (oi := ⟨_, _, _, _, _, _⟩) (v := ?_) rfl (by kernel_rfl) (by kernel_rfl) (by kernel_rfl) (by kernel_rfl) (by kernel_rfl) (fun _ _ _ h => h) (Or.inl ⟨by rfl, ?_⟩) (by assumption) ?_
        rotate_left
        · intro W hSw
          (try dsimp only at hSw)
          go_simp
          (try with_reducible rfl)
        (try simp only [Act.put, List.setIfInBounds_toArray, List.set_cons_zero, List.set_cons_succ])
        refine wpAnyZ_ready (rs := [12]) (by kernel_rfl) (by simp) ?_
        refine AllReadyZ.cons (o := ⟨_, _, _, _, _, _⟩) rfl (fun C hC => ?_) AllReadyZ.nil
        go_simp
        refine hC.out _ _ (zfree_no (by kernel_rfl)) (fun _ => ?_)
        clear hC C
        (try simp only [Act.put, List.setIfInBounds_toArray, List.set_cons_zero, List.set_cons_succ])
        refine wpAnyZ_done (by kernel_rfl) ?_ _
        refine NoPanic.normal ?_
        clear hHeld
        obtain ⟨u6, hu6⟩ : ∃ x, x = u5.setCell ⟨P, 2, none⟩ (.slice ad2 n2 cap2) := ⟨_, rfl⟩
        have HP6 : Hid (PBox u6 P pid pep (.slice ad2 n2 cap2) po) := by show PBox _ _ _ _ _ _; rw [hu6]; exact HP5.out.s2 _
        have HO6 : Hid (OwnRow trK u6 (P + 1) (.slice ad2 n2 cap2) (xs ++ [⟨xf, xl, xb⟩])) := by show OwnRow _ _ _ _ _; rw [hu6]; exact HO5.out.off (Nat.lt_succ_self P) _ _
        have HR6 : Hid (KrAt w1 u6 k e3 j3) := by show KrAt _ _ _ _ _; rw [hu6]; exact HR5.out.off (Nat.ne_of_gt HKP.out) (Nat.le_trans HR5.out.old (Nat.le_of_lt HKP.out)) _
        have HRB6 : Hid (PBox u6 Rb 0 0 (.slice none 0 0) 0) := by show PBox _ _ _ _ _ _; rw [hu6]; exact HRB5.out.off (Nat.ne_of_gt HRP.out) _
        have HG6 : Hid (wo.grownBy u6 (some k)) := by show World.grownBy _ _ _; rw [hu6]; exact grow_new HG5.out HWP.out _
        rw [← hu6]
        clear hu6 HP5 HO5 HR5 HRB5 HG5 r2 f2
        go_wp2
        go_roundw
        case rel => exact ⟨i + 1, e3, j3, _, _, rfl, by omega, HP6.out, HO6.out, HR6.out, HRB6.out, HG6.out, HXS.out, HD3.out⟩
        case measure => simp [intOf]; omega
      · have hd2 : decide (i < kn) = false := decide_eq_false hlt
        have hik : i = kn := by omega
        have HXF : Hid (xs = pl ∧ ci = c5 ∧ gi = g5) := by
          have h1 := HX.out
          rw [hik, HE5n.out] at h1
          exact ⟨(congrArg Prod.fst h1).symm, (congrArg (fun z => z.2.1) h1).symm, (congrArg (fun z => z.2.2) h1).symm⟩
        obtain ⟨rfl, rfl, rfl⟩ := HXF.out
        obtain ⟨pa, pc, hv, hlr, hpk⟩ := OwnRow.row trK_ok HO.out HKN.out
        subst hv
        have HLR := Lib.hid hlr
        have HPK : Hid (∀ a, pa = some a → P + 1 ≤ a.block ∧ a.block < wi.heap.size) := hpk
        have q1 := HR.out.c1
        clear hik HX HE5n hlr hpk HO HXF
        cases gi with
        | true =>
          have HNO : Hid (StNo b) := HNOF.out rfl
          clear HNOF
          go_upto_region 9 with fail
          have KS : Hid (∀ V, Below wi.heap.size wi V → (fun (V : World) => V.cell? ⟨P, 0, none⟩ = some (.int .i64 pid) ∧ V.cell? ⟨P, 1, none⟩ = some (.int .i64 pep) ∧ V.cell? ⟨P, 2, none⟩ = some (.slice pa kn pc) ∧ V.cell? ⟨P, 3, none⟩ = some (.int .i64 po) ∧ V.cell? ⟨k, 1, none⟩ = some (.bool true)) V) := fun V hV => ⟨(HP.out.on hV).c0, (HP.out.on hV).c1, (HP.out.on hV).c2, (HP.out.on hV).c3, (HR.out.on hV).c1⟩
          clear q1
          have hdrw : Below wi.heap.size wi wi.drew := (Below.refl _ wi).drew
          refine wp_region_noPanic ?_
          refine wp_region_z [] (fun (V : World) => V.cell? ⟨P, 0, none⟩ = some (.int .i64 pid) ∧ V.cell? ⟨P, 1, none⟩ = some (.int .i64 pep) ∧ V.cell? ⟨P, 2, none⟩ = some (.slice pa kn pc) ∧ V.cell? ⟨P, 3, none⟩ = some (.int .i64 po) ∧ V.cell? ⟨k, 1, none⟩ = some (.bool true)) (by kernel_rfl) ?_
          have hHeld : (fun (V : World) => V.cell? ⟨P, 0, none⟩ = some (.int .i64 pid) ∧ V.cell? ⟨P, 1, none⟩ = some (.int .i64 pep) ∧ V.cell? ⟨P, 2, none⟩ = some (.slice pa kn pc) ∧ V.cell? ⟨P, 3, none⟩ = some (.int .i64 po) ∧ V.cell? ⟨k, 1, none⟩ = some (.bool true)) _ := KS.out _ hdrw
          obtain ⟨ue_0, hu⟩ : ∃ u, u = wi.drew := ⟨_, rfl⟩
          rw [← hu] at hHeld hdrw
          rw [← hu]
          clear hu
          have HU := Lib.hid hdrw
          clear hdrw
          refine wpAnyZ_take (i := 0) (oi := ⟨_, _, _, _, _, _⟩) (v := ?_) rfl (by kernel_rfl) (by kernel_rfl) (by kernel_rfl) (by kernel_rfl) (by kernel_rfl) (fun _ _ _ h => h) (Or.inl ⟨by rfl, ?_⟩) (by assumption) ?_
          rotate_left
          · intro W hSw
            (try dsimp only at hSw)
            go_simp
            (try with_reducible rfl)
          (try simp only [Act.put, List.setIfInBounds_toArray, List.set_cons_zero, List.set_cons_succ])
          refine wpAnyZ_take (i := 1) (oi := ⟨_, _, _, _, _, _⟩) (v := ?_) rfl (by kernel_rfl) (by kernel_rfl) (by kernel_rfl) (by kernel_rfl) (by kernel_rfl) (fun _ _ _ h => h) (Or.inl ⟨by rfl, ?_⟩) (by assumption) ?_
          rotate_left
          · intro W hSw
            (try dsimp only at hSw)
            go_simp
            (try with_reducible rfl)
          (try simp only [Act.put, List.setIfInBounds_toArray, List.set_cons_zero, List.set_cons_succ])
          refine wpAnyZ_take (i := 2) (oi := ⟨_, _, _, _, _, _⟩) (v := ?_) rfl (by kernel_rfl) (by kernel_rfl) (by kernel_rfl) (by kernel_rfl) (by kernel_rfl) (fun _ _ _ h => h) (Or.inl ⟨by rfl, ?_⟩) (by assumption) ?_
          rotate_left
          · intro W hSw
            (try dsimp only at hSw)
            go_simp
            (try with_reducible rfl)
          (try simp only [Act.put, List.setIfInBounds_toArray, List.set_cons_zero, List.set_cons_succ])
          refine wpAnyZ_take (i := 3) (oi := ⟨_, _, _, _, _, _⟩) (v := ?_) rfl (by kernel_rfl) (by kernel_rfl) (by kernel_rfl) (by kernel_rfl) (by kernel_rfl) (fun _ _ _ h => h) (Or.inl ⟨by rfl, ?_⟩) (by assumption) ?_
          rotate_left
          · intro W hSw
            (try dsimp only at hSw)
            go_simp
            (try with_reducible rfl)
          (try simp only [Act.put, List.setIfInBounds_toArray, List.set_cons_zero, List.set_cons_succ])
          refine wpAnyZ_take (i := 4) (oi := ⟨_, _, _, _, _, _⟩) (v := ?_) rfl (by kernel_rfl) (by kernel_rfl) (by kernel_rfl) (by kernel_rfl) (by kernel_rfl) (fun _ _ _ h => h) (Or.inl ⟨by rfl, ?_⟩) (by assumption) ?_
          rotate_left
          · intro W hSw
            (try dsimp only at hSw)
            go_simp
            (try with_reducible rfl)
          (try simp only [Act.put, List.setIfInBounds_toArray, List.set_cons_zero, List.set_cons_succ])
          refine wpAnyZ_take (i := 5) (oi := ⟨_, _, _, _, _, _⟩) (v := ?_) rfl (by kernel_rfl) (by kernel_rfl) (by kernel_rfl) (by kernel_rfl) (by kernel_rfl) (fun _ _ _ h => h) (Or.inl ⟨by rfl, ?_⟩) (by assumption) ?_
          rotate_left
          · intro W hSw
            (try dsimp only at hSw)
            go_simp
            (try with_reducible rfl)
          (try simp only [Act.put, List.setIfInBounds_toArray, List.set_cons_zero, List.set_cons_succ])
          refine wpAnyZ_take (i := 6) (oi := ⟨_, _, _, _, _, _⟩) (v := ?_) rfl (by kernel_rfl) (by kernel_rfl) (by kernel_rfl) (by kernel_rfl) (by kernel_rfl) (fun _ _ _ h => h) (Or.inl ⟨by rfl, ?_⟩) (by assumption) ?_
          rotate_left
          · intro W hSw
            (try dsimp only at hSw)
            go_simp
            (try with_reducible rfl)
          (try simp only [Act.put, List.setIfInBounds_toArray, List.set_cons_zero, List.set_cons_succ])
          refine wpAnyZ_take (i := 7) (oi := ⟨_, _, _, _, _, _⟩) (v := undef) rfl (by kernel_rfl) (by kernel_rfl) (by kernel_rfl) (by kernel_rfl) (by kernel_rfl) (fun _ _ _ h => h) (Or.inr ⟨by rfl, rfl⟩) (by assumption) ?_
          (try simp only [Act.put, List.setIfInBounds_toArray, List.set_cons_zero, List.set_cons_succ])
          refine wpAnyZ_take (i := 8) (oi := ⟨_, _, _, _, _, _⟩) (v := undef) rfl (by kernel_rfl) (by kernel_rfl) (by kernel_rfl) (by kernel_rfl) (by kernel_rfl) (fun _ _ _ h => h) (Or.inr ⟨by rfl, rfl⟩) (by assumption) ?_
          (try simp only [Act.put, List.setIfInBounds_toArray, List.set_cons_zero, List.set_cons_succ])
          refine wpAnyZ_take (i := 9) (oi := ⟨_, _, _, _, _, _⟩) (v := ?_) rfl (by kernel_rfl) (by kernel_rfl) (by kernel_rfl) (by kernel_rfl) (by kernel_rfl) (fun _ _ _ h => h) (Or.inl ⟨by rfl, ?_⟩) (by assumption) ?_
          rotate_left
          · intro W hSw
            (try dsimp only at hSw)
            go_simp
            (try with_reducible rfl)
          (try simp only [Act.put, List.setIfInBounds_toArray, List.set_cons_zero, List.set_cons_succ])
          have HP9 := Lib.hid (HP.out.on HU.out)
          have HRB9 := Lib.hid (HRB.out.on HU.out)
          have HR9 := Lib.hid (HR.out.on HU.out)
          have HLR9 := Lib.hid (HLR.out.keep HU.out)
          have HG9 : Hid (wo.grownBy ue_0 (some k)) := grow_below HG.out HU.out
          have r0 := HRB9.out.c0
          have r1 := HRB9.out.c1
          have r2 := HRB9.out.c2
          have r3 := HRB9.out.c3
          have f0 := HRB9.out.free 0
          have f1 := HRB9.out.free 1
          have f2 := HRB9.out.free 2
          have f3 := HRB9.out.free 3
          refine wpAnyZ_ready (rs := [10]) (by kernel_rfl) (by simp) ?_
          refine AllReadyZ.cons (o := ⟨_, _, _, _, _, _⟩) rfl (fun C hC => ?_) AllReadyZ.nil
          go_simp
          obtain ⟨u9, hu9⟩ : ∃ z, z = (((ue_0.setCell ⟨Rb, 0, none⟩ (.int .i64 pid)).setCell ⟨Rb, 1, none⟩ (.int .i64 pep)).setCell ⟨Rb, 2, none⟩ (.slice pa kn pc)).setCell ⟨Rb, 3, none⟩ (.int .i64 po) := ⟨_, rfl⟩
          have HRBE : Hid (PBox u9 Rb pid pep (.slice pa kn pc) po) := by show PBox _ _ _ _ _ _; rw [hu9]; exact (((HRB9.out.s0 pid).s1 pep).s2 (.slice pa kn pc)).s3 po
          have HGE : Hid (wo.grownBy u9 (some k)) := by show World.grownBy _ _ _; rw [hu9]; exact grow_new (grow_new (grow_new (grow_new HG9.out HRW.out _) HRW.out _) HRW.out _) HRW.out _
          have hro : Rb ≠ k := Nat.ne_of_gt HKR.out
          have hro1 : w1.heap.size ≤ Rb := Nat.le_trans HR9.out.old (Nat.le_of_lt HKR.out)
          have HRE : Hid (KrAt w1 u9 k ci true) := by show KrAt _ _ _ _ _; rw [hu9]; exact (((HR9.out.off hro hro1 _).off hro hro1 _).off hro hro1 _).off hro hro1 _
          have hpr : ∀ a, pa = some a → a.block ≠ Rb := fun a ha e => by have := (HPK.out a ha).1; have := HRP.out; omega
          have HLE : Hid (RowAt trK u9 pa kn pc xs) := by show RowAt _ _ _ _ _ _; rw [hu9]; exact (((HLR9.out.off hpr _ _).off hpr _ _).off hpr _ _).off hpr _ _
          have HPE : Hid (PBox u9 P pid pep (.slice pa kn pc) po) := by show PBox _ _ _ _ _ _; rw [hu9]; exact (((HP9.out.off (Nat.ne_of_lt HRP.out) _).off (Nat.ne_of_lt HRP.out) _).off (Nat.ne_of_lt HRP.out) _).off (Nat.ne_of_lt HRP.out) _
          have HSZ : Hid (wi.heap.size ≤ u9.heap.size) := by show _ ≤ _; rw [hu9]; simpa using HU.out.size
          (try rw [← hu9])
          clear hu9 hpr hro hro1
          have hHeld : (fun (V : World) => V.cell? ⟨P, 0, none⟩ = some (.int .i64 pid) ∧ V.cell? ⟨P, 1, none⟩ = some (.int .i64 pep) ∧ V.cell? ⟨P, 2, none⟩ = some (.slice pa kn pc) ∧ V.cell? ⟨P, 3, none⟩ = some (.int .i64 po) ∧ V.cell? ⟨k, 1, none⟩ = some (.bool true)) u9 := ⟨HPE.out.c0, HPE.out.c1, HPE.out.c2, HPE.out.c3, HRE.out.c1⟩
          refine hC.out _ _ (fun _ => hHeld) (fun _ => ?_)
          clear hC C
          (try simp only [Act.put, List.setIfInBounds_toArray, List.set_cons_zero, List.set_cons_succ])
          refine wpAnyZ_take (i := 11) (oi := ⟨_, _, _, _, _, _⟩) (v := ?_) rfl (by kernel_rfl) (by kernel_rfl) (by kernel_rfl) (by kernel_rfl) (by kernel_rfl) (fun _ _ _ h => h) (Or.inl ⟨by rfl, ?_⟩) (by assumption) ?_
          rotate_left
          · intro W hSw
            (try dsimp only at hSw)
            go_simp
            (try with_reducible rfl)
          (try simp only [Act.put, List.setIfInBounds_toArray, List.set_cons_zero, List.set_cons_succ])
          refine wpAnyZ_done (by kernel_rfl) ?_ _
          refine NoPanic.normal ?_
          clear hHeld KS r0 r1 r2 r3 f0 f1 f2 f3
          go_wp2
          refine bodyPost_ret (v := .tuple #[.agg #[.int .i64 pid, .int .i64 pep, .slice pa kn pc, .int .i64 po], .bool false]) (resultsSnState HRBE.out rfl rfl) rfl ?_
          exact ⟨HGE.out, .inr ⟨pid, pep, _, _, _, po, rfl, HNO.out⟩⟩
        | false =>
          have HST : Hid (b = pdS ⟨pid, pep, xs, po⟩ ++ ci ∧ In64 pid) := state_is HE1.out HE2.out HE3.out HE4.out HE5.out (by omega)
          cases hrr : okP ⟨pid, pep, xs, po⟩ with
          | false =>
            have HNO : Hid (StNo b) := state_wrong HE1.out HE2.out HE3.out HE4.out HE5.out (fun h => by rw [(okP_iff _).2 h] at hrr; cases hrr)
            have HRR : Hid (false = true ↔ RightP ⟨pid, pep, xs, po⟩) := by show _ ↔ _; rw [← okP_iff, hrr]
            clear hrr
            go_upto_region 9 with fail
            have KS : Hid (∀ V, Below wi.heap.size wi V → (fun (V : World) => V.cell? ⟨P, 0, none⟩ = some (.int .i64 pid) ∧ V.cell? ⟨P, 1, none⟩ = some (.int .i64 pep) ∧ V.cell? ⟨P, 2, none⟩ = some (.slice pa kn pc) ∧ V.cell? ⟨P, 3, none⟩ = some (.int .i64 po) ∧ V.cell? ⟨k, 1, none⟩ = some (.bool false)) V) := fun V hV => ⟨(HP.out.on hV).c0, (HP.out.on hV).c1, (HP.out.on hV).c2, (HP.out.on hV).c3, (HR.out.on hV).c1⟩
            clear q1
            have hdrw : Below wi.heap.size wi wi.drew := (Below.refl _ wi).drew
            refine wp_region_noPanic ?_
            refine wp_region_z [] (fun (V : World) => V.cell? ⟨P, 0, none⟩ = some (.int .i64 pid) ∧ V.cell? ⟨P, 1, none⟩ = some (.int .i64 pep) ∧ V.cell? ⟨P, 2, none⟩ = some (.slice pa kn pc) ∧ V.cell? ⟨P, 3, none⟩ = some (.int .i64 po) ∧ V.cell? ⟨k, 1, none⟩ = some (.bool false)) (by kernel_rfl) ?_
            have hHeld : (fun (V : World) => V.cell? ⟨P, 0, none⟩ = some (.int .i64 pid) ∧ V.cell? ⟨P, 1, none⟩ = some (.int .i64 pep) ∧ V.cell? ⟨P, 2, none⟩ = some (.slice pa kn pc) ∧ V.cell? ⟨P, 3, none⟩ = some (.int .i64 po) ∧ V.cell? ⟨k, 1, none⟩ = some (.bool false)) _ := KS.out _ hdrw
            obtain ⟨ue_0, hu⟩ : ∃ u, u = wi.drew := ⟨_, rfl⟩
            rw [← hu] at hHeld hdrw
            rw [← hu]
            clear hu
            have HU := Lib.hid hdrw
            clear hdrw
            refine wpAnyZ_take (i := 0) (oi := ⟨_, _, _, _, _, _⟩) (v := ?_) rfl (by kernel_rfl) (by kernel_rfl) (by kernel_rfl) (by kernel_rfl) (by kernel_rfl) (fun _ _ _ h => h) (Or.inl ⟨by rfl, ?_⟩) (by assumption) ?_
            rotate_left
            · intro W hSw
              (try dsimp only at hSw)
              go_simp
              (try with_reducible rfl)
            (try simp only [Act.put, List.setIfInBounds_toArray, List.set_cons_zero, List.set_cons_succ])
            refine wpAnyZ_take (i := 1) (oi := ⟨_, _, _, _, _, _⟩) (v := ?_) rfl (by kernel_rfl) (by kernel_rfl) (by kernel_rfl) (by kernel_rfl) (by kernel_rfl) (fun _ _ _ h => h) (Or.inl ⟨by rfl, ?_⟩) (by assumption) ?_
            rotate_left
            · intro W hSw
              (try dsimp only at hSw)
              go_simp
              (try with_reducible rfl)
            (try simp only [Act.put, List.setIfInBounds_toArray, List.set_cons_zero, List.set_cons_succ])
            refine wpAnyZ_take (i := 2) (oi := ⟨_, _, _, _, _, _⟩) (v := ?_) rfl (by kernel_rfl) (by kernel_rfl) (by kernel_rfl) (by kernel_rfl) (by kernel_rfl) (fun _ _ _ h => h) (Or.inl ⟨by rfl, ?_⟩) (by assumption) ?_
            rotate_left
            · intro W hSw
              (try dsimp only at hSw)
              go_simp
              (try with_reducible rfl)
            (try simp only [Act.put, List.setIfInBounds_toArray, List.set_cons_zero, List.set_cons_succ])
            refine wpAnyZ_take (i := 3) (oi := ⟨_, _, _, _, _, _⟩) (v := ?_) rfl (by kernel_rfl) (by kernel_rfl) (by kernel_rfl) (by kernel_rfl) (by kernel_rfl) (fun _ _ _ h => h) (Or.inl ⟨by rfl, ?_⟩) (by assumption) ?_
            rotate_left
            · intro W hSw
              (try dsimp only at hSw)
              go_simp
              (try with_reducible rfl)
            (try simp only [Act.put, List.setIfInBounds_toArray, List.set_cons_zero, List.set_cons_succ])
            refine wpAnyZ_take (i := 4) (oi := ⟨_, _, _, _, _, _⟩) (v := ?_) rfl (by kernel_rfl) (by kernel_rfl) (by kernel_rfl) (by kernel_rfl) (by kernel_rfl) (fun _ _ _ h => h) (Or.inl ⟨by rfl, ?_⟩) (by assumption) ?_
            rotate_left
            · intro W hSw
              (try dsimp only at hSw)
              go_simp
              (try with_reducible rfl)
            (try simp only [Act.put, List.setIfInBounds_toArray, List.set_cons_zero, List.set_cons_succ])
            refine wpAnyZ_take (i := 5) (oi := ⟨_, _, _, _, _, _⟩) (v := ?_) rfl (by kernel_rfl) (by kernel_rfl) (by kernel_rfl) (by kernel_rfl) (by kernel_rfl) (fun _ _ _ h => h) (Or.inl ⟨by rfl, ?_⟩) (by assumption) ?_
            rotate_left
            · intro W hSw
              (try dsimp only at hSw)
              go_simp
              (try with_reducible rfl)
            (try simp only [Act.put, List.setIfInBounds_toArray, List.set_cons_zero, List.set_cons_succ])
            refine wpAnyZ_take (i := 6) (oi := ⟨_, _, _, _, _, _⟩) (v := ?_) rfl (by kernel_rfl) (by kernel_rfl) (by kernel_rfl) (by kernel_rfl) (by kernel_rfl) (fun _ _ _ h => h) (Or.inl ⟨by rfl, ?_⟩) (by assumption) ?_
            rotate_left
            · intro W hSw
              (try dsimp only at hSw)
              go_simp
              (try with_reducible rfl)
            (try simp only [Act.put, List.setIfInBounds_toArray, List.set_cons_zero, List.set_cons_succ])
            refine wpAnyZ_take (i := 7) (oi := ⟨_, _, _, _, _, _⟩) (v := ?_) rfl (by kernel_rfl) (by kernel_rfl) (by kernel_rfl) (by kernel_rfl) (by kernel_rfl) (fun _ _ _ h => h) (Or.inl ⟨by rfl, ?_⟩) (by assumption) ?_
            rotate_left
            · intro W hSw
              (try dsimp only at hSw)
              go_simp
              (try with_reducible rfl)
            (try simp only [Act.put, List.setIfInBounds_toArray, List.set_cons_zero, List.set_cons_succ])
            refine wpAnyZ_ready (rs := [8]) (by kernel_rfl) (by simp) ?_
            refine AllReadyZ.cons (o := ⟨_, _, _, _, _, _⟩) rfl (fun C hC => ?_) AllReadyZ.nil
            go_simp
            refine (prRight_any ue_0 pid pep po xs pa kn pc (HLR.out.keep HU.out) (by omega) false HRR.out).mono ?_
            rintro e ue_1 ⟨rfl, hb⟩
            replace HU := Lib.hid (HU.out.trans (hb.mono HU.out.size))
            clear hb
            have hHeld : (fun (V : World) => V.cell? ⟨P, 0, none⟩ = some (.int .i64 pid) ∧ V.cell? ⟨P, 1, none⟩ = some (.int .i64 pep) ∧ V.cell? ⟨P, 2, none⟩ = some (.slice pa kn pc) ∧ V.cell? ⟨P, 3, none⟩ = some (.int .i64 po) ∧ V.cell? ⟨k, 1, none⟩ = some (.bool false)) ue_1 := KS.out _ HU.out
            refine hC.out _ _ (fun _ => hHeld) (fun _ => ?_)
            clear hC C
            (try simp only [Act.put, List.setIfInBounds_toArray, List.set_cons_zero, List.set_cons_succ])
            refine wpAnyZ_take (i := 9) (oi := ⟨_, _, _, _, _, _⟩) (v := ?_) rfl (by kernel_rfl) (by kernel_rfl) (by kernel_rfl) (by kernel_rfl) (by kernel_rfl) (fun _ _ _ h => h) (Or.inl ⟨by rfl, ?_⟩) (by assumption) ?_
            rotate_left
            · intro W hSw
              (try dsimp only at hSw)
              go_simp
              (try with_reducible rfl)
            (try simp only [Act.put, List.setIfInBounds_toArray, List.set_cons_zero, List.set_cons_succ])
            have HP9 := Lib.hid (HP.out.on HU.out)
            have HRB9 := Lib.hid (HRB.out.on HU.out)
            have HR9 := Lib.hid (HR.out.on HU.out)
            have HLR9 := Lib.hid (HLR.out.keep HU.out)
            have HG9 : Hid (wo.grownBy ue_1 (some k)) := grow_below HG.out HU.out
            have r0 := HRB9.out.c0
            have r1 := HRB9.out.c1
            have r2 := HRB9.out.c2
            have r3 := HRB9.out.c3
            have f0 := HRB9.out.free 0
            have f1 := HRB9.out.free 1
            have f2 := HRB9.out.free 2
            have f3 := HRB9.out.free 3
            refine wpAnyZ_ready (rs := [10]) (by kernel_rfl) (by simp) ?_
            refine AllReadyZ.cons (o := ⟨_, _, _, _, _, _⟩) rfl (fun C hC => ?_) AllReadyZ.nil
            go_simp
            obtain ⟨u9, hu9⟩ : ∃ z, z = (((ue_1.setCell ⟨Rb, 0, none⟩ (.int .i64 pid)).setCell ⟨Rb, 1, none⟩ (.int .i64 pep)).setCell ⟨Rb, 2, none⟩ (.slice pa kn pc)).setCell ⟨Rb, 3, none⟩ (.int .i64 po) := ⟨_, rfl⟩
            have HRBE : Hid (PBox u9 Rb pid pep (.slice pa kn pc) po) := by show PBox _ _ _ _ _ _; rw [hu9]; exact (((HRB9.out.s0 pid).s1 pep).s2 (.slice pa kn pc)).s3 po
            have HGE : Hid (wo.grownBy u9 (some k)) := by show World.grownBy _ _ _; rw [hu9]; exact grow_new (grow_new (grow_new (grow_new HG9.out HRW.out _) HRW.out _) HRW.out _) HRW.out _
            have hro : Rb ≠ k := Nat.ne_of_gt HKR.out
            have hro1 : w1.heap.size ≤ Rb := Nat.le_trans HR9.out.old (Nat.le_of_lt HKR.out)
            have HRE : Hid (KrAt w1 u9 k ci false) := by show KrAt _ _ _ _ _; rw [hu9]; exact (((HR9.out.off hro hro1 _).off hro hro1 _).off hro hro1 _).off hro hro1 _
            have hpr : ∀ a, pa = some a → a.block ≠ Rb := fun a ha e => by have := (HPK.out a ha).1; have := HRP.out; omega
            have HLE : Hid (RowAt trK u9 pa kn pc xs) := by show RowAt _ _ _ _ _ _; rw [hu9]; exact (((HLR9.out.off hpr _ _).off hpr _ _).off hpr _ _).off hpr _ _
            have HPE : Hid (PBox u9 P pid pep (.slice pa kn pc) po) := by show PBox _ _ _ _ _ _; rw [hu9]; exact (((HP9.out.off (Nat.ne_of_lt HRP.out) _).off (Nat.ne_of_lt HRP.out) _).off (Nat.ne_of_lt HRP.out) _).off (Nat.ne_of_lt HRP.out) _
            have HSZ : Hid (wi.heap.size ≤ u9.heap.size) := by show _ ≤ _; rw [hu9]; simpa using HU.out.size
            (try rw [← hu9])
            clear hu9 hpr hro hro1
            have hHeld : (fun (V : World) => V.cell? ⟨P, 0, none⟩ = some (.int .i64 pid) ∧ V.cell? ⟨P, 1, none⟩ = some (.int .i64 pep) ∧ V.cell? ⟨P, 2, none⟩ = some (.slice pa kn pc) ∧ V.cell? ⟨P, 3, none⟩ = some (.int .i64 po) ∧ V.cell? ⟨k, 1, none⟩ = some (.bool false)) u9 := ⟨HPE.out.c0, HPE.out.c1, HPE.out.c2, HPE.out.c3, HRE.out.c1⟩
            refine hC.out _ _ (fun _ => hHeld) (fun _ => ?_)
            clear hC C
            (try simp only [Act.put, List.setIfInBounds_toArray, List.set_cons_zero, List.set_cons_succ])
            refine wpAnyZ_take (i := 11) (oi := ⟨_, _, _, _, _, _⟩) (v := ?_) rfl (by kernel_rfl) (by kernel_rfl) (by kernel_rfl) (by kernel_rfl) (by kernel_rfl) (fun _ _ _ h => h) (Or.inl ⟨by rfl, ?_⟩) (by assumption) ?_
            rotate_left
            · intro W hSw
              (try dsimp only at hSw)
              go_simp
              (try with_reducible rfl)
            (try simp only [Act.put, List.setIfInBounds_toArray, List.set_cons_zero, List.set_cons_succ])
            refine wpAnyZ_done (by kernel_rfl) ?_ _
            refine NoPanic.normal ?_
            clear hHeld KS r0 r1 r2 r3 f0 f1 f2 f3
            go_wp2
            refine bodyPost_ret (v := .tuple #[.agg #[.int .i64 pid, .int .i64 pep, .slice pa kn pc, .int .i64 po], .bool false]) (resultsSnState HRBE.out rfl rfl) rfl ?_
            exact ⟨HGE.out, .inr ⟨pid, pep, _, _, _, po, rfl, HNO.out⟩⟩
          | true =>
            have HRR : Hid (true = true ↔ RightP ⟨pid, pep, xs, po⟩) := by show _ ↔ _; rw [← okP_iff, hrr]
            clear hrr
            go_upto_region 9 with fail
            have KS : Hid (∀ V, Below wi.heap.size wi V → (fun (V : World) => V.cell? ⟨P, 0, none⟩ = some (.int .i64 pid) ∧ V.cell? ⟨P, 1, none⟩ = some (.int .i64 pep) ∧ V.cell? ⟨P, 2, none⟩ = some (.slice pa kn pc) ∧ V.cell? ⟨P, 3, none⟩ = some (.int .i64 po) ∧ V.cell? ⟨k, 1, none⟩ = some (.bool false)) V) := fun V hV => ⟨(HP.out.on hV).c0, (HP.out.on hV).c1, (HP.out.on hV).c2, (HP.out.on hV).c3, (HR.out.on hV).c1⟩
            clear q1
            have hdrw : Below wi.heap.size wi wi.drew := (Below.refl _ wi).drew
            refine wp_region_noPanic ?_
            refine wp_region_z [] (fun (V : World) => V.cell? ⟨P, 0, none⟩ = some (.int .i64 pid) ∧ V.cell? ⟨P, 1, none⟩ = some (.int .i64 pep) ∧ V.cell? ⟨P, 2, none⟩ = some (.slice pa kn pc) ∧ V.cell? ⟨P, 3, none⟩ = some (.int .i64 po) ∧ V.cell? ⟨k, 1, none⟩ = some (.bool false)) (by kernel_rfl) ?_
            have hHeld : (fun (V : World) => V.cell? ⟨P, 0, none⟩ = some (.int .i64 pid) ∧ V.cell? ⟨P, 1, none⟩ = some (.int .i64 pep) ∧ V.cell? ⟨P, 2, none⟩ = some (.slice pa kn pc) ∧ V.cell? ⟨P, 3, none⟩ = some (.int .i64 po) ∧ V.cell? ⟨k, 1, none⟩ = some (.bool false)) _ := KS.out _ hdrw
            obtain ⟨ue_0, hu⟩ : ∃ u, u = wi.drew := ⟨_, rfl⟩
            rw [← hu] at hHeld hdrw
            rw [← hu]
            clear hu
            have HU := Lib.hid hdrw
            clear hdrw
            refine wpAnyZ_take (i := 0) (oi := ⟨_, _, _, _, _, _⟩) (v := ?_) rfl (by kernel_rfl) (by kernel_rfl) (by kernel_rfl) (by kernel_rfl) (by kernel_rfl) (fun _ _ _ h => h) (Or.inl ⟨by rfl, ?_⟩) (by assumption) ?_
            rotate_left
            · intro W hSw
              (try dsimp only at hSw)
              go_simp
              (try with_reducible rfl)
            (try simp only [Act.put, List.setIfInBounds_toArray, List.set_cons_zero, List.set_cons_succ])
            refine wpAnyZ_take (i := 1) (oi := ⟨_, _, _, _, _, _⟩) (v := ?_) rfl (by kernel_rfl) (by kernel_rfl) (by kernel_rfl) (by kernel_rfl) (by kernel_rfl) (fun _ _ _ h => h) (Or.inl ⟨by rfl, ?_⟩) (by assumption) ?_
            rotate_left
            · intro W hSw
              (try dsimp only at hSw)
              go_simp
              (try with_reducible rfl)
            (try simp only [Act.put, List.setIfInBounds_toArray, List.set_cons_zero, List.set_cons_succ])
            refine wpAnyZ_take (i := 2) (oi := ⟨_, _, _, _, _, _⟩) (v := ?_) rfl (by kernel_rfl) (by kernel_rfl) (by kernel_rfl) (by kernel_rfl) (by kernel_rfl) (fun _ _ _ h => h) (Or.inl ⟨by rfl, ?_⟩) (by assumption) ?_
            rotate_left
            · intro W hSw
              (try dsimp only at hSw)
              go_simp
              (try with_reducible rfl)
            (try simp only [Act.put, List.setIfInBounds_toArray, List.set_cons_zero, List.set_cons_succ])
            refine wpAnyZ_take (i := 3) (oi := ⟨_, _, _, _, _, _⟩) (v := ?_) rfl (by kernel_rfl) (by kernel_rfl) (by kernel_rfl) (by kernel_rfl) (by kernel_rfl) (fun _ _ _ h => h) (Or.inl ⟨by rfl, ?_⟩) (by assumption) ?_
            rotate_left
            · intro W hSw
              (try dsimp only at hSw)
              go_simp
              (try with_reducible rfl)
            (try simp only [Act.put, List.setIfInBounds_toArray, List.set_cons_zero, List.set_cons_succ])
            refine wpAnyZ_take (i := 4) (oi := ⟨_, _, _, _, _, _⟩) (v := ?_) rfl (by kernel_rfl) (by kernel_rfl) (by kernel_rfl) (by kernel_rfl) (by kernel_rfl) (fun _ _ _ h => h) (Or.inl ⟨by rfl, ?_⟩) (by assumption) ?_
            rotate_left
            · intro W hSw
              (try dsimp only at hSw)
              go_simp
              (try with_reducible rfl)
            (try simp only [Act.put, List.setIfInBounds_toArray, List.set_cons_zero, List.set_cons_succ])
            refine wpAnyZ_take (i := 5) (oi := ⟨_, _, _, _, _, _⟩) (v := ?_) rfl (by kernel_rfl) (by kernel_rfl) (by kernel_rfl) (by kernel_rfl) (by kernel_rfl) (fun _ _ _ h => h) (Or.inl ⟨by rfl, ?_⟩) (by assumption) ?_
            rotate_left
            · intro W hSw
              (try dsimp only at hSw)
              go_simp
              (try with_reducible rfl)
            (try simp only [Act.put, List.setIfInBounds_toArray, List.set_cons_zero, List.set_cons_succ])
            refine wpAnyZ_take (i := 6) (oi := ⟨_, _, _, _, _, _⟩) (v := ?_) rfl (by kernel_rfl) (by kernel_rfl) (by kernel_rfl) (by kernel_rfl) (by kernel_rfl) (fun _ _ _ h => h) (Or.inl ⟨by rfl, ?_⟩) (by assumption) ?_
            rotate_left
            · intro W hSw
              (try dsimp only at hSw)
              go_simp
              (try with_reducible rfl)
            (try simp only [Act.put, List.setIfInBounds_toArray, List.set_cons_zero, List.set_cons_succ])
            refine wpAnyZ_take (i := 7) (oi := ⟨_, _, _, _, _, _⟩) (v := ?_) rfl (by kernel_rfl) (by kernel_rfl) (by kernel_rfl) (by kernel_rfl) (by kernel_rfl) (fun _ _ _ h => h) (Or.inl ⟨by rfl, ?_⟩) (by assumption) ?_
            rotate_left
            · intro W hSw
              (try dsimp only at hSw)
              go_simp
              (try with_reducible rfl)
            (try simp only [Act.put, List.setIfInBounds_toArray, List.set_cons_zero, List.set_cons_succ])
            refine wpAnyZ_ready (rs := [8]) (by kernel_rfl) (by simp) ?_
            refine AllReadyZ.cons (o := ⟨_, _, _, _, _, _⟩) rfl (fun C hC => ?_) AllReadyZ.nil
            go_simp
            refine (prRight_any ue_0 pid pep po xs pa kn pc (HLR.out.keep HU.out) (by omega) true HRR.out).mono ?_
            rintro e ue_1 ⟨rfl, hb⟩
            replace HU := Lib.hid (HU.out.trans (hb.mono HU.out.size))
            clear hb
            have hHeld : (fun (V : World) => V.cell? ⟨P, 0, none⟩ = some (.int .i64 pid) ∧ V.cell? ⟨P, 1, none⟩ = some (.int .i64 pep) ∧ V.cell? ⟨P, 2, none⟩ = some (.slice pa kn pc) ∧ V.cell? ⟨P, 3, none⟩ = some (.int .i64 po) ∧ V.cell? ⟨k, 1, none⟩ = some (.bool false)) ue_1 := KS.out _ HU.out
            refine hC.out _ _ (fun _ => hHeld) (fun _ => ?_)
            clear hC C
            (try simp only [Act.put, List.setIfInBounds_toArray, List.set_cons_zero, List.set_cons_succ])
            refine wpAnyZ_take (i := 9) (oi := ⟨_, _, _, _, _, _⟩) (v := ?_) rfl (by kernel_rfl) (by kernel_rfl) (by kernel_rfl) (by kernel_rfl) (by kernel_rfl) (fun _ _ _ h => h) (Or.inl ⟨by rfl, ?_⟩) (by assumption) ?_
            rotate_left
            · intro W hSw
              (try dsimp only at hSw)
              go_simp
              (try with_reducible rfl)
            (try simp only [Act.put, List.setIfInBounds_toArray, List.set_cons_zero, List.set_cons_succ])
            have HP9 := Lib.hid (HP.out.on HU.out)
            have HRB9 := Lib.hid (HRB.out.on HU.out)
            have HR9 := Lib.hid (HR.out.on HU.out)
            have HLR9 := Lib.hid (HLR.out.keep HU.out)
            have HG9 : Hid (wo.grownBy ue_1 (some k)) := grow_below HG.out HU.out
            have r0 := HRB9.out.c0
            have r1 := HRB9.out.c1
            have r2 := HRB9.out.c2
            have r3 := HRB9.out.c3
            have f0 := HRB9.out.free 0
            have f1 := HRB9.out.free 1
            have f2 := HRB9.out.free 2
            have f3 := HRB9.out.free 3
            refine wpAnyZ_ready (rs := [10]) (by kernel_rfl) (by simp) ?_
            refine AllReadyZ.cons (o := ⟨_, _, _, _, _, _⟩) rfl (fun C hC => ?_) AllReadyZ.nil
            go_simp
            obtain ⟨u9, hu9⟩ : ∃ z, z = (((ue_1.setCell ⟨Rb, 0, none⟩ (.int .i64 pid)).setCell ⟨Rb, 1, none⟩ (.int .i64 pep)).setCell ⟨Rb, 2, none⟩ (.slice pa kn pc)).setCell ⟨Rb, 3, none⟩ (.int .i64 po) := ⟨_, rfl⟩
            have HRBE : Hid (PBox u9 Rb pid pep (.slice pa kn pc) po) := by show PBox _ _ _ _ _ _; rw [hu9]; exact (((HRB9.out.s0 pid).s1 pep).s2 (.slice pa kn pc)).s3 po
            have HGE : Hid (wo.grownBy u9 (some k)) := by show World.grownBy _ _ _; rw [hu9]; exact grow_new (grow_new (grow_new (grow_new HG9.out HRW.out _) HRW.out _) HRW.out _) HRW.out _
            have hro : Rb ≠ k := Nat.ne_of_gt HKR.out
            have hro1 : w1.heap.size ≤ Rb := Nat.le_trans HR9.out.old (Nat.le_of_lt HKR.out)
            have HRE : Hid (KrAt w1 u9 k ci false) := by show KrAt _ _ _ _ _; rw [hu9]; exact (((HR9.out.off hro hro1 _).off hro hro1 _).off hro hro1 _).off hro hro1 _
            have hpr : ∀ a, pa = some a → a.block ≠ Rb := fun a ha e => by have := (HPK.out a ha).1; have := HRP.out; omega
            have HLE : Hid (RowAt trK u9 pa kn pc xs) := by show RowAt _ _ _ _ _ _; rw [hu9]; exact (((HLR9.out.off hpr _ _).off hpr _ _).off hpr _ _).off hpr _ _
            have HPE : Hid (PBox u9 P pid pep (.slice pa kn pc) po) := by show PBox _ _ _ _ _ _; rw [hu9]; exact (((HP9.out.off (Nat.ne_of_lt HRP.out) _).off (Nat.ne_of_lt HRP.out) _).off (Nat.ne_of_lt HRP.out) _).off (Nat.ne_of_lt HRP.out) _
            have HSZ : Hid (wi.heap.size ≤ u9.heap.size) := by show _ ≤ _; rw [hu9]; simpa using HU.out.size
            (try rw [← hu9])
            clear hu9 hpr hro hro1
            have hHeld : (fun (V : World) => V.cell? ⟨P, 0, none⟩ = some (.int .i64 pid) ∧ V.cell? ⟨P, 1, none⟩ = some (.int .i64 pep) ∧ V.cell? ⟨P, 2, none⟩ = some (.slice pa kn pc) ∧ V.cell? ⟨P, 3, none⟩ = some (.int .i64 po) ∧ V.cell? ⟨k, 1, none⟩ = some (.bool false)) u9 := ⟨HPE.out.c0, HPE.out.c1, HPE.out.c2, HPE.out.c3, HRE.out.c1⟩
            refine hC.out _ _ (fun _ => hHeld) (fun _ => ?_)
            clear hC C
            (try simp only [Act.put, List.setIfInBounds_toArray, List.set_cons_zero, List.set_cons_succ])
            refine wpAnyZ_take (i := 11) (oi := ⟨_, _, _, _, _, _⟩) (v := ?_) rfl (by kernel_rfl) (by kernel_rfl) (by kernel_rfl) (by kernel_rfl) (by kernel_rfl) (fun _ _ _ h => h) (Or.inl ⟨by rfl, ?_⟩) (by assumption) ?_
            rotate_left
            · intro W hSw
              (try dsimp only at hSw)
              go_simp
              (try with_reducible rfl)
            (try simp only [Act.put, List.setIfInBounds_toArray, List.set_cons_zero, List.set_cons_succ])
            refine wpAnyZ_done (by kernel_rfl) ?_ _
            refine NoPanic.normal ?_
            clear hHeld KS r0 r1 r2 r3 f0 f1 f2 f3
            go_wp2
            refine bodyPost_ret (v := .tuple #[.agg #[.int .i64 pid, .int .i64 pep, .slice pa kn pc, .int .i64 po], .bool true]) (resultsSnState HRBE.out rfl rfl) rfl ?_
            have hkn2 := HKN.out
            subst hkn2
            exact ⟨HGE.out, .inl ⟨⟨pid, pep, xs, po⟩, pa, pc, ci, rfl, HLE.out, (fun a ha => by have h1 := HPK.out a ha; have := HWP.out; have := HSZ.out; omega), HRE.out, HRR.out.1 (by trivial), HST.out.2, HST.out.1⟩⟩
end Go.Proofs.YtgohekjkbgfeeaaGreat
