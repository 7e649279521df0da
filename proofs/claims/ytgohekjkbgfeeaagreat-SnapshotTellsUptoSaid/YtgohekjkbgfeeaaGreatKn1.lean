/- Parts of a proof, merged: RegionZ, Zt, Bytes, VarMath, VarBase, VarSmall, VarRoomy, VarPut, VarScan, VarGet, CrcMath, SeqMath. -/
import Derived.Deep.RegionHeld3
import Derived.WalkKit
import Derived.ProofKit
import Derived.Test.YtgohekjkbgfeeaaGreatRows
import Derived.IntWalk
import Derived.Lib.Hide
import Derived.Lib.SlBytesConst
import Derived.Laws.BitsAllLaws
import Derived.Laws.CopyOwn
import Derived.Laws.AppendOwnNone
import Derived.Laws.BytesString
import Derived.BigFrame
import Derived.OpenShut
import Derived.WalkSmall
import Derived.Outline
import Derived.Lib.AppendStr
namespace Go.Proofs.YtgohekjkbgfeeaaGreat
open Go
set_option linter.unusedVariables false

section
variable {P : Program} {ops : Array Oper} {Q : Exit → Act → World → Prop} {md : Region.Mode} {S : World → Prop} {Z : List Nat}
/-- What has come up came up behind what it waits for. -/
def Closed (md : Region.Mode) (ops : Array Oper) (L : Array Bool) : Prop := ∀ j o, ops[j]? = some o → L.getD j false = true → ∀ e ∈ o.after, Region.binds md e = true → L.getD e.on false = true
def closedB (md : Region.Mode) (ops : Array Oper) (L : Array Bool) : Bool := (List.range ops.size).all fun j => !(L.getD j false) || match ops[j]? with | some o => o.after.all fun e => !(Region.binds md e) || L.getD e.on false | none => true
theorem closed_of {L : Array Bool} (h : closedB md ops L = true) : Closed md ops L := by
 intro j o ho hl e he hb
 have hj : j < ops.size := (Array.getElem?_eq_some_iff.1 ho).1
 have h1 := List.all_eq_true.1 h j (List.mem_range.2 hj)
 rw [hl, ho] at h1
 simp only [Bool.not_true, Bool.false_or, Array.all_eq_true'] at h1
 have h2 := h1 e he
 rw [hb] at h2
 simpa using h2
/-- Does z wait for i, by some steps? -/
def waitsB (md : Region.Mode) (ops : Array Oper) (i : Nat) : Nat → Nat → Bool
 | 0, _ => false
 | n + 1, z => match ops[z]? with | some o => o.after.any fun e => Region.binds md e && (e.on == i || waitsB md ops i n e.on) | none => false
theorem waits_closed {i : Nat} {L : Array Bool} (hc : Closed md ops L) : ∀ (n z : Nat), waitsB md ops i n z = true → L.getD z false = true → L.getD i false = true
 | 0, z, h, _ => by cases h
 | n + 1, z, h, hz => by
   unfold waitsB at h
   cases ho : ops[z]? with
   | none => rw [ho] at h; cases h
   | some o =>
     rw [ho] at h
     obtain ⟨e, he, h1⟩ := Array.any_eq_true'.1 h
     rw [Bool.and_eq_true, Bool.or_eq_true] at h1
     have h2 := hc z o ho hz e he h1.1
     rcases h1.2 with h3 | h3
     · rw [beq_iff_eq] at h3; rw [← h3]; exact h2
     · exact waits_closed hc n _ h3 h2
/-- None of Z has come up. -/
def ZFree (Z : List Nat) (L : Array Bool) : Prop := ∀ z ∈ Z, L.getD z false = false
/-- Whatever order is picked from here on; S holds behind every operation as long as none of Z has come up. -/
def wpAnyZ (P : Program) (md : Region.Mode) (ops : Array Oper) (Q : Exit → Act → World → Prop) (Z : List Nat) (S : World → Prop) : Nat → Array Bool → Act → World → Prop
 | 0, listed, a, w => Region.ready md ops listed = [] ∧ Q .normal a w
 | fuel + 1, listed, a, w =>
   (Region.ready md ops listed = [] → Q .normal a w) ∧
   ∀ i ∈ Region.ready md ops listed, wpOp P ops Q i (fun a' w' => (ZFree Z (listed.setIfInBounds i true) → S w') ∧ wpAnyZ P md ops Q Z S fuel (listed.setIfInBounds i true) a' w') a w
theorem wpAny_of_z : ∀ (fuel : Nat) (listed : Array Bool) (a : Act) (w : World), wpAnyZ P md ops Q Z S fuel listed a w → wpAny P md ops Q fuel listed a w
 | 0, _, _, _, h => h
 | fuel + 1, _, _, _, h => ⟨h.1, fun i hi => wpOp_mono (fun a' w' h' => wpAny_of_z fuel _ a' w' h'.2) (h.2 i hi)⟩
theorem closed_step {j : Nat} {L : Array Bool} (hc : Closed md ops L) (hj : j ∈ Region.ready md ops L) : Closed md ops (L.setIfInBounds j true) := by
 intro k o ho hl e he hb
 by_cases hkj : j = k
 · subst hkj
   obtain ⟨_, o', ho', hall⟩ := mem_ready.1 hj
   rw [ho] at ho'
   cases ho'
   exact getD_set_true (hall e he hb)
 · rw [getD_set_ne false hkj] at hl
   exact getD_set_true (hc k o ho hl e he hb)
theorem unlisted {i : Nat} {L : Array Bool} (h : L.getD i true = false) : L.getD i false = false := by
 rcases Nat.lt_or_ge i L.size with h' | h'
 · simp [h'] at h ⊢; exact h
 · simp [Array.getElem?_eq_none h'] at h
theorem wpAnyZ_first {i n : Nat} {oi : Oper} {v : Value} (hi : ops[i]? = some oi) (hsel : ∀ (j : Nat) (o : Oper) cs b, ops[j]? = some o → o.op ≠ .select cs b)
 (hQ : ∀ c a w, Q (.panic c) (a.put oi.dst v) w → Q (.panic c) a w) (hz : ∀ z ∈ Z, waitsB md ops i n z = true) (hiz : i ∉ Z) :
 ∀ (fuel : Nat) (listed : Array Bool) (a : Act) (w : World),
   (∀ j oj, ops[j]? = some oj → j ≠ i → listed.getD j true = false → (∀ e ∈ oj.after, Region.binds md e = true → e.on ≠ i) → oi.apart ops oj = true) →
   i ∈ Region.ready md ops listed → Closed md ops listed → YieldsIf P ops S oi v a → S w →
   wpAnyZ P md ops Q Z S fuel (listed.setIfInBounds i true) (a.put oi.dst v) w → wpAnyZ P md ops Q Z S (fuel + 1) listed a w := by
 have free : ∀ L, Closed md ops L → L.getD i true = false → ZFree Z L := fun L hc hu z hzZ => by
  cases hzl : L.getD z false
  · rfl
  · have := waits_closed hc n z (hz z hzZ) hzl
    rw [unlisted hu] at this
    cases this
 intro fuel
 induction fuel with
 | zero =>
   intro listed a w _ hr _ hy hS H
   refine ⟨fun h => (by rw [h] at hr; cases hr), fun j hj => ?_⟩
   by_cases hji : j = i
   · subst hji; exact hy.wpOp hi hS ⟨fun _ => hS, H⟩
   · have := ready_mono hj hji
     rw [H.1] at this
     cases this
 | succ fuel ih =>
   intro listed a w hfree hr hc hy hS H
   refine ⟨fun h => (by rw [h] at hr; cases hr), fun j hj => ?_⟩
   by_cases hji : j = i
   · subst hji; exact hy.wpOp hi hS ⟨fun _ => hS, H⟩
   · have h1 := H.2 j (ready_mono hj hji)
     obtain ⟨hjun, oj, hoj, hall⟩ := mem_ready.1 hj
     have hnot : ∀ e ∈ oj.after, Region.binds md e = true → e.on ≠ i := fun e he hb heq => by
      have h1 := hall e he hb
      have h0 := (mem_ready.1 hr).1
      rw [heq] at h1
      rw [unlisted h0] at h1
      cases h1
     have h2 := wpOp_putIf hoj (hfree j oj hoj hji hjun hnot) (fun cs b => hsel i oi cs b hi) (fun cs b => hsel j oj cs b hoj) hQ hy h1
     have hfree' : ∀ k ok, ops[k]? = some ok → k ≠ i → (listed.setIfInBounds j true).getD k true = false →
      (∀ e ∈ ok.after, Region.binds md e = true → e.on ≠ i) → oi.apart ops ok = true := fun k ok hk hki hun hno => by
      refine hfree k ok hk hki ?_ hno
      by_cases hjk : j = k
      · subst hjk; exact hjun
      · rw [getD_set_ne true hjk] at hun; exact hun
     have hr' := ready_mono hr (Ne.symm hji)
     have hc' := closed_step hc hj
     have hzf := free _ hc' (mem_ready.1 hr').1
     have hzf2 : ZFree Z ((listed.setIfInBounds i true).setIfInBounds j true) := fun z hzZ => by
      have hne : i ≠ z := fun e => hiz (e ▸ hzZ)
      rw [Array.setIfInBounds_comm _ _ (Ne.symm hji), getD_set_ne false hne]
      exact hzf z hzZ
     refine wpOp_mono (fun a' w' h3 => ⟨fun _ => h3.2.1 hzf2, ih (listed.setIfInBounds j true) a' w' hfree' hr' hc' h3.1 (h3.2.1 hzf2) ?_⟩) h2
     rw [Array.setIfInBounds_comm _ _ hji]
     exact h3.2.2
theorem wpAnyZ_take {i : Nat} {oi : Oper} {v : Value} {fuel : Nat} {listed : Array Bool} {a : Act} {w : World} (hi : ops[i]? = some oi)
 (hs : Region.noSelect ops = true) (hf : Region.free md ops listed i = true) (hr : (Region.ready md ops listed).contains i = true) (hc : closedB md ops listed = true) (hz : (Z.all fun z => waitsB md ops i 12 z && !(z == i)) = true)
 (hQ : ∀ c a w, Q (.panic c) (a.put oi.dst v) w → Q (.panic c) a w) (hy : YieldsIf P ops S oi v a) (hS : S w)
 (h : wpAnyZ P md ops Q Z S fuel (listed.setIfInBounds i true) (a.put oi.dst v) w) : wpAnyZ P md ops Q Z S (fuel + 1) listed a w := by
 have hz' := List.all_eq_true.1 hz
 refine wpAnyZ_first (n := 12) hi (Region.noSelect_spec hs) hQ (fun z hzZ => ?_) (fun hiZ => ?_) fuel listed a w (Region.free_spec hi hf) (by simpa using hr) (closed_of hc) hy hS h
 · have := hz' z hzZ; rw [Bool.and_eq_true] at this; exact this.1
 · have := hz' i hiZ; simp at this
/-- Each of the operations 'rs' comes up next. -/
def AllReadyZ (P : Program) (md : Region.Mode) (ops : Array Oper) (Q : Exit → Act → World → Prop) (Z : List Nat) (S : World → Prop) (fuel : Nat) (listed : Array Bool) (a : Act) (w : World) (rs : List Nat) : Prop :=
 ∀ i ∈ rs, wpOp P ops Q i (fun a' w' => (ZFree Z (listed.setIfInBounds i true) → S w') ∧ wpAnyZ P md ops Q Z S fuel (listed.setIfInBounds i true) a' w') a w
theorem AllReadyZ.nil {fuel : Nat} {listed : Array Bool} {a : Act} {w : World} : AllReadyZ P md ops Q Z S fuel listed a w [] := fun _ h => by cases h
theorem AllReadyZ.cons {fuel : Nat} {listed : Array Bool} {a : Act} {w : World} {i : Nat} {o : Oper} {rs : List Nat} (ho : ops[i]? = some o)
 (h : ∀ K' : Act → World → Prop, Shut (∀ a w, (ZFree Z (listed.setIfInBounds i true) → S w) → ((ZFree Z (listed.setIfInBounds i true) → S w) → wpAnyZ P md ops Q Z S fuel (listed.setIfInBounds i true) a w) → K' a w) → if Region.wanted o (yielded ops a.tmps) = true then Oper.wp P o a w K' Q else K' (a.put o.dst undef) w)
 (hs : AllReadyZ P md ops Q Z S fuel listed a w rs) : AllReadyZ P md ops Q Z S fuel listed a w (i :: rs) := fun j hj => by
 rcases List.mem_cons.1 hj with rfl | hj
 · exact wpOp_step ho (fun K' hK => h K' (fun a w hS hW => hK a w ⟨hS, hW hS⟩))
 · exact hs j hj
theorem wpAnyZ_ready {rs : List Nat} {fuel : Nat} {listed : Array Bool} {a : Act} {w : World} (hr : Region.ready md ops listed = rs) (hne : rs ≠ [])
 (h : AllReadyZ P md ops Q Z S fuel listed a w rs) : wpAnyZ P md ops Q Z S (fuel + 1) listed a w :=
 ⟨fun h0 => absurd (hr ▸ h0) hne, by rw [hr]; exact h⟩
theorem wpAnyZ_done {listed : Array Bool} {a : Act} {w : World} (hr : Region.ready md ops listed = []) (h : Q .normal a w) :
 ∀ fuel, wpAnyZ P md ops Q Z S fuel listed a w
 | 0 => ⟨hr, h⟩
 | _ + 1 => ⟨fun _ => h, by rw [hr]; simp⟩
theorem wp_region_z {id : Nat} {a : Act} {w : World} (Z : List Nat) (S : World → Prop) (hm : P.follows .mixedOrders = true)
 (h : wpAnyZ P .any ops Q Z S ops.size (Array.replicate ops.size false) a w.drew) : (Code.region id ops true).wp P Q a w :=
 wp_region_any hm (wpAny_of_z _ _ _ _ h)
theorem wpAnyZ_strengthen {S' : World → Prop} (h : ∀ w, S' w → S w) :
 ∀ (fuel : Nat) (listed : Array Bool) (a : Act) (w : World), wpAnyZ P md ops Q Z S' fuel listed a w → wpAnyZ P md ops Q Z S fuel listed a w
 | 0, _, _, _, hh => hh
 | fuel + 1, _, _, _, hh => ⟨hh.1, fun i hi => wpOp_mono (fun _ _ hk => ⟨fun hz => h _ (hk.1 hz), wpAnyZ_strengthen h fuel _ _ _ hk.2⟩) (hh.2 i hi)⟩
/-- One way alone is left, and one operation: it turns the worlds as it likes. -/
theorem zfree_no {i : Nat} {listed : Array Bool} {Z : List Nat} {p : Prop} (h : (Z.contains i && decide (i < listed.size)) = true) : ZFree Z (listed.setIfInBounds i true) → p := by
 intro hz
 rw [Bool.and_eq_true] at h
 have := hz i (by simpa using h.1)
 have hlt : i < listed.size := of_decide_eq_true h.2
 simp [hlt] at this
end
end Go.Proofs.YtgohekjkbgfeeaaGreat
namespace Go.Proofs.YtgohekjkbgfeeaaGreat
open Go
set_option linter.unusedVariables false

section
variable {P : Program} {ops : Array Oper} {Q : Exit → Act → World → Prop} {md : Region.Mode} {S : World → Prop} {Z : List Nat}
theorem zt (i : Nat) {v : Value} {o1 : Option Nat} {o2 o3 o4 o5 o6} {fuel : Nat} {listed l2 : Array Bool} {a a2 : Act} {w : World}
    (h : wpAnyZ P md ops Q Z S fuel l2 a2 w)
    (hi : ops[i]? = some ⟨o1, o2, o3, o4, o5, o6⟩ := by exact rfl)
    (hk : (Region.noSelect ops && (Region.free md ops listed i && ((Region.ready md ops listed).contains i && (closedB md ops listed && Z.all fun z => waitsB md ops i 12 z && !(z == i))))) = true := by kernel_rfl)
    (hQ : ∀ c a w, Q (.panic c) (a.put o1 v) w → Q (.panic c) a w := by exact fun _ _ _ h => h) (hS : S w := by assumption)
    (hy : YieldsIf P ops S ⟨o1, o2, o3, o4, o5, o6⟩ v a := by first | exact .inr ⟨by rfl, rfl⟩ | exact .inl ⟨by rfl, by intro W hSw; (try dsimp only at hSw); go_simp; (try with_reducible rfl)⟩)
    (hl : listed.setIfInBounds i true = l2 := by (try simp only [List.setIfInBounds_toArray, List.set_cons_zero, List.set_cons_succ]); exact rfl)
    (ha : a.put o1 v = a2 := by (try simp only [Act.put, List.setIfInBounds_toArray, List.set_cons_zero, List.set_cons_succ]); exact rfl) : wpAnyZ P md ops Q Z S (fuel + 1) listed a w := by
  simp only [Bool.and_eq_true] at hk
  obtain ⟨h1, h2, h3, h4, h5⟩ := hk
  subst hl ha
  exact wpAnyZ_take hi h1 h2 h3 h4 h5 hQ hy hS h
theorem zr (i : Nat) {o1 : Option Nat} {o2 o3 o4 o5 o6} {fuel : Nat} {listed : Array Bool} {a : Act} {w : World}
    (h : ∀ K' : Act → World → Prop, Shut (∀ a w, (ZFree Z (listed.setIfInBounds i true) → S w) → ((ZFree Z (listed.setIfInBounds i true) → S w) → wpAnyZ P md ops Q Z S fuel (listed.setIfInBounds i true) a w) → K' a w) → if Region.wanted ⟨o1, o2, o3, o4, o5, o6⟩ (yielded ops a.tmps) = true then Oper.wp P ⟨o1, o2, o3, o4, o5, o6⟩ a w K' Q else K' (a.put o1 undef) w)
    (ho : ops[i]? = some ⟨o1, o2, o3, o4, o5, o6⟩ := by exact rfl) (hr : Region.ready md ops listed = [i] := by kernel_rfl) :
    wpAnyZ P md ops Q Z S (fuel + 1) listed a w :=
  wpAnyZ_ready hr (by simp) (AllReadyZ.cons ho h AllReadyZ.nil)
theorem zc {C : Act → World → Prop} {fuel : Nat} {l l2 : Array Bool} {a a2 : Act} {w : World}
    (hC : Shut (∀ a w, (ZFree Z l → S w) → ((ZFree Z l → S w) → wpAnyZ P md ops Q Z S fuel l a w) → C a w)) (hS : S w) (h : wpAnyZ P md ops Q Z S fuel l2 a2 w)
    (hl : l = l2 := by (try simp only [List.setIfInBounds_toArray, List.set_cons_zero, List.set_cons_succ]); exact rfl)
    (ha : a = a2 := by (try simp only [Act.put, List.setIfInBounds_toArray, List.set_cons_zero, List.set_cons_succ]); exact rfl) : C a w := by
  subst hl ha
  exact hC.out _ _ (fun _ => hS) (fun _ => h)
end
end Go.Proofs.YtgohekjkbgfeeaaGreat
namespace Go.Proofs.YtgohekjkbgfeeaaGreat
open Go.RowKit Go.OpenShut
set_option linter.unusedVariables false

abbrev AllB (bs : List Nat) : Prop := ∀ x ∈ bs, x < 256
/-- A slice of bytes reads as bs: it is empty, or its cells lie in one block, one behind the other. -/
structure Byt (w : World) (ad : Option Addr) (len cap : Nat) (bs : List Nat) : Prop where
 length : bs.length = len
 fits : len ≤ cap
 all : AllB bs
 cells : len = 0 ∨ ∃ b off, ad = some ⟨b, off, none⟩ ∧ ∀ i, i < len → w.cell? ⟨b, off + i, none⟩ = some (.int .u8 (bs.getD i 0 : Nat))

theorem getD_all {bs : List Nat} (h : AllB bs) (k : Nat) : bs.getD k 0 < 256 := by
 rw [List.getD_eq_getElem?_getD]
 rcases hk : bs[k]? with _ | x
 · decide
 · exact h x (List.mem_of_getElem? hk)
theorem take_all {bs : List Nat} (h : AllB bs) (k : Nat) : AllB (bs.take k) := fun x hx => h x (List.mem_of_mem_take hx)

def byte (b : Nat) : Value := .int .u8 (b : Int)
def vals (bs : List Nat) : List Value := bs.map byte
/-- Block g is known whole: the bytes bs. -/
def Own (w : World) (g : Nat) (bs : List Nat) : Prop := w.heap[g]? = some (.cells (vals bs).toArray 5 (0, 0))
theorem length_vals (bs : List Nat) : (vals bs).length = bs.length := by simp [vals]
theorem vals_append (a b : List Nat) : vals (a ++ b) = vals a ++ vals b := by simp [vals]
theorem Own.cell {w : World} {g : Nat} {bs : List Nat} (h : Own w g bs) (i : Nat) (hi : i < bs.length) : w.cell? ⟨g, i, none⟩ = some (.int .u8 (bs.getD i 0 : Nat)) := by
 rw [cell_of_row w g i _ _ _ h]
 simp [vals, hi, byte]
theorem Own.free {w : World} {g : Nat} {bs : List Nat} (h : Own w g bs) (i : Nat) : w.frozen? ⟨g, i, none⟩ = false := frozen_of_row w g i _ _ h
theorem Own.byt {w : World} {g : Nat} {bs : List Nat} (h : Own w g bs) (ha : AllB bs) (cap : Nat) (hc : bs.length ≤ cap) : Byt w (some ⟨g, 0, none⟩) bs.length cap bs :=
 ⟨rfl, hc, ha, .inr ⟨g, 0, rfl, fun i hi => by rw [Nat.zero_add]; exact h.cell i hi⟩⟩
theorem Own.set {w : World} {g : Nat} {bs : List Nat} (h : Own w g bs) (i : Nat) (x : Nat) : Own (w.setCell ⟨g, i, none⟩ (.int .u8 x)) g (bs.set i x) := by
 have := heap_setCell_same w g i _ _ (.int .u8 x) h
 show (w.setCell ⟨g, i, none⟩ (.int .u8 x)).heap[g]? = some (.cells (vals (bs.set i x)).toArray 5 (0, 0))
 rw [this]
 congr 2
 simp [vals, byte]
theorem Byt.keep {w w' : World} {ad : Option Addr} {len cap : Nat} {bs : List Nat} (h : Byt w ad len cap bs) {B : Nat} (hb : Below B w w') (hB : w.heap.size ≤ B) : Byt w' ad len cap bs := by
 refine ⟨h.length, h.fits, h.all, ?_⟩
 rcases h.cells with h0 | ⟨b, off, e, hc⟩
 · exact .inl h0
 · refine .inr ⟨b, off, e, fun i hi => ?_⟩
   have := hc i hi
   rw [hb.cell (p := ⟨b, off + i, none⟩) (by have := World.block_lt_of_cell? w _ this; exact Nat.lt_of_lt_of_le this hB)]
   exact this
theorem own_made {w : World} {base g n : Nat} {xs : List Value} (h : w.ownsRow base 5 1 (.slice (some ⟨g, 0, none⟩) n n) n xs) : w.heap[g]? = some (.cells xs.toArray 5 (0, 0)) := by
 rcases h.2 with ⟨h', _⟩ | ⟨g', cap', cur, h', _, hg, _, _, hs, htake⟩
 · simp at h'
 · simp only [Value.slice.injEq, Option.some.injEq, Addr.mk.injEq, and_true, true_and] at h'
   obtain ⟨rfl, rfl⟩ := h'
   rw [hg, ← htake, List.take_of_length_le (by simp [hs])]
theorem info5 : (Tryz.prog.info? 5).map (fun i => (i.zero, i.size, i.bytes)) = some (some (.int .u8 0), 1, 1) := by kernel_rfl

theorem own_zero {w : World} {g n : Nat} (h : w.heap[g]? = some (.cells (madeCells (Value.int .u8 0).cells (n * 1)).toList.toArray 5 (0, 0))) : Own w g (List.replicate n 0) := by
 show w.heap[g]? = _
 rw [h, Nat.mul_one]
 have : (madeCells (Value.int .u8 0).cells n).toList = vals (List.replicate n 0) := by
  have := toList_madeCells_one (.int .u8 0) n
  rw [show (Value.int .u8 0).cells = #[.int .u8 0] from rfl, this]
  simp [vals, byte]
 rw [this]
theorem size5 : (Tryz.prog.info? 5).map (·.size) = some 1 := by kernel_rfl
theorem vals_one (bs : List Nat) : ∀ v ∈ vals bs, v.oneCell' = true := by
 intro v hv
 obtain ⟨b, _, rfl⟩ := List.mem_map.1 hv
 rfl
theorem Byt.source {w : World} {ad : Option Addr} {len cap : Nat} {bs : List Nat} (h : Byt w ad len cap bs) (hp : 0 < len) : ∃ a, ad = some a ∧ ∀ j v, (vals bs)[j]? = some v → w.cell? (a.add j) = some v := by
 rcases h.cells with h0 | ⟨b, off, e, hc⟩
 · omega
 · refine ⟨_, e, fun j v hj => ?_⟩
   have hjl : j < bs.length := by
    have := (List.getElem?_eq_some_iff.1 hj).1
    simpa [vals] using this
   have h1 := hc j (by rw [h.length] at hjl; exact hjl)
   have h2 : (⟨b, off, none⟩ : Addr).add j = ⟨b, off + j, none⟩ := by
    unfold Addr.add
    split
    · rename_i h3; subst h3; rfl
    · rfl
   rw [h2, h1]
   rw [← hj]
   simp [vals, byte, hjl]
theorem Byt.alike {w w' : World} {ad : Option Addr} {len cap : Nat} {bs : List Nat} (h : Byt w ad len cap bs) (hc : ∀ a, w'.cell? a = w.cell? a) : Byt w' ad len cap bs := by
 refine ⟨h.length, h.fits, h.all, ?_⟩
 rcases h.cells with h0 | ⟨b, off, e, hc'⟩
 · exact .inl h0
 · exact .inr ⟨b, off, e, fun i hi => (hc _).trans (hc' i hi)⟩
theorem Byt.drewN {w : World} {ad : Option Addr} {len cap : Nat} {bs : List Nat} (h : Byt w ad len cap bs) (n : Nat) : Byt (w.drewN n) ad len cap bs := h.alike fun a => by simp

theorem elem22 : Tryz.prog.underlying 31 = some (.slice (Tryz.prog.elem 31)) := by kernel_rfl
theorem sizeElem (w : World) : (sizeOf (Tryz.prog.elem 31)).run Tryz.prog w = .ok 1 w := by kernel_rfl
theorem run_from (b off len cap l : Nat) (h : l ≤ len) (w : World) :
 (Instr.slice 31 (.slice (some ⟨b, off, none⟩) len cap) (some (.int .i64 l)) none none).run Tryz.prog w = .ok (.slice (some ⟨b, if cap = l then off else off + l, none⟩) (len - l) (cap - l)) w := by
 rw [run_slice_l _ _ _ _ _ elem22 _ _ (by omega) (by omega), sizeElem]
 simp only [Result.andThen, sliced, Nat.mul_one, Int.toNat_natCast]
 congr 2
 by_cases h1 : cap = l
 · simp [h1]
 · simp [h1, Addr.add]
theorem add_at (b o j : Nat) : (⟨b, o, none⟩ : Addr).add j = ⟨b, o + j, none⟩ := by
 unfold Addr.add
 split
 · rename_i h; subst h; rfl
 · rfl
theorem source_at {w : World} {b o : Nat} {r : List Value} (h : ∃ a, some (⟨b, o, none⟩ : Addr) = some a ∧ ∀ j v, r[j]? = some v → w.cell? (a.add j) = some v) : ∀ j v, r[j]? = some v → w.cell? ⟨b, o + j, none⟩ = some v := by
 obtain ⟨a, ha, hs⟩ := h
 obtain rfl := Option.some.inj ha
 intro j v hj
 rw [← add_at]; exact hs j v hj
/-- Block g begins with the bytes bs. -/
def Pre (w : World) (g : Nat) (bs : List Nat) : Prop := ∃ cur : Array Value, w.heap[g]? = some (.cells cur 5 (0, 0)) ∧ cur.toList.take bs.length = vals bs
theorem Own.pre {w : World} {g : Nat} {bs : List Nat} (h : Own w g bs) : Pre w g bs := ⟨_, h, by rw [← length_vals]; simp⟩
theorem Pre.cell {w : World} {g : Nat} {bs : List Nat} (h : Pre w g bs) (i : Nat) (hi : i < bs.length) : w.cell? ⟨g, i, none⟩ = some (.int .u8 (bs.getD i 0 : Nat)) := by
 obtain ⟨cur, hg, ht⟩ := h
 rw [cell_of_row w g i _ _ _ hg]
 have h1 : (cur.toList.take bs.length)[i]? = cur[i]? := by rw [List.getElem?_take, if_pos hi]; simp
 rw [← h1, ht]
 simp [vals, hi, byte]
theorem Pre.free {w : World} {g : Nat} {bs : List Nat} (h : Pre w g bs) (i : Nat) : w.frozen? ⟨g, i, none⟩ = false := by
 obtain ⟨cur, hg, _⟩ := h
 exact frozen_of_row w g i _ _ hg
theorem Pre.byt {w : World} {g : Nat} {bs : List Nat} (h : Pre w g bs) (ha : AllB bs) (cap : Nat) (hc : bs.length ≤ cap) : Byt w (some ⟨g, 0, none⟩) bs.length cap bs :=
 ⟨rfl, hc, ha, .inr ⟨g, 0, rfl, fun i hi => by rw [Nat.zero_add]; exact h.cell i hi⟩⟩
theorem pre_owns {w : World} {base g n cap : Nat} {bs : List Nat} (h : w.ownsRow base 5 1 (.slice (some ⟨g, 0, none⟩) n cap) n (vals bs)) : Pre w g bs ∧ bs.length = n ∧ n ≤ cap ∧ base ≤ g ∧ cap ≤ maxLen := by
 have hl := h.1
 rcases h.2 with ⟨h', _⟩ | ⟨g', cap', cur, h', hb, hg, hc, hm, hs, htake⟩
 · simp at h'
 · simp only [Value.slice.injEq, Option.some.injEq, Addr.mk.injEq, and_true, true_and] at h'
   obtain ⟨rfl, rfl⟩ := h'
   have hn : bs.length = n := by simpa [length_vals] using hl
   exact ⟨⟨cur, hg, by rw [hn]; simpa using htake⟩, hn, hc, hb, hm⟩
/-- What 'Sealed' and its like give: a slice at the head of a new block, which begins with bs. -/
def Made (w : World) (bs : List Nat) (v : Value) (w' : World) : Prop := ∃ g cap, v = .slice (some ⟨g, 0, none⟩) bs.length cap ∧ bs.length ≤ cap ∧ w.heap.size ≤ g ∧ Pre w' g bs ∧ Below w.heap.size w w'
def GivesMade (w : World) (bs : List Nat) (e : Ending) (w' : World) : Prop := ∃ v, e = .returned v ∧ Made w bs v w'
theorem made_of {w w' : World} {bs : List Nat} {v' : Value} (h : w'.ownsRow w.heap.size 5 1 v' bs.length (vals bs)) (hn : 0 < bs.length) (hb : Below w.heap.size w w') : Made w bs v' w' := by
 rcases h.2 with ⟨h', h0⟩ | ⟨g', cap', cur, rfl, _⟩
 · omega
 · obtain ⟨h1, h2, h3, h4, h5⟩ := pre_owns h
   exact ⟨g', cap', rfl, h3, h4, h1, hb⟩

def str (bs : List Nat) : ByteArray := ⟨(bs.map UInt8.ofNat).toArray⟩
theorem foldl_push (bs : List Int) (s : ByteArray) : (bs.foldl (fun r n => r.push (UInt8.ofNat n.toNat)) s).data.toList = s.data.toList ++ bs.map (fun n => UInt8.ofNat n.toNat) := by
 induction bs generalizing s with
 | nil => simp
 | cons b bs ih => rw [List.foldl_cons, ih]; simp [ByteArray.push]
theorem str_eq (bs : List Nat) : ((bs.map Int.ofNat).foldl (fun r n => r.push (UInt8.ofNat n.toNat)) ByteArray.empty) = str bs := by
 apply ByteArray.ext
 apply Array.toList_inj.1
 rw [foldl_push]
 have e : (ByteArray.empty : ByteArray).data.toList = [] := rfl
 rw [e]
 simp [str, Function.comp_def]
theorem ints_vals (bs : List Nat) : (bs.map Int.ofNat).map (Value.int .u8) = vals bs := by simp only [vals, List.map_map]; rfl
theorem run_str {w : World} {ad : Option Addr} {len cap : Nat} {bs : List Nat} (h : Byt w ad len cap bs) : (convert 31 9 (.slice ad len cap)).run Tryz.prog w = .ok (.string (str bs)) w := by
 rw [run_convert_bytes_string w 31 9 5 ad len cap Tryz.underlying31 Tryz.underlying5 Tryz.underlying9]
 rcases ad with _ | a
 · have : len = 0 := by
    rcases h.cells with h0 | ⟨b, off, e, _⟩
    · exact h0
    · cases e
   subst this
   obtain rfl : bs = [] := List.eq_nil_of_length_eq_zero h.length
   simp [Conv.bytesToString, Sem.run_pure, str]; rfl
 · have hl := h.length
   have hc : ∀ j v, (vals bs)[j]? = some v → w.cell? (a.add j) = some v := by
    intro j v hj
    have hjl : j < bs.length := by
     have := (List.getElem?_eq_some_iff.1 hj).1
     rwa [length_vals] at this
    obtain ⟨a', ha', hs⟩ := h.source (by omega)
    obtain rfl := Option.some.inj ha'
    exact hs j v hj
   have h1 := run_loadCells_list (P := Tryz.prog) (w := w) a (vals bs) hc
   rw [length_vals, hl, ← ints_vals] at h1
   rw [run_bytesToString w a len cap _ h1, str_eq]
theorem str_toList (bs : List Nat) : (str bs).toList = bs.map UInt8.ofNat := by rw [ByteArray.toList_eq]; simp [str]
theorem str_inj {a b : List Nat} (ha : AllB a) (hb : AllB b) (h : (str a).toList = (str b).toList) : a = b := by
 rw [str_toList, str_toList] at h
 have h2 := congrArg (List.map UInt8.toNat) h
 rw [List.map_map, List.map_map] at h2
 have e : ∀ l : List Nat, AllB l → l.map (UInt8.toNat ∘ UInt8.ofNat) = l := by
  intro l hl
  conv => rhs; rw [← List.map_id l]
  apply List.map_congr_left
  intro x hx
  have := hl x hx
  simp [Nat.mod_eq_of_lt this]
 rwa [e a ha, e b hb] at h2
theorem str_same (bs : List Nat) : ((str bs).toList == (str bs).toList) = true := by simp
theorem str_differ {a b : List Nat} (ha : AllB a) (hb : AllB b) (h : a ≠ b) : ((str a).toList == (str b).toList) = false := by
 simp only [beq_eq_false_iff_ne, ne_eq]
 exact fun e => h (str_inj ha hb e)
theorem own_new (w : World) (bs : List Nat) : Own (w.alloc (.cells (vals bs).toArray 5)) w.heap.size bs := heap_alloc_new w _
theorem Byt.nil (w : World) : Byt w none 0 0 [] := ⟨rfl, Nat.le_refl _, (fun x hx => by cases hx), .inl rfl⟩

theorem all_small {bs : List Nat} (h : bs.all (· < 256) = true) : AllB bs := by
 intro x hx
 have := List.all_eq_true.1 h x hx
 simpa using this
theorem run_str_at {w : World} {ad : Option Addr} {len cap : Nat} {bs : List Nat} {s : ByteArray} (h : Byt w ad len cap bs) (hs : s = str bs) : (convert 31 9 (.slice ad len cap)).run Tryz.prog w = .ok (.string s) w := by
 rw [hs]; exact run_str h
theorem news_of {w : World} {b o len cap : Nat} {r : List Nat} (h : Byt w (some ⟨b, o, none⟩) len cap r) : ∀ j u, (vals r)[j]? = some u → w.cell? ((⟨b, o, none⟩ : Addr).add j) = some u := by
 intro j u hj
 have hjl : j < r.length := by
  have := (List.getElem?_eq_some_iff.1 hj).1
  rwa [length_vals] at this
 obtain ⟨a', ha', hs⟩ := h.source (by have := h.length; omega)
 obtain rfl := Option.some.inj ha'
 exact hs j u hj
theorem made_some {w w' : World} {bs : List Nat} {v' : Value} (h : w'.ownsRow w.heap.size 5 1 v' bs.length (vals bs)) (hn : v' ≠ .slice none 0 0) (hb : Below w.heap.size w w') : Made w bs v' w' := by
 rcases h.2 with ⟨h', h0⟩ | ⟨g', cap', cur, rfl, _⟩
 · exact absurd h' hn
 · obtain ⟨h1, h2, h3, h4, h5⟩ := pre_owns h
   exact ⟨g', cap', rfl, h3, h4, h1, hb⟩
def IsRow (k : IntKind) (w : World) (a : Option Addr) (len cap : Nat) (zs : List Int) : Prop :=
 (a = none ∧ len = 0 ∧ cap = 0 ∧ zs = []) ∨
 ∃ x, a = some x ∧ len ≤ cap ∧ cap ≤ maxLen ∧ zs.length = cap ∧ (∀ i, i < zs.length → w.cell? (x.add i) = some (.int k (zs.getD i 0))) ∧ ∀ n ∈ zs, (Lit.int k n).wf = true

/-- The bytes of a slice that came in, as numbers. -/
def bytesOf (len : Nat) (zs : List Int) : List Nat := (zs.take len).map Int.toNat
theorem wf_byte {n : Int} (h : (Lit.int .u8 n).wf = true) : 0 ≤ n ∧ n < 256 := by
 have := bounds_u8 h
 omega
theorem IsRow.byt {w : World} {a : Option Addr} {len cap : Nat} {zs : List Int} (h : IsRow .u8 w a len cap zs) : Byt w a len cap (bytesOf len zs) ∧ (a = none → cap = 0) := by
 rcases h with ⟨rfl, rfl, rfl, rfl⟩ | ⟨x, rfl, hl, hm, hz, hc, hw⟩
 · exact ⟨Byt.nil w, fun _ => rfl⟩
 · refine ⟨⟨by simp [bytesOf]; omega, hl, ?_, ?_⟩, fun e => by cases e⟩
   · intro y hy
     obtain ⟨n, hn, rfl⟩ := List.mem_map.1 hy
     have := wf_byte (hw n (List.mem_of_mem_take hn))
     omega
   · by_cases h0 : len = 0
     · exact .inl h0
     · obtain ⟨b, off, spot⟩ := x
       have h1 := hc 0 (by omega)
       have hs : spot = none := by simpa [Addr.add] using World.cell?_spot h1
       subst hs
       refine .inr ⟨b, off, rfl, fun i hi => ?_⟩
       have h2 := hc i (by omega)
       rw [add_at] at h2
       rw [h2]
       have hi2 : i < zs.length := by omega
       have h3 := wf_byte (hw (zs.getD i 0) (by rw [List.getD_eq_getElem?_getD, List.getElem?_eq_getElem hi2]; simp))
       have h4 : ((bytesOf len zs).getD i 0 : Nat) = (zs.getD i 0).toNat := by
        simp [bytesOf, List.getD_eq_getElem?_getD, hi, hi2]
       rw [h4, Int.toNat_of_nonneg h3.1]
/-- A slice of bytes, and, if it is nil, it has no room. -/
def Row (w : World) (ad : Option Addr) (len cap : Nat) (bs : List Nat) : Prop := Byt w ad len cap bs ∧ (ad = none → cap = 0)
theorem Row.keep {w w' : World} {ad : Option Addr} {len cap : Nat} {bs : List Nat} (h : Row w ad len cap bs) {B : Nat} (hb : Below B w w') (hB : w.heap.size ≤ B) : Row w' ad len cap bs := ⟨h.1.keep hb hB, h.2⟩
theorem Row.all {w : World} {ad : Option Addr} {len cap : Nat} {bs : List Nat} (h : Row w ad len cap bs) : AllB bs := h.1.all
theorem Row.len {w : World} {ad : Option Addr} {len cap : Nat} {bs : List Nat} (h : Row w ad len cap bs) : bs.length = len := h.1.length

/-- 'append(v, xs...)', v the call's own, xs any slice of bytes, nil too. -/
theorem append_row {w : World} {ops : Array Oper} {rest : List Oper} {o : Oper} {a : Act} {Q : Exit → Act → World → Prop} (hgd : o.guard = none) (s x : Operand)
 (ho : o.op = .call { callee := .builtin .append, args := #[s, x], argTypes := #[31, 31] })
 (base n : Nat) (xs ys : List Nat) (v : Value) (hs : a.eval s = v) (hown : w.ownsRow base 5 1 v n (vals xs)) (hv : v ≠ .slice none 0 0) (hbase : base ≤ w.heap.size)
 (ad : Option Addr) (len cap : Nat) (hx : a.eval x = .slice ad len cap) (hr : Row w ad len cap ys) (hn : n + len ≤ 140737488355328)
 (w0 : World) (hb0 : Below base w0 w)
 (h : ∀ g cp w', w'.ownsRow base 5 1 (.slice (some ⟨g, 0, none⟩) (n + len) cp) (n + len) (vals (xs ++ ys)) → Below base w0 w' → wpList Tryz.prog ops Q rest (a.put o.dst (.slice (some ⟨g, 0, none⟩) (n + len) cp)) w') :
 wpList Tryz.prog ops Q (o :: rest) a w := by
 obtain ⟨i0, hi, hz0, hz1, hz2⟩ := info_parts info5
 rcases ad with _ | ad
 · have hcap := hr.2 rfl
   have hl := hr.1.fits
   have hyl := hr.1.length
   subst hcap
   obtain rfl : len = 0 := by omega
   obtain rfl : ys = [] := List.eq_nil_of_length_eq_zero hyl
   refine wpList_append_own_none hgd s x 31 ho base 5 i0 1 Tryz.underlying31 hi v n (vals xs) hs hown hx ?_
   rcases hown.2 with ⟨h', _⟩ | ⟨g, cp, cur, rfl, _⟩
   · exact absurd h' hv
   · exact h g cp w (by simpa using hown) hb0
 · refine wpList_append_own _ hgd s x 31 ho base 5 i0 (.int .u8 0) 1 1 Tryz.underlying31 hi hz0 hz1 hz2 rfl (by decide) v n (vals xs) hs hown ad len cap (vals ys) hx (by rw [length_vals, hr.1.length]; simp) (by
    intro j u hj
    have hjl : j < ys.length := by
     have := (List.getElem?_eq_some_iff.1 hj).1
     rwa [length_vals] at this
    obtain ⟨a', ha', hs'⟩ := hr.1.source (by have := hr.1.length; omega)
    obtain rfl := Option.some.inj ha'
    exact hs' j u hj) (vals_one ys) (by unfold maxLen; omega) (by omega) hbase ?_
   intro v' w' hown' hgrow hnn
   rw [← vals_append] at hown'
   have hb : Below base w0 w' := hb0.grown hgrow hbase (fun k hk => (hown.lt k hk).1)
   rcases hown'.2 with ⟨h', _⟩ | ⟨g, cp, cur, rfl, _⟩
   · exact absurd (hnn.1 h').1 hv
   · exact h g cp w' hown' hb
theorem own_empty (W : World) (base : Nat) (h : base ≤ W.heap.size) : (W.alloc (.cells #[] 5)).ownsRow base 5 1 (.slice (some ⟨W.heap.size, 0, none⟩) 0 0) 0 (vals []) := World.ownsRow_lit (e := 5) (size := 1) W #[] 0 h (by decide) rfl
theorem some_ne (a : Addr) (l c : Nat) : (Value.slice (some a) l c) ≠ .slice none 0 0 := by intro h; cases h
theorem owns_row {w : World} {base n g cp : Nat} {bs : List Nat} (h : w.ownsRow base 5 1 (.slice (some ⟨g, 0, none⟩) n cp) n (vals bs)) (ha : AllB bs) : Row w (some ⟨g, 0, none⟩) n cp bs := by
 obtain ⟨h1, h2, h3, h4, h5⟩ := pre_owns h
 have := h1.byt ha cp (by omega)
 rw [h2] at this
 exact ⟨this, fun h => by cases h⟩
theorem all_append {a b : List Nat} (ha : AllB a) (hb : AllB b) : AllB (a ++ b) := by
 intro x hx
 rcases List.mem_append.1 hx with h | h
 · exact ha x h
 · exact hb x h
theorem all_one : AllB [1] := all_small (by decide)

theorem owns_keep {w w' : World} {base e size n : Nat} {v : Value} {xs : List Value} (h : w.ownsRow base e size v n xs) {B : Nat} (hb : Below B w w') (hB : w.heap.size ≤ B) : w'.ownsRow base e size v n xs := by
 refine ⟨h.1, ?_⟩
 rcases h.2 with h0 | ⟨g, cap, cur, hv, hg, hh, r⟩
 · exact .inl h0
 · refine .inr ⟨g, cap, cur, hv, hg, ?_, r⟩
   rw [hb.block g (Nat.lt_of_lt_of_le (Array.getElem?_eq_some_iff.1 hh).1 hB)]
   exact hh
theorem owns_any {w : World} {base n : Nat} {v : Value} {bl : List Nat} (h : w.ownsRow base 5 1 v n (vals bl)) (ha : AllB bl) : ∃ ad cap, v = .slice ad n cap ∧ Row w ad n cap bl := by
 rcases h.2 with ⟨hv, hn⟩ | ⟨g, cap, cur, rfl, _⟩
 · subst hn
   have hl : bl = [] := by
    have := h.1
    rw [length_vals] at this
    exact List.eq_nil_of_length_eq_zero (by omega)
   subst hl
   exact ⟨none, 0, hv, Byt.nil w, fun _ => rfl⟩
 · exact ⟨_, _, rfl, owns_row h ha⟩
theorem xor_some (a b : Int) : ∃ z : Nat, z < 256 ∧ bits .xor .u8 a b = (z : Int) := by
 have h : ∀ n : Int, 0 ≤ IntKind.u8.wrap n ∧ IntKind.u8.wrap n < 256 := fun n => by rw [IntKind.wrap_u8]; omega
 obtain ⟨n, hn⟩ : ∃ n : Int, bits .xor .u8 a b = IntKind.u8.wrap n := ⟨_, rfl⟩
 have := h n
 exact ⟨(IntKind.u8.wrap n).toNat, by omega, by rw [hn]; omega⟩

theorem cut_row {w : World} {a : Addr} {len cap : Nat} {bs : List Nat} (h : Row w (some a) len cap bs) (l : Nat) (hl : l ≤ len) : Row w (some a) l cap (bs.take l) := by
 refine ⟨⟨by rw [List.length_take, h.1.length]; omega, Nat.le_trans hl h.1.fits, take_all h.all l, ?_⟩, fun h => by cases h⟩
 rcases h.1.cells with h0 | ⟨b, off, e, hc⟩
 · exact .inl (by omega)
 · refine .inr ⟨b, off, e, fun i hi => ?_⟩
   rw [hc i (by omega)]
   have : (bs.take l).getD i 0 = bs.getD i 0 := by rw [List.getD_eq_getElem?_getD, List.getElem?_take, if_pos hi, ← List.getD_eq_getElem?_getD]
   rw [this]

end Go.Proofs.YtgohekjkbgfeeaaGreat
namespace Go.VarMath

abbrev AllB (bs : List Nat) : Prop := ∀ x ∈ bs, x < 256
def two64 : Nat := 18446744073709551616
theorem two64_val : two64 = 18446744073709551616 := rfl
def zig (n : Int) : Nat := if 0 ≤ n then 2 * n.toNat else 2 * (-n).toNat - 1
def zag (u : Nat) : Int := if u % 2 = 0 then ((u / 2 : Nat) : Int) else -((u / 2 : Nat) : Int) - 1
theorem zag_zig (n : Int) : zag (zig n) = n := by
 unfold zig zag
 by_cases h : 0 ≤ n
 · rw [if_pos h, if_pos (by omega)]; omega
 · rw [if_neg h, if_neg (by omega)]; omega
theorem zig_zag (u : Nat) : zig (zag u) = u := by
 unfold zig zag
 by_cases h : u % 2 = 0
 · rw [if_pos h, if_pos (by omega)]; omega
 · rw [if_neg h, if_neg (by omega)]; omega
theorem zig_lt {n : Int} (h0 : -9223372036854775808 ≤ n) (h1 : n ≤ 9223372036854775807) : zig n < 18446744073709551616 := by
 unfold zig; split <;> omega
theorem zag_in {u : Nat} (h : u < 18446744073709551616) : -9223372036854775808 ≤ zag u ∧ zag u ≤ 9223372036854775807 := by
 unfold zag; split <;> omega
theorem zig_nonneg {n : Int} (h : 0 ≤ n) : (zig n : Int) = 2 * n := by unfold zig; rw [if_pos h]; omega
theorem zig_neg {n : Int} (h : n < 0) : (zig n : Int) = -2 * n - 1 := by unfold zig; rw [if_neg (by omega)]; omega
theorem zig_nat (k : Nat) : zig (k : Int) = 2 * k := by unfold zig; rw [if_pos (by omega)]; omega
/-- Groups of seven bits, no more than f + 1 of them. -/
def gr : Nat → Nat → List Nat
 | 0, u => [u]
 | f + 1, u => if u < 128 then [u] else (u % 128 + 128) :: gr f (u / 128)
def encU (u : Nat) : List Nat := gr 9 u
def encN (n : Int) : List Nat := encU (zig n)
def val : List Nat → Nat
 | [] => 0
 | b :: r => b % 128 + 128 * val r
def AllHi (p : List Nat) : Prop := ∀ x ∈ p, 128 ≤ x ∧ x < 256
theorem AllHi.nil : AllHi [] := fun x h => by cases h
theorem AllHi.cons {b : Nat} {p : List Nat} (hb : 128 ≤ b ∧ b < 256) (hp : AllHi p) : AllHi (b :: p) := by
 intro x hx
 rcases List.mem_cons.1 hx with h | h
 · rw [h]; exact hb
 · exact hp x h
theorem AllHi.snoc {b : Nat} {p : List Nat} (hp : AllHi p) (hb : 128 ≤ b ∧ b < 256) : AllHi (p ++ [b]) := by
 intro x hx
 rcases List.mem_append.1 hx with h | h
 · exact hp x h
 · simp at h; rw [h]; exact hb
theorem gr_small (f u : Nat) (h : u < 128) : gr f u = [u] := by
 cases f with
 | zero => rfl
 | succ f => simp [gr, h]
theorem gr_big (f u : Nat) (h : ¬ u < 128) : gr (f + 1) u = (u % 128 + 128) :: gr f (u / 128) := by simp [gr, h]
theorem gr_shape : ∀ f u, u < 128 ^ (f + 1) → ∃ p x, gr f u = p ++ [x] ∧ AllHi p ∧ x < 128 ∧ p.length ≤ f ∧ (x = 0 → p = [] ∧ u = 0)
 | 0, u, h => ⟨[], u, rfl, AllHi.nil, by simpa using h, by simp, fun h => ⟨rfl, h⟩⟩
 | f + 1, u, h => by
   by_cases hu : u < 128
   · exact ⟨[], u, by rw [gr_small _ _ hu]; rfl, AllHi.nil, hu, by simp, fun h => ⟨rfl, h⟩⟩
   · have h2 : u / 128 < 128 ^ (f + 1) := by
      rw [Nat.div_lt_iff_lt_mul (by omega)]
      rwa [← Nat.pow_succ]
     obtain ⟨p, x, e, hp, hx, hl, hz⟩ := gr_shape f (u / 128) h2
     refine ⟨(u % 128 + 128) :: p, x, by rw [gr_big _ _ hu, e]; rfl, AllHi.cons (by omega) hp, hx, by simp; omega, fun h0 => ?_⟩
     have := (hz h0).2
     omega
theorem val_gr : ∀ f u, u < 128 ^ (f + 1) → val (gr f u) = u
 | 0, u, h => by
   have : u < 128 := by simpa using h
   simp [gr, val]; omega
 | f + 1, u, h => by
   by_cases hu : u < 128
   · rw [gr_small _ _ hu]; simp [val]; omega
   · have h2 : u / 128 < 128 ^ (f + 1) := by
      rw [Nat.div_lt_iff_lt_mul (by omega)]
      rwa [← Nat.pow_succ]
     rw [gr_big _ _ hu]
     simp only [val]
     rw [val_gr f _ h2]
     omega
theorem pow10 : (128 : Nat) ^ (9 + 1) = 1180591620717411303424 := by decide
theorem lt10 {u : Nat} (h : u < 18446744073709551616) : u < 128 ^ (9 + 1) := by rw [pow10]; omega
theorem val_enc {u : Nat} (h : u < 18446744073709551616) : val (encU u) = u := val_gr 9 u (lt10 h)
theorem enc_shape {u : Nat} (h : u < 18446744073709551616) : ∃ p x, encU u = p ++ [x] ∧ AllHi p ∧ x < 128 ∧ p.length ≤ 9 ∧ (x = 0 → p = [] ∧ u = 0) := gr_shape 9 u (lt10 h)
theorem enc_all {u : Nat} (h : u < 18446744073709551616) : AllB (encU u) := by
 obtain ⟨p, x, e, hp, hx, _, _⟩ := enc_shape h
 rw [e]
 intro y hy
 rcases List.mem_append.1 hy with h | h
 · exact (hp y h).2
 · simp at h; omega
theorem enc_len {u : Nat} (h : u < 18446744073709551616) : 1 ≤ (encU u).length ∧ (encU u).length ≤ 10 := by
 obtain ⟨p, x, e, hp, hx, hl, _⟩ := enc_shape h
 rw [e, List.length_append]
 simp; omega
/-- The bytes up to and with the first one that no other follows, among the first f. -/
def scan : Nat → List Nat → Option (List Nat)
 | 0, _ => none
 | _ + 1, [] => none
 | f + 1, b :: r => if b < 128 then some [b] else (scan f r).map (b :: ·)
theorem scan_hi : ∀ (p : List Nat) (f : Nat) (r : List Nat), AllHi p → p.length ≤ f → scan f (p ++ r) = (scan (f - p.length) r).map (p ++ ·)
 | [], f, r, _, _ => by
   rw [List.nil_append]
   have : (fun l : List Nat => [] ++ l) = id := by funext l; rfl
   rw [this, Option.map_id]; rfl
 | b :: p, 0, r, _, h => by simp at h
 | b :: p, f + 1, r, hp, h => by
   have hb := hp b (by simp)
   have ih := scan_hi p f r (fun x hx => hp x (by simp [hx])) (by simpa using h)
   show (if b < 128 then some [b] else (scan f (p ++ r)).map (b :: ·)) = _
   rw [if_neg (by omega), ih, Option.map_map, List.length_cons, Nat.add_sub_add_right]
   rfl
theorem scan_end {p : List Nat} {x : Nat} {f : Nat} (hp : AllHi p) (hx : x < 128) (hf : p.length < f) (r : List Nat) : scan f (p ++ x :: r) = some (p ++ [x]) := by
 rw [scan_hi p f _ hp (by omega)]
 obtain ⟨k, hk⟩ : ∃ k, f - p.length = k + 1 := ⟨f - p.length - 1, by omega⟩
 rw [hk]
 simp [scan, hx]
theorem scan_all {p : List Nat} {f : Nat} (hp : AllHi p) (hf : p.length ≤ f) : scan f p = none := by
 have := scan_hi p f [] hp hf
 rw [List.append_nil] at this
 rw [this]
 cases f - p.length <;> rfl
theorem scan_full {p : List Nat} (hp : AllHi p) (r : List Nat) : scan p.length (p ++ r) = none := by
 rw [scan_hi p _ _ hp (Nat.le_refl _), Nat.sub_self]; rfl

/-- What a row of bytes begins with: the number, and how many bytes it takes; 0, 0 if none. -/
def getB (bs : List Nat) : Int × Nat := match scan 10 bs with
 | none => (0, 0)
 | some l => if encU (val l % two64) = l then (zag (val l % two64), l.length) else (0, 0)
theorem getB_none {bs : List Nat} (h : scan 10 bs = none) : getB bs = (0, 0) := by unfold getB; rw [h]
theorem getB_some {bs l : List Nat} (h : scan 10 bs = some l) : getB bs = if encU (val l % two64) = l then (zag (val l % two64), l.length) else (0, 0) := by unfold getB; rw [h]
theorem scan_enc {u : Nat} (h : u < 18446744073709551616) (r : List Nat) : scan 10 (encU u ++ r) = some (encU u) := by
 obtain ⟨p, x, e, hp, hx, hl, _⟩ := enc_shape h
 rw [e, List.append_assoc]
 exact scan_end hp hx (by omega) r
theorem getB_enc {u : Nat} (h : u < 18446744073709551616) (r : List Nat) : getB (encU u ++ r) = (zag u, (encU u).length) := by
 rw [getB_some (scan_enc h r), val_enc h]
 have e : u % two64 = u := Nat.mod_eq_of_lt h
 rw [e, if_pos rfl]
theorem getB_encN {n : Int} (h0 : -9223372036854775808 ≤ n) (h1 : n ≤ 9223372036854775807) (r : List Nat) : getB (encN n ++ r) = (n, (encN n).length) := by
 unfold encN
 rw [getB_enc (zig_lt h0 h1), zag_zig]
theorem getB_nil : getB [] = (0, 0) := rfl
theorem val_snoc : ∀ (p : List Nat) (x : Nat), val (p ++ [x]) = val p + 128 ^ p.length * (x % 128)
 | [], x => by simp [val]
 | b :: p, x => by
   rw [List.cons_append, val, val, val_snoc p x, List.length_cons, Nat.pow_succ, Nat.mul_add, Nat.mul_comm (128 ^ p.length) 128, Nat.mul_assoc]
   omega
theorem val_lt : ∀ p : List Nat, val p < 128 ^ p.length
 | [] => by simp [val]
 | b :: p => by
   have := val_lt p
   rw [val, List.length_cons, Nat.pow_succ]
   omega
theorem gr_val : ∀ (p : List Nat) (x f : Nat), AllHi p → x < 128 → (x = 0 → p = []) → p.length ≤ f → gr f (val (p ++ [x])) = p ++ [x]
 | [], x, f, _, hx, _, _ => by
   rw [List.nil_append]
   have : val [x] = x := by simp [val]; omega
   rw [this, gr_small _ _ hx]
 | b :: p, x, 0, _, _, _, h => by simp at h
 | b :: p, x, f + 1, hp, hx, hz, h => by
   have hb := hp b (by simp)
   have hx0 : x ≠ 0 := fun h0 => by have := hz h0; simp at this
   have ih := gr_val p x f (fun y hy => hp y (by simp [hy])) hx (fun h0 => absurd h0 hx0) (by simpa using h)
   have hpos : 1 ≤ val (p ++ [x]) := by
    rw [val_snoc]
    have h1 : 1 ≤ 128 ^ p.length := Nat.pow_pos (by omega)
    have h2 : 1 ≤ x % 128 := by omega
    have := Nat.mul_le_mul h1 h2
    omega
   rw [List.cons_append, val, gr_big _ _ (by omega)]
   have e1 : (b % 128 + 128 * val (p ++ [x])) % 128 + 128 = b := by omega
   have e2 : (b % 128 + 128 * val (p ++ [x])) / 128 = val (p ++ [x]) := by omega
   rw [e1, e2, ih]
theorem pow9 : (128 : Nat) ^ 9 = 9223372036854775808 := by decide
/-- A row up to its first low byte is what Put writes just if its last byte is no 0 behind others, and the tenth one is 0 or 1. -/
theorem canon {p : List Nat} {x : Nat} (hp : AllHi p) (hx : x < 128) (hl : p.length ≤ 9) :
 encU (val (p ++ [x]) % two64) = p ++ [x] ↔ (x = 0 → p = []) ∧ (p.length = 9 → x ≤ 1) := by
 have hv := val_lt p
 have hs := val_snoc p x
 have hxm : x % 128 = x := Nat.mod_eq_of_lt hx
 rw [hxm] at hs
 have hmod : val (p ++ [x]) % two64 < 18446744073709551616 := Nat.mod_lt _ (by decide)
 constructor
 · intro h
   constructor
   · intro h0
     obtain ⟨q, y, e, hq, hy, hlq, hz⟩ := enc_shape hmod
     rw [h] at e
     have e1 := List.append_inj' e rfl
     have : y = 0 := by have := e1.2; simp at this; omega
     rw [e1.1]
     exact (hz this).1
   · intro h9
     have h2 := val_enc hmod
     rw [h] at h2
     have h3 : val (p ++ [x]) < 18446744073709551616 := by rw [h2]; exact hmod
     rw [hs, h9, pow9] at h3
     omega
 · rintro ⟨h0, h9⟩
   have hlt : val (p ++ [x]) < 18446744073709551616 := by
    by_cases h : p.length = 9
    · have := h9 h
      rw [hs, h, pow9]
      rw [h, pow9] at hv
      omega
    · have h8 : p.length + 1 ≤ 9 := by omega
      have h1 := val_lt (p ++ [x])
      rw [List.length_append, List.length_singleton] at h1
      have h2 : (128 : Nat) ^ (p.length + 1) ≤ 128 ^ 9 := Nat.pow_le_pow_right (by omega) h8
      rw [pow9] at h2
      omega
   have e : val (p ++ [x]) % two64 = val (p ++ [x]) := Nat.mod_eq_of_lt hlt
   rw [e]
   exact gr_val p x 9 hp hx h0 hl

/-! texts -/
def textB (s : List Nat) : List Nat := encU (2 * s.length) ++ s
/-! eight bytes -/
def beB : Nat → Nat → List Nat
 | 0, _ => []
 | k + 1, u => (u / 256 ^ k % 256) :: beB k u
def low64 (n : Int) : Nat := (n % 18446744073709551616).toNat
def longB (n : Int) : List Nat := beB 8 (low64 n)
theorem length_beB : ∀ k u, (beB k u).length = k
 | 0, _ => rfl
 | k + 1, u => by simp [beB, length_beB k u]
theorem beB_all : ∀ k u, AllB (beB k u)
 | 0, _ => fun x h => by cases h
 | k + 1, u => by
   intro x hx
   rcases List.mem_cons.1 hx with h | h
   · rw [h]; exact Nat.mod_lt _ (by omega)
   · exact beB_all k u x h
theorem length_longB (n : Int) : (longB n).length = 8 := length_beB 8 _
theorem longB_all (n : Int) : AllB (longB n) := beB_all 8 _
theorem beB_take : ∀ i k u, i < k → (beB k u).take (i + 1) = (beB k u).take i ++ [u / 256 ^ (k - 1 - i) % 256]
 | i, 0, u, h => by omega
 | 0, k + 1, u, _ => by simp [beB]
 | i + 1, k + 1, u, h => by
   have ih := beB_take i k u (by omega)
   rw [beB, List.take_succ_cons, ih, List.take_succ_cons, List.cons_append]
   congr 3
   have : k + 1 - 1 - (i + 1) = k - 1 - i := by omega
   rw [this]
theorem scan_len : ∀ (f : Nat) (bs l : List Nat), scan f bs = some l → l.length ≤ f ∧ l.length ≤ bs.length
 | 0, bs, l, h => by cases h
 | f + 1, [], l, h => by cases h
 | f + 1, b :: r, l, h => by
   unfold scan at h
   split at h
   · cases h; simp
   · obtain ⟨t, ht, rfl⟩ := Option.map_eq_some_iff.1 h
     have := scan_len f r t ht
     simp; omega
theorem getB_bounds (bs : List Nat) : (getB bs).2 ≤ 10 ∧ (getB bs).2 ≤ bs.length ∧ -9223372036854775808 ≤ (getB bs).1 ∧ (getB bs).1 ≤ 9223372036854775807 := by
 rcases h : scan 10 bs with _ | l
 · rw [getB_none h]; simp
 · rw [getB_some h]
   have h2 := scan_len 10 bs l h
   split
   · have h3 := zag_in (u := val l % two64) (Nat.mod_lt _ (by decide))
     simp only
     omega
   · simp
end Go.VarMath
namespace Go.Proofs.YtgohekjkbgfeeaaGreat
open Go.RowKit
open Go.VarMath hiding AllB
set_option linter.unusedVariables false

theorem wrap_u64' (n : Int) : IntKind.u64.wrap n = n % 18446744073709551616 := by simp [IntKind.wrap, IntKind.bits, IntKind.signed]
theorem u64_keep (a : Nat) (ha : a < 18446744073709551616) : bits .xor .u64 (a : Int) 0 = (a : Int) := by
 have := u64_xor_nat a 0 ha (by decide)
 rw [Nat.xor_zero] at this
 exact this
theorem u64_flip (a : Nat) (ha : a < 18446744073709551616) : bits .xor .u64 (a : Int) 18446744073709551615 = 18446744073709551615 - (a : Int) := by
 show IntKind.u64.wrap ((BitVec.ofInt 64 (a : Int) ^^^ BitVec.ofInt 64 18446744073709551615).toNat : Int) = _
 have h1 : BitVec.ofInt 64 18446744073709551615 = BitVec.allOnes 64 := by decide
 rw [h1, BitVec.xor_allOnes, BitVec.toNat_not, ofInt_u64 a ha, wrap_u64']
 omega
theorem i64_flip (a : Nat) (ha : a < 9223372036854775808) : bits .xor .i64 (a : Int) (-1) = -1 - (a : Int) := by
 show IntKind.i64.wrap ((BitVec.ofInt 64 (a : Int) ^^^ BitVec.ofInt 64 (-1)).toNat : Int) = _
 have h1 : BitVec.ofInt 64 (-1) = BitVec.allOnes 64 := by decide
 rw [h1, BitVec.xor_allOnes, BitVec.toNat_not, ofInt_u64 a (by omega)]
 simp [IntKind.wrap, IntKind.bits, IntKind.signed]
 omega
theorem i64_keep (a : Nat) (ha : a < 9223372036854775808) : bits .xor .i64 (a : Int) 0 = (a : Int) := by
 show IntKind.i64.wrap ((BitVec.ofInt 64 (a : Int) ^^^ BitVec.ofInt 64 0).toNat : Int) = _
 have h1 : BitVec.ofInt 64 0 = 0#64 := by decide
 rw [h1, BitVec.xor_zero, ofInt_u64 a (by omega)]
 simp [IntKind.wrap, IntKind.bits, IntKind.signed]
 omega
theorem and_one (u : Nat) (hu : u < 18446744073709551616) : bits .and .u64 (u : Int) 1 = ((u % 2 : Nat) : Int) := by
 have := u64_and_nat u 1 hu (by decide)
 rw [nat_mask1] at this
 exact this
theorem ret_u64 {a b : Int} (h : a = b) : Ending.returned (.int .u64 a) = .returned (.int .u64 b) := by rw [h]
theorem ret_i64 {a b : Int} (h : a = b) : Ending.returned (.int .i64 a) = .returned (.int .i64 b) := by rw [h]
theorem zig_pos (n : Int) (h0 : 0 ≤ n) (h1 : n ≤ 9223372036854775807) : bits .xor .u64 (n * 2) (n / 9223372036854775808) = ((zig n : Nat) : Int) := by
 have h2 := zig_nonneg h0
 have h3 : n / 9223372036854775808 = 0 := by omega
 have h4 : n * 2 = ((zig n : Nat) : Int) := by omega
 have h5 := zig_lt (n := n) (by omega) h1
 rw [h3, h4, u64_keep _ h5]
theorem zig_minus (n : Int) (h0 : n < 0) (h1 : -9223372036854775808 ≤ n) (a b : Int) (ha : a = n * 2 % 18446744073709551616) (hb : b = 18446744073709551615) : bits .xor .u64 a b = ((zig n : Nat) : Int) := by
 have h2 := zig_neg h0
 have h3 : a = (((18446744073709551615 - zig n : Nat)) : Int) := by omega
 have h5 := zig_lt (n := n) h1 (by omega)
 rw [h3, hb, u64_flip _ (by omega)]
 omega
theorem row_byte (W : World) (n : Nat) (hn : n < 256) : Row (W.alloc (.cells #[.int .u8 (n : Int)] 5)) (some ⟨W.heap.size, 0, none⟩) 1 1 [n] :=
 ⟨(own_new W [n]).byt (fun x hx => by simp at hx; omega) 1 (by simp), fun h => by cases h⟩
theorem wrap_u8' (n : Int) : IntKind.u8.wrap n = n % 256 := by simp [IntKind.wrap, IntKind.bits, IntKind.signed]
end Go.Proofs.YtgohekjkbgfeeaaGreat
namespace Go.Proofs.YtgohekjkbgfeeaaGreat
open Go.RowKit
open Go.VarMath hiding AllB
set_option linter.unusedVariables false

set_option maxHeartbeats 400000 in
theorem unsigned_any (n : Int) (w : World) (h0 : -9223372036854775808 ≤ n) (h1 : n ≤ 9223372036854775807) :
 Calls Tryz.prog 108 #[.int .i64 n] w fun e w' => e = .returned (.int .u64 (zig n : Nat)) ∧ w = w' := by
 by_cases hn : 0 ≤ n
 · go_enter Tryz.func108, Tryz.ntmps108
   go_wp2
   go_ret
   exact ⟨ret_u64 (zig_pos n hn h1), rfl⟩
 · have hn' : n < 0 := by omega
   go_enter Tryz.func108, Tryz.ntmps108
   go_wp2
   go_ret
   exact ⟨ret_u64 (zig_minus n hn' h0 _ _ (by rw [wrap_u64', wrap_u64']; omega) (by rw [wrap_u64']; omega)), rfl⟩
theorem zag_bits (u : Nat) (hu : u < 18446744073709551616) (a : Int) (ha : a = -((u % 2 : Nat) : Int)) : bits .xor .i64 ((u : Int) / 2) a = zag u := by
 have h2 : (u : Int) / 2 = ((u / 2 : Nat) : Int) := by omega
 rw [h2]
 unfold zag
 by_cases h : u % 2 = 0
 · have h3 : a = 0 := by omega
   rw [if_pos h, h3, i64_keep _ (by omega)]
 · have h3 : a = -1 := by omega
   rw [if_neg h, h3, i64_flip _ (by omega)]
   omega
theorem zag_arg (u : Nat) (hu : u < 18446744073709551616) : wrap64 (-wrap64 (bits .and .u64 (u : Int) 1)) = -((u % 2 : Nat) : Int) := by
 rw [and_one u hu]
 have h1 : wrap64 ((u % 2 : Nat) : Int) = ((u % 2 : Nat) : Int) := by unfold wrap64; omega
 rw [h1]; unfold wrap64; omega
theorem signed_any (u : Nat) (w : World) (hu : u < 18446744073709551616) :
 Calls Tryz.prog 105 #[.int .u64 u] w fun e w' => e = .returned (.int .i64 (zag u)) ∧ w = w' := by
 go_enter Tryz.func105, Tryz.ntmps105
 go_wp2
 go_ret
 exact ⟨ret_i64 (zag_bits u hu _ (zag_arg u hu)), rfl⟩
end Go.Proofs.YtgohekjkbgfeeaaGreat
namespace Go.Proofs.YtgohekjkbgfeeaaGreat
open Go.RowKit
open Go.VarMath hiding AllB
set_option linter.unusedVariables false

/-- The call gives a slice at the head of a new block of its own, which is the bytes bs. -/
def GivesRow (w : World) (bs : List Nat) (e : Ending) (w' : World) : Prop := ∃ g cap, e = .returned (.slice (some ⟨g, 0, none⟩) bs.length cap) ∧ w'.ownsRow w.heap.size 5 1 (.slice (some ⟨g, 0, none⟩) bs.length cap) bs.length (vals bs) ∧ Below w.heap.size w w'
theorem gives_row {w w' : World} {bs : List Nat} {g cap n : Nat} (hn : bs.length = n) (h : w'.ownsRow w.heap.size 5 1 (.slice (some ⟨g, 0, none⟩) n cap) n (vals bs)) (hb : Below w.heap.size w w') : GivesRow w bs (.returned (.slice (some ⟨g, 0, none⟩) n cap)) w' := by
 subst hn; exact ⟨g, cap, rfl, h, hb⟩
set_option maxRecDepth 100000 in
theorem run_make_part (W : World) (l c : Nat) (h : l ≤ c) (hc : c ≤ 281474976710656) :
 (Instr.makeSlice 31 (.int .i64 (l : Int)) (.int .i64 (c : Int))).run Tryz.prog W = .ok (.slice (some ⟨W.heap.size, 0, none⟩) l c) (W.alloc (.cells (vals (List.replicate c 0)).toArray 5)) := by
 obtain ⟨i0, hi, hz0, hz1, hz2⟩ := info_parts info5
 have hr := run_make (P := Tryz.prog) W 31 5 i0 (.int .u8 0) Tryz.underlying31 hi hz0 .i64 .i64 l c (by omega) (by omega) (by rw [hz2]; omega) (by omega)
 simp only [Int.toNat_natCast] at hr
 rw [hr]
 congr 3
 have h2 : (madeCells (Value.int .u8 0).cells c).toList = vals (List.replicate c 0) := by
  have := toList_madeCells_one (.int .u8 0) c
  rw [show (Value.int .u8 0).cells = #[.int .u8 0] from rfl, this]
  simp [vals, byte]
 rw [hz1, Nat.mul_one]
 apply Array.toList_inj.1
 rw [h2]
theorem splice_front (n m : Nat) (bs : List Nat) (h : bs.length = n) : splice (vals (List.replicate (n + m) 0)) 0 (vals bs) = vals (bs ++ List.replicate m 0) := by
 subst h
 rw [splice, List.take_zero, List.nil_append, Nat.zero_add, length_vals, vals_append]
 congr 1
 simp [vals]
theorem owns_front {w w' : World} {g n m : Nat} {bs : List Nat} (hn : bs.length = n) (h : Own w' g (bs ++ List.replicate m 0)) (hg : w.heap.size ≤ g) (hm : n + m ≤ maxLen) :
 w'.ownsRow w.heap.size 5 1 (.slice (some ⟨g, 0, none⟩) n (n + m)) n (vals bs) := by
 subst hn
 refine ⟨by rw [length_vals]; omega, .inr ⟨g, _, _, rfl, hg, h, by omega, hm, by simp [vals], ?_⟩⟩
 rw [Nat.mul_one, vals_append, List.take_append_of_le_length (by rw [length_vals]; omega), List.take_of_length_le (by rw [length_vals]; omega)]
set_option maxHeartbeats 400000 in
theorem roomy_any (w : World) (ad : Option Addr) (len cap n : Nat) (bs : List Nat) (h : Row w ad len cap bs) (hL : len ≤ 140737488355328) (hn : n ≤ 16) :
 Calls Tryz.prog 107 #[.slice ad len cap, .int .i64 n] w (GivesRow w bs) := by
 have HB := Lib.hid h
 clear h
 have hmk := fun W => run_make_part W len (len + n) (by omega) (by omega)
 have hcast : ((len + n : Nat) : Int) = (len : Int) + (n : Int) := by omega
 rw [hcast] at hmk
 clear hcast
 have hO := own_new w (List.replicate (len + n) 0)
 have hZ : Below w.heap.size w (w.alloc (.cells (vals (List.replicate (len + n) 0)).toArray 5)) := (Below.refl _ _).alloc (Nat.le_refl _) _
 have HO := Lib.hid hO
 have HZ := Lib.hid hZ
 have HR := Lib.hid (HB.out.keep hZ (Nat.le_refl _))
 clear hO hZ
 go_enter Tryz.func107, Tryz.ntmps107
 go_wp2_with (with_reducible refine wpList_copy_splice rfl (.tmp 13) (.tmp 14) 31 31 rfl 5 Tryz.underlying31 size5 _ _ _ _ _ _ rfl rfl w.heap.size 0 (vals (List.replicate (len + n) 0)) 5 ?_ (vals bs) ?_ ?_ ?_ (vals_one bs) w.heap.size w ?_ (Nat.le_refl _) ?_)
 · exact HO.out
 · rw [length_vals, HB.out.len]; simp
 · intro hp
   rw [length_vals, HB.out.len] at hp
   exact HR.out.1.source hp
 · rw [length_vals, length_vals, HB.out.len]; simp
 · exact HZ.out
 · intro w2 HG2 hB2
   have R : Hid (Own w2 w.heap.size (bs ++ List.replicate n 0)) := by
    have h1 := HG2.out
    rw [splice_front _ _ _ HB.out.len] at h1
    exact h1
   clear HG2
   go_wp2
   go_ret
   exact gives_row HB.out.len (owns_front HB.out.len R.out (Nat.le_refl _) (by unfold maxLen; omega)) hB2
end Go.Proofs.YtgohekjkbgfeeaaGreat
namespace Go.Proofs.YtgohekjkbgfeeaaGreat
open Go.RowKit
open Go.VarMath hiding AllB
set_option linter.unusedVariables false

theorem low7 (v : Nat) (h : v < 18446744073709551616) : bits .and .u64 (v : Int) 127 = ((v % 128 : Nat) : Int) := by
 have := u64_and_nat v 127 h (by decide)
 rw [nat_mask7] at this
 exact this
theorem nat_or128 : ∀ x : Fin 256, x.val ||| 128 = x.val % 128 + 128 := by decide +kernel
theorem hi7 (x : Nat) (h : x < 256) : bits .or .u8 (x : Int) 128 = ((x % 128 + 128 : Nat) : Int) := by
 have := u8_or_nat x 128 h (by decide)
 rw [nat_or128 ⟨x, h⟩] at this
 exact this
/-- What stands before a round of Put's loop: of u's groups those of f more are still to come, the bytes ahead of them stand behind bs. -/
def PutAt (w : World) (bs : List Nat) (u : Nat) (v5 v6 : Value) (wr : World) : Prop :=
 ∃ (f v g cap n : Nat) (pre : List Nat), encU u = pre ++ gr f v ∧ pre.length + f = 9 ∧ v < 2 * 128 ^ f ∧ v < 18446744073709551616 ∧ AllB pre ∧ n = bs.length + pre.length ∧
   v6 = .int .u64 v ∧ v5 = .slice (some ⟨g, 0, none⟩) n cap ∧ wr.ownsRow w.heap.size 5 1 (.slice (some ⟨g, 0, none⟩) n cap) n (vals (bs ++ pre)) ∧ Below w.heap.size w wr
theorem putAt_step {w w' : World} {bs pre : List Nat} {u f v g cap n : Nat} (hu : encU u = pre ++ gr f v) (hf : pre.length + f = 9) (h2 : v < 2 * 128 ^ f) (h6 : v < 18446744073709551616) (ha : AllB pre) (hn : n = bs.length + pre.length) (hv : 127 < v)
 (hown : w'.ownsRow w.heap.size 5 1 (.slice (some ⟨g, 0, none⟩) (n + 1) cap) (n + 1) (vals (bs ++ (pre ++ [v % 128 + 128])))) (hb : Below w.heap.size w w') :
 PutAt w bs u (.slice (some ⟨g, 0, none⟩) (n + 1) cap) (.int .u64 ((v / 128 : Nat) : Int)) w' := by
 cases f with
 | zero => simp at h2; omega
 | succ f =>
   refine ⟨f, v / 128, g, cap, n + 1, pre ++ [v % 128 + 128], ?_, by simp; omega, ?_, by omega, ?_, by simp; omega, rfl, rfl, hown, hb⟩
   · rw [hu, gr_big _ _ (by omega), List.append_assoc]; rfl
   · rw [Nat.pow_succ] at h2; omega
   · exact all_append ha (fun x hx => by simp at hx; omega)
theorem putAt_start {w wr : World} {bs : List Nat} {u g cap n : Nat} (hu : u < 18446744073709551616) (hn : bs.length = n) (hown : wr.ownsRow w.heap.size 5 1 (.slice (some ⟨g, 0, none⟩) n cap) n (vals bs)) (hb : Below w.heap.size w wr) :
 PutAt w bs u (.slice (some ⟨g, 0, none⟩) n cap) (.int .u64 (u : Int)) wr :=
 ⟨9, u, g, cap, n, [], rfl, rfl, by rw [pow9]; omega, hu, (fun x hx => by cases hx), by simp [hn], rfl, rfl, by rw [List.append_nil]; exact hown, hb⟩
theorem put_end {pre bs : List Nat} {u f v : Nat} (hu : encU u = pre ++ gr f v) (hv : ¬ 127 < v) : bs ++ (pre ++ [v]) = bs ++ encU u := by
 rw [hu, gr_small _ _ (by omega)]
set_option maxHeartbeats 400000 in
theorem put_any (w : World) (ad : Option Addr) (len cap : Nat) (bs : List Nat) (n : Int) (h : Row w ad len cap bs) (hL : len ≤ 140737488355300) (h0 : -9223372036854775808 ≤ n) (h1 : n ≤ 9223372036854775807) :
 Calls Tryz.prog 76 #[.slice ad len cap, .int .i64 n] w (GivesRow w (bs ++ encN n)) := by
 have HB := Lib.hid h
 have hu := zig_lt h0 h1
 clear h
 go_enter Tryz.func76, Tryz.ntmps76
 go_wp2_with fail
 refine (roomy_any w ad len cap 10 bs HB.out (by omega) (by omega)).mono ?_
 rintro e w1 ⟨g, cp, rfl, hown, hb1⟩
 rw [HB.out.len] at hown ⊢
 have HO := Lib.hid hown
 have HB1 := Lib.hid hb1
 clear hown hb1
 go_wp2_with fail
 refine (unsigned_any n w1 h0 h1).mono ?_
 rintro e w' ⟨rfl, rfl⟩
 obtain ⟨u, hue⟩ : ∃ u, u = zig n := ⟨_, rfl⟩
 rw [← hue] at hu ⊢
 have HU := Lib.hid hue
 clear hue
 go_wp2
 go_loopw [5, 6] (fun v5 v6 wr => PutAt w bs u v5 v6 wr) (fun _ v6 _ => (intOf v6).toNat)
 case atStart => exact putAt_start hu HB.out.len HO.out HB1.out
 case round =>
  obtain ⟨f, v, g, cap', k, pre, hu', hf, h2, h6, ha, hn, rfl, rfl, hown, hbel⟩ := hrel
  have HU' := Lib.hid hu'
  have HF := Lib.hid hf
  have HN := Lib.hid hn
  have HO' := Lib.hid hown
  have HW := Lib.hid hbel
  have HA := Lib.hid ha
  have H2 := Lib.hid h2
  have hk : k ≤ 140737488355320 := by have := HB.out.len; omega
  clear hu' hf hn hown hbel ha h2
  have hand := low7 v h6
  obtain ⟨y, hy⟩ : ∃ y, y = v % 128 := ⟨_, rfl⟩
  rw [← hy] at hand
  have hy8 : y < 128 := by omega
  have hor := hi7 y (by omega)
  have hy2 : y % 128 + 128 = v % 128 + 128 := by omega
  rw [hy2] at hor
  have HY := Lib.hid hy
  clear hy hy2
  obtain ⟨z, hz⟩ : ∃ z, z = v % 128 + 128 := ⟨_, rfl⟩
  rw [← hz] at hor
  have hz8 : z < 256 := by omega
  have HZ := Lib.hid hz
  clear hz
  by_cases hv : 127 < v
  · have HW2 : Hid (Below w.heap.size w (wr.alloc (.cells #[.int .u8 (z : Int)] 5))) := HW.out.alloc HW.out.size _
    go_wp2_with (at_builtin; refine append_row rfl (.tmp 13) (.tmp 18) rfl w.heap.size k (bs ++ pre) [z] _ rfl (HO'.out.alloc _) (some_ne _ _ _) HW2.out.size _ _ _ rfl (row_byte wr z hz8) (by omega) w HW2.out ?_)
    intro g3 cp3 w3 ho3 hb3
    have HO3 := Lib.hid ho3
    have HB3 := Lib.hid hb3
    clear ho3 hb3
    go_wp2
    go_roundw
    case rel =>
     have h3 := HO3.out
     rw [HZ.out] at h3
     exact putAt_step HU'.out HF.out H2.out h6 HA.out HN.out hv h3 HB3.out
    case measure => simp [intOf]; omega
  · have HW2 : Hid (Below w.heap.size w (wr.alloc (.cells #[.int .u8 (v : Int)] 5))) := HW.out.alloc HW.out.size _
    have hv8 : v < 256 := by omega
    go_wp2_with (at_builtin; refine append_row rfl (.tmp 22) (.tmp 25) rfl w.heap.size k (bs ++ pre) [v] _ rfl (HO'.out.alloc _) (some_ne _ _ _) HW2.out.size _ _ _ rfl (row_byte wr v hv8) (by omega) w HW2.out ?_)
    intro g3 cp3 w3 ho3 hb3
    have HO3 := Lib.hid ho3
    have HB3 := Lib.hid hb3
    clear ho3 hb3
    go_wp2
    go_ret
    have h3 := HO3.out
    rw [put_end HU'.out hv, HU.out] at h3
    refine gives_row ?_ h3 HB3.out
    have := h3.1
    rw [length_vals] at this
    unfold encN; omega
theorem text_len (s : ByteArray) : ((s.size : Nat) : Int) = ((s.data.toList.map UInt8.toNat).length : Int) := by simp
def bytesS (s : ByteArray) : List Nat := s.data.toList.map UInt8.toNat
theorem length_bytesS (s : ByteArray) : (bytesS s).length = s.size := by simp [bytesS]
theorem strCells_vals (s : ByteArray) : Lib.strCells s = vals (bytesS s) := by simp [Lib.strCells, vals, bytesS, byte]
set_option maxHeartbeats 400000 in
theorem text_any (w : World) (ad : Option Addr) (len cap : Nat) (bs : List Nat) (s : ByteArray) (h : Row w ad len cap bs) (hL : len + s.size ≤ 140737488355300) :
 Calls Tryz.prog 143 #[.slice ad len cap, .string s] w (GivesRow w (bs ++ textB (bytesS s))) := by
 obtain ⟨i0, hi, hz0, hz1, hz2⟩ := info_parts info5
 have HB := Lib.hid h
 clear h
 go_enter Tryz.func143, Tryz.ntmps143
 go_wp2_with fail
 refine (put_any w ad len cap bs s.size HB.out (by omega) (by omega) (by omega)).mono ?_
 rintro e w1 ⟨g, cp, rfl, hown, hb1⟩
 have hel := enc_len (zig_lt (n := (s.size : Int)) (by omega) (by omega))
 have hl : (bs ++ encN (s.size : Int)).length ≤ len + 10 := by rw [List.length_append, HB.out.len]; unfold encN; omega
 obtain ⟨k, hk⟩ : ∃ k, k = (bs ++ encN (s.size : Int)).length := ⟨_, rfl⟩
 rw [← hk] at hown hl ⊢
 have HK := Lib.hid hk
 have HO := Lib.hid hown
 have HB1 := Lib.hid hb1
 clear hown hb1 hk hel
 go_wp2_with (at_builtin; refine Lib.wpList_append_own_string _ rfl (.tmp 8) (.tmp 9) 31 9 rfl w.heap.size 5 i0 Tryz.underlying31 Tryz.underlying9 hi hz0 hz1 hz2 _ k _ rfl HO.out s rfl (by unfold maxLen; omega) (by omega) HB1.out.size ?_)
 intro v2 w2 ho2 hgrow2 hn2
 have HB2 : Hid (Below w.heap.size w w2) := HB1.out.grown hgrow2 HB1.out.size (fun j hj => (HO.out.lt j hj).1)
 have hne : v2 ≠ .slice none 0 0 := hn2
 have HO2 : Hid (w2.ownsRow w.heap.size 5 1 v2 (k + s.size) (vals (bs ++ textB (bytesS s)))) := by
  have e : bs ++ textB (bytesS s) = (bs ++ encN (s.size : Int)) ++ bytesS s := by
   unfold textB encN
   rw [length_bytesS, zig_nat, List.append_assoc]
  rw [e, vals_append, ← strCells_vals]
  exact ho2
 clear ho2 hgrow2 hn2
 obtain ⟨g2, cp2, rfl⟩ : ∃ g cp, v2 = .slice (some ⟨g, 0, none⟩) (k + s.size) cp := by
  rcases HO2.out.2 with ⟨h, _⟩ | ⟨g, cp, cur, h, _⟩
  · exact absurd h hne
  · exact ⟨g, cp, h⟩
 clear hne
 go_wp2
 go_ret
 refine gives_row ?_ HO2.out HB2.out
 have := HO2.out.1
 rw [length_vals] at this
 omega
end Go.Proofs.YtgohekjkbgfeeaaGreat
namespace Go.Proofs.YtgohekjkbgfeeaaGreat
open Go.RowKit
open Go.VarMath hiding AllB
set_option linter.unusedVariables false

theorem take_getD {bs : List Nat} {k : Nat} (h : k < bs.length) : bs.take (k + 1) = bs.take k ++ [bs.getD k 0] := by
 rw [List.take_succ_eq_append_getElem h, List.getD_eq_getElem?_getD, List.getElem?_eq_getElem h]; rfl
theorem split_at {bs : List Nat} {k : Nat} (h : k < bs.length) : bs = bs.take k ++ bs.getD k 0 :: bs.drop (k + 1) := by
 conv => lhs; rw [← List.take_append_drop k bs]
 rw [List.drop_eq_getElem_cons h, List.getD_eq_getElem?_getD, List.getElem?_eq_getElem h]; rfl
theorem pow128 (k : Nat) : (2 : Nat) ^ (7 * k) = 128 ^ k := by rw [Nat.pow_mul]
theorem shl_step (y k : Nat) : IntKind.u64.wrap ((y : Int) * 2 ^ (7 * k)) = ((y * 128 ^ k % 18446744073709551616 : Nat) : Int) := by
 rw [wrap_u64', ← pow128]; simp
theorem or_step (u y k : Nat) (hk : k ≤ 9) (hu : u < 128 ^ k) (hy : y < 128) : bits .or .u64 (u : Int) ((y * 128 ^ k % 18446744073709551616 : Nat) : Int) = (((u + 128 ^ k * y) % 18446744073709551616 : Nat) : Int) := by
 have hb : u < 18446744073709551616 := by
  have : (128 : Nat) ^ k ≤ 128 ^ 9 := Nat.pow_le_pow_right (by omega) hk
  rw [pow9] at this; omega
 rw [u64_or_nat u _ hb (by omega), Nat.or_comm]
 have h1 : y * 128 ^ k % 18446744073709551616 % 2 ^ (7 * k) = 0 := by
  rcases k with _ | _ | _ | _ | _ | _ | _ | _ | _ | _ | k
  all_goals first | (exfalso; omega) | (simp only [Nat.reduceMul, Nat.reduceAdd, Nat.reducePow]; omega)
 rw [nat_join (7 * k) _ u h1 (by rw [pow128]; exact hu)]
 congr 1
 rcases k with _ | _ | _ | _ | _ | _ | _ | _ | _ | _ | k
 all_goals first | (exfalso; omega) | (simp only [Nat.reduceAdd, Nat.reducePow] at hu ⊢; omega)
theorem val_take {bs : List Nat} {k : Nat} (h : k < bs.length) : val (bs.take (k + 1)) = val (bs.take k) + 128 ^ k * (bs.getD k 0 % 128) := by
 rw [take_getD h, val_snoc, List.length_take, Nat.min_eq_left (by omega)]
theorem val_take_lt {bs : List Nat} {k : Nat} (h : k ≤ bs.length) : val (bs.take k) < 128 ^ k := by
 have := val_lt (bs.take k)
 rwa [List.length_take, Nat.min_eq_left h] at this
theorem val_take_mod {bs : List Nat} {k : Nat} (h : k ≤ bs.length) (hk : k ≤ 9) : val (bs.take k) % two64 = val (bs.take k) := by
 have h1 := val_take_lt h
 have h2 : (128 : Nat) ^ k ≤ 128 ^ 9 := Nat.pow_le_pow_right (by omega) hk
 rw [pow9] at h2
 exact Nat.mod_eq_of_lt (by rw [two64_val]; omega)
theorem and127 (x : Nat) (h : x < 256) : bits .and .u8 (x : Int) 127 = ((x % 128 : Nat) : Int) := by
 have := u8_and_nat x 127 h (by decide)
 rw [nat_mask7] at this
 exact this
theorem and128_hi (x : Nat) (h : x < 256) (h2 : 128 ≤ x) : bits .and .u8 (x : Int) 128 = 128 := by
 have := u8_and_nat x 128 h (by decide)
 rw [show (128 : Nat) = 2 ^ 7 from rfl, nat_bit] at this
 have e : x / 2 ^ 7 % 2 * 2 ^ 7 = 128 := by omega
 rw [e] at this
 exact this
theorem and128_lo (x : Nat) (h2 : x < 128) : bits .and .u8 (x : Int) 128 = 0 := by
 have := u8_and_nat x 128 (by omega) (by decide)
 rw [show (128 : Nat) = 2 ^ 7 from rfl, nat_bit] at this
 have e : x / 2 ^ 7 % 2 * 2 ^ 7 = 0 := by omega
 rw [e] at this
 exact this
/-- What both give. -/
def GivesGet (bs : List Nat) (w : World) (e : Ending) (w' : World) : Prop := e = .returned (.tuple #[.int .i64 (getB bs).1, .int .i64 ((getB bs).2 : Nat)]) ∧ w = w'
theorem len_take {bs : List Nat} {k : Nat} (h : k ≤ bs.length) : (bs.take k).length = k := by rw [List.length_take, Nat.min_eq_left h]
theorem hi_end {bs : List Nat} {k : Nat} (hp : AllHi (bs.take k)) (hk : bs.length ≤ k) (h10 : bs.length ≤ 10) : getB bs = (0, 0) := by
 rw [List.take_of_length_le hk] at hp
 exact getB_none (scan_all hp h10)
theorem hi_full {bs : List Nat} (hp : AllHi (bs.take 10)) (hk : 10 ≤ bs.length) : getB bs = (0, 0) := by
 apply getB_none
 have h := scan_full hp (bs.drop 10)
 rw [len_take hk, List.take_append_drop] at h
 exact h
theorem hi_scan {bs : List Nat} {k : Nat} (hp : AllHi (bs.take k)) (hk : k < bs.length) (h9 : k ≤ 9) (hx : bs.getD k 0 < 128) : scan 10 bs = some (bs.take (k + 1)) := by
 have h := scan_end hp hx (f := 10) (by rw [len_take (by omega)]; omega) (bs.drop (k + 1))
 rw [← split_at hk, ← take_getD hk] at h
 exact h
/-- The document's own way: what is read is what Put writes of it, or it is none. -/
theorem hi_get {bs : List Nat} {k : Nat} (hp : AllHi (bs.take k)) (hk : k < bs.length) (h9 : k ≤ 9) (hx : bs.getD k 0 < 128) :
 getB bs = if encU (val (bs.take (k + 1)) % two64) = bs.take (k + 1) then (zag (val (bs.take (k + 1)) % two64), k + 1) else (0, 0) := by
 rw [getB_some (hi_scan hp hk h9 hx), len_take (by omega)]
theorem hi_canon {bs : List Nat} {k : Nat} (hp : AllHi (bs.take k)) (hk : k < bs.length) (h9 : k ≤ 9) (hx : bs.getD k 0 < 128) :
 encU (val (bs.take (k + 1)) % two64) = bs.take (k + 1) ↔ (bs.getD k 0 = 0 → k = 0) ∧ (k = 9 → bs.getD k 0 ≤ 1) := by
 have h := canon hp hx (by rw [len_take (by omega)]; exact h9)
 rw [← take_getD hk, len_take (by omega)] at h
 rw [h]
 have e : bs.take k = [] ↔ k = 0 := by
  constructor
  · intro h0
    have := len_take (bs := bs) (k := k) (by omega)
    rw [h0] at this
    simpa using this.symm
  · intro h0; subst h0; rfl
 rw [e]
theorem hi_yes {bs : List Nat} {k : Nat} (hp : AllHi (bs.take k)) (hk : k < bs.length) (h9 : k ≤ 9) (hx : bs.getD k 0 < 128) (h0 : bs.getD k 0 = 0 → k = 0) (h1 : k = 9 → bs.getD k 0 ≤ 1) :
 getB bs = (zag (val (bs.take (k + 1)) % two64), k + 1) := by
 rw [hi_get hp hk h9 hx, if_pos ((hi_canon hp hk h9 hx).2 ⟨h0, h1⟩)]
theorem hi_no {bs : List Nat} {k : Nat} (hp : AllHi (bs.take k)) (hk : k < bs.length) (h9 : k ≤ 9) (hx : bs.getD k 0 < 128) (h : ¬ ((bs.getD k 0 = 0 → k = 0) ∧ (k = 9 → bs.getD k 0 ≤ 1))) :
 getB bs = (0, 0) := by
 rw [hi_get hp hk h9 hx, if_neg (fun e => h ((hi_canon hp hk h9 hx).1 e))]
/-- The tenth byte is greater than 1: there is none. -/
theorem hi_tenth {bs : List Nat} (ha : AllB bs) (hp : AllHi (bs.take 9)) (hk : 9 < bs.length) (hx : 1 < bs.getD 9 0) : getB bs = (0, 0) := by
 by_cases h : bs.getD 9 0 < 128
 · exact hi_no hp hk (by omega) h (fun h2 => by have := h2.2 rfl; omega)
 · refine hi_full ?_ (by omega)
   rw [take_getD hk]
   exact hp.snoc ⟨by omega, getD_all ha 9⟩
theorem hi_step {bs : List Nat} {k : Nat} (ha : AllB bs) (hp : AllHi (bs.take k)) (hk : k < bs.length) (hx : ¬ bs.getD k 0 < 128) : AllHi (bs.take (k + 1)) := by
 rw [take_getD hk]
 exact hp.snoc ⟨by omega, getD_all ha k⟩
theorem gives_get_no {bs : List Nat} {w : World} (h : getB bs = (0, 0)) : GivesGet bs w (.returned (.tuple #[.int .i64 0, .int .i64 0])) w := by
 unfold GivesGet; rw [h]; exact ⟨rfl, rfl⟩
theorem gives_get {bs : List Nat} {w : World} {x : Int} {k : Nat} (h : getB bs = (x, k)) {a b : Int} (ha : a = x) (hb : b = (k : Int)) : GivesGet bs w (.returned (.tuple #[.int .i64 a, .int .i64 b])) w := by
 unfold GivesGet; rw [h, ha, hb]; exact ⟨rfl, rfl⟩
end Go.Proofs.YtgohekjkbgfeeaaGreat
namespace Go.Proofs.YtgohekjkbgfeeaaGreat
open Go.RowKit
open Go.VarMath hiding AllB
set_option linter.unusedVariables false

theorem shl_step9 (y : Nat) : IntKind.u64.wrap ((y : Int) * 9223372036854775808) = ((y * 128 ^ 9 % 18446744073709551616 : Nat) : Int) := by
 rw [wrap_u64', pow9]; omega
set_option maxHeartbeats 1000000 in
theorem get_any (w : World) (ad : Option Addr) (len cap : Nat) (bs : List Nat) (h : Byt w ad len cap bs) (hL : len ≤ 140737488355328) :
 Calls Tryz.prog 73 #[.slice ad len cap] w (GivesGet bs w) := by
 obtain ⟨hlen, hfit, hall, hcs⟩ := h
 rcases hcs with h0 | ⟨b, off, rfl, hcell⟩
 · subst h0
   obtain rfl : bs = [] := by simpa using hlen
   clear hlen hfit hall
   go_enter Tryz.func73, Tryz.ntmps73
   go_wp2
   refine wp_loop_rounds 1 ?_
   rw [rounds_succ]
   go_wp2
   go_ret2
   exact gives_get_no getB_nil
 · have HC := Lib.hid hcell
   have HA := Lib.hid hall
   have HL := Lib.hid hlen
   clear hlen hcell hall
   go_enter Tryz.func73, Tryz.ntmps73
   go_wp2
   go_loop [4, 9] (fun v4 v9 => ∃ k : Nat, k ≤ len ∧ k ≤ 9 ∧ AllHi (bs.take k) ∧ v9 = .int .i64 k ∧ v4 = .int .u64 (val (bs.take k) % two64 : Nat)) (fun _ i => len - (intOf i).toNat)
   case atStart => exact ⟨0, by omega, by omega, AllHi.nil, rfl, rfl⟩
   case round =>
    obtain ⟨k, hk, hk9, hhi, rfl, rfl⟩ := hrel
    have HH := Lib.hid hhi
    clear hhi
    by_cases hlt : k < len
    · have hltb : k < bs.length := by rw [HL.out]; exact hlt
      have hc := HC.out k hlt
      have hx8 := getD_all HA.out k
      have hm := val_take_mod (bs := bs) (k := k) (by omega) hk9
      have hu := val_take_lt (bs := bs) (k := k) (by omega)
      have hv := val_take hltb
      obtain ⟨x, hxe⟩ : ∃ x, x = bs.getD k 0 := ⟨_, rfl⟩
      rw [← hxe] at hc hx8 hv
      obtain ⟨u, hue⟩ : ∃ u, u = val (bs.take k) := ⟨_, rfl⟩
      rw [hm, ← hue]
      rw [← hue] at hu hv
      have hand := and127 x hx8
      obtain ⟨y, hye⟩ : ∃ y, y = x % 128 := ⟨_, rfl⟩
      rw [← hye] at hand hv
      have hy8 : y < 128 := by omega
      have hsh := shl_step y k
      have hsh9 := shl_step9 y
      have hor := or_step u y k hk9 hu hy8
      rw [← hv] at hor
      obtain ⟨z, hze⟩ : ∃ z, z = y * 128 ^ k % 18446744073709551616 := ⟨_, rfl⟩
      rw [← hze] at hsh hor
      have HS9 : Hid (k = 9 → IntKind.u64.wrap ((y : Int) * 9223372036854775808) = (z : Int)) := by
       intro e
       rw [hsh9, hze, e]
      clear hsh9
      have HX := Lib.hid hxe
      clear hm hv hye hue hze hxe
      obtain ⟨v, hve⟩ : ∃ v, v = val (bs.take (k + 1)) % 18446744073709551616 := ⟨_, rfl⟩
      have hv6 : v < 18446744073709551616 := by rw [hve]; exact Nat.mod_lt _ (by decide)
      rw [← hve] at hor
      have HV : Hid (v = val (bs.take (k + 1)) % two64) := hve
      clear hve
      by_cases h9 : k = 9 ∧ 1 < x
      · obtain ⟨rfl, h1x⟩ := h9
        go_wp2
        go_ret2
        exact gives_get_no (hi_tenth HA.out HH.out hltb (by rw [← HX.out]; exact h1x))
      · have hno : k = 9 → bs.getD k 0 ≤ 1 := fun e => by rw [← HX.out]; omega
        have HNO := Lib.hid hno
        clear hno
        by_cases hx : x < 128
        · have h128 := and128_lo x hx
          have hb0 : ((0 : Int) != 0) = false := by decide
          have hxb : bs.getD k 0 < 128 := by rw [← HX.out]; exact hx
          have HXB := Lib.hid hxb
          clear hxb
          by_cases hz : x = 0 ∧ 0 < k
          · have HG : Hid (getB bs = (0, 0)) := hi_no HH.out hltb hk9 HXB.out (fun h => by have h1 := h.1 (by rw [← HX.out]; omega); omega)
            obtain ⟨rfl, hk0⟩ := hz
            go_wp2
            all_goals first
             | (exfalso; omega)
             | (go_ret2; exact gives_get_no HG.out)
          · have HG : Hid (getB bs = (zag v, k + 1)) := by
             show _ = _
             rw [HV.out]
             exact hi_yes HH.out hltb hk9 HXB.out (fun h => by rw [← HX.out] at h; omega) HNO.out
            by_cases h9k : k = 9
            · have hs9 := HS9.out h9k
              have hx1 : x ≤ 1 := by
               by_cases h : 1 < x
               · exact absurd ⟨h9k, h⟩ h9
               · omega
              have hx0b : ((x : Int) == 0) = false := by simp; omega
              have hx1b : decide ((1 : Int) < (x : Int)) = false := by simp; omega
              clear hsh
              subst h9k
              go_wp2_with (go_at_call 105; refine (signed_any v _ hv6).mono ?_; rintro e w' ⟨rfl, rfl⟩)
              go_ret2
              exact gives_get HG.out rfl rfl
            · have hk9b : ((k : Int) == 9) = false := by simp; omega
              by_cases hx0 : x = 0
              · have hk0 : k = 0 := by omega
                have hx0t : ((x : Int) == 0) = true := by simp; omega
                have hk1 : decide ((0 : Int) < (k : Int)) = false := by simp; omega
                have hk2 : decide (0 < k) = false := by simp; omega
                clear hx0 hk0
                go_wp2_with fail
                refine (signed_any v _ hv6).mono ?_
                rintro e w' ⟨rfl, rfl⟩
                go_wp2
                go_ret2
                exact gives_get HG.out rfl rfl
              · have hx0b : ((x : Int) == 0) = false := by simp; omega
                go_wp2_with fail
                refine (signed_any v _ hv6).mono ?_
                rintro e w' ⟨rfl, rfl⟩
                go_wp2
                go_ret2
                exact gives_get HG.out rfl rfl
        · have h128 := and128_hi x hx8 (by omega)
          have HS : Hid (AllHi (bs.take (k + 1))) := hi_step HA.out HH.out hltb (by rw [← HX.out]; exact hx)
          have hk8 : k < 9 := by
           by_cases h : k = 9
           · exact absurd ⟨h, by omega⟩ h9
           · omega
          have hk9b : ((k : Int) == 9) = false := by simp; omega
          go_wp2
          all_goals first
           | (exfalso; omega)
           | (go_round
              case rel => exact ⟨k + 1, by omega, by omega, HS.out, by go_num, by rw [HV.out]⟩
              case measure => simp [intOf]; omega)
    · go_wp2
      go_ret2
      exact gives_get_no (hi_end HH.out (by rw [HL.out]; omega) (by rw [HL.out]; omega))
end Go.Proofs.YtgohekjkbgfeeaaGreat
namespace Go.CrcMath

def poly : Nat := 2197175160
/-- One bit: shifted right, and, if the lowest bit was 1, exclusive or the polynomial. -/
def bstep (c : Nat) : Nat := if c % 2 = 1 then c / 2 ^^^ poly else c / 2
def bsteps : Nat → Nat → Nat
 | 0, c => c
 | n + 1, c => bstep (bsteps n c)
def nxt (c b : Nat) : Nat := bsteps 8 (c ^^^ b)
def run (c : Nat) (bs : List Nat) : Nat := bs.foldl nxt c
def full : Nat := 4294967295
theorem full_lt : full < 4294967296 := by unfold full; omega
def cpl (c : Nat) : Nat := full ^^^ c
def ofB (bs : List Nat) : Nat := cpl (run full bs)
def leB (c : Nat) : List Nat := [c % 256, c / 256 % 256, c / 65536 % 256, c / 16777216 % 256]
def sealB (bs : List Nat) : List Nat := leB (ofB bs) ++ bs
def unl : List Nat → Nat
 | [] => 0
 | b :: bs => b + 256 * unl bs
def okB (bs : List Nat) : Bool := decide (4 ≤ bs.length) && decide (unl (bs.take 4) = ofB (bs.drop 4))
abbrev AllB (bs : List Nat) : Prop := ∀ x ∈ bs, x < 256

theorem bstep_lt {c : Nat} (h : c < 4294967296) : bstep c < 4294967296 := by
 unfold bstep
 split
 · exact Nat.xor_lt_two_pow (n := 32) (by omega) (by decide)
 · omega
theorem bsteps_lt {c : Nat} (h : c < 4294967296) : ∀ n, bsteps n c < 4294967296
 | 0 => h
 | n + 1 => bstep_lt (bsteps_lt h n)
theorem xor_lt {c b : Nat} (h : c < 4294967296) (hb : b < 4294967296) : c ^^^ b < 4294967296 := Nat.xor_lt_two_pow (n := 32) h hb
theorem nxt_lt {c b : Nat} (h : c < 4294967296) (hb : b < 256) : nxt c b < 4294967296 := bsteps_lt (xor_lt h (by omega)) 8
theorem run_lt : ∀ (bs : List Nat) (c : Nat), c < 4294967296 → AllB bs → run c bs < 4294967296
 | [], c, h, _ => h
 | b :: bs, c, h, hb => run_lt bs (nxt c b) (nxt_lt h (hb b (by simp))) (fun x hx => hb x (by simp [hx]))
theorem cpl_lt {c : Nat} (h : c < 4294967296) : cpl c < 4294967296 := xor_lt full_lt h
theorem cpl_eq (c : Nat) : cpl c = full ^^^ c := rfl
theorem ofB_lt {bs : List Nat} (h : AllB bs) : ofB bs < 4294967296 := cpl_lt (run_lt bs _ full_lt h)
theorem run_snoc (c : Nat) (a : List Nat) (b : Nat) : run c (a ++ [b]) = nxt (run c a) b := by simp [run, List.foldl_append]

/-! the bstep is linear, and only 0 goes to 0 -/
theorem xor_div2 (x y : Nat) : (x ^^^ y) / 2 = x / 2 ^^^ y / 2 := by
 have := Nat.shiftRight_xor_distrib (a := x) (b := y) (i := 1)
 simpa [Nat.shiftRight_eq_div_pow] using this
theorem xor_mod2 (x y : Nat) : (x ^^^ y) % 2 = (x % 2 + y % 2) % 2 := by
 have h : (x ^^^ y) % 2 ^ 1 = x % 2 ^ 1 ^^^ y % 2 ^ 1 := Nat.xor_mod_two_pow
 simp only [Nat.pow_one] at h
 rw [h]
 rcases Nat.mod_two_eq_zero_or_one x with hx | hx <;> rcases Nat.mod_two_eq_zero_or_one y with hy | hy <;> simp [hx, hy]
theorem bstep_xor (x y : Nat) : bstep (x ^^^ y) = bstep x ^^^ bstep y := by
 unfold bstep
 rw [xor_mod2, xor_div2]
 rcases Nat.mod_two_eq_zero_or_one x with hx | hx <;> rcases Nat.mod_two_eq_zero_or_one y with hy | hy
 · simp [hx, hy]
 · simp [hx, hy, Nat.xor_assoc]
 · simp only [hx, hy]; simp [Nat.xor_assoc, Nat.xor_comm poly]
 · simp only [hx, hy]; simp [Nat.xor_assoc]; rw [Nat.xor_comm poly, Nat.xor_assoc, Nat.xor_self, Nat.xor_zero]
theorem bsteps_xor (x y : Nat) : ∀ n, bsteps n (x ^^^ y) = bsteps n x ^^^ bsteps n y
 | 0 => rfl
 | n + 1 => by unfold bsteps; rw [bsteps_xor x y n, bstep_xor]
theorem bsteps_add (m x : Nat) : ∀ n, bsteps (m + n) x = bsteps n (bsteps m x)
 | 0 => rfl
 | n + 1 => by show bstep (bsteps (m + n) x) = bstep (bsteps n (bsteps m x)); rw [bsteps_add m x n]
theorem bstep_double (u : Nat) : bstep (2 * u) = u := by unfold bstep; rw [if_neg (by omega)]; omega
theorem steps8_256 (u : Nat) : bsteps 8 (256 * u) = u := by
 have e : 256 * u = 2 * (2 * (2 * (2 * (2 * (2 * (2 * (2 * u))))))) := by omega
 rw [e]
 simp only [bsteps, bstep_double]
theorem low_xor (t u : Nat) (h : t < 256) : t ^^^ 256 * u = t + 256 * u := by
 have h1 : 2 ^ 8 * u + t = 2 ^ 8 * u ||| t := Nat.two_pow_add_eq_or_of_lt (i := 8) (b := t) (by simpa using h) u
 have e2 : 2 ^ 8 * u ||| t = t ^^^ 2 ^ 8 * u := by
  apply Nat.eq_of_testBit_eq
  intro i
  rw [Nat.testBit_or, Nat.testBit_xor]
  by_cases hi : i < 8
  · have h2 : Nat.testBit (2 ^ 8 * u) i = false := by rw [Nat.testBit_two_pow_mul]; simp; omega
    rw [h2]; simp
  · have h3 : Nat.testBit t i = false := Nat.testBit_lt_two_pow (Nat.lt_of_lt_of_le h (Nat.pow_le_pow_right (n := 2) (i := 8) (by decide) (by omega)))
    rw [h3]; simp
 have h4 : 2 ^ 8 * u = 256 * u := rfl
 rw [h4] at h1 e2
 omega
/-- The difference of two sums behind one byte more, the bytes' own difference t. -/
theorem nxt_xor (c d b t : Nat) : nxt (c ^^^ d) (b ^^^ t) = nxt c b ^^^ bsteps 8 (d ^^^ t) := by
 unfold nxt
 rw [← bsteps_xor]
 congr 1
 rw [Nat.xor_assoc, Nat.xor_assoc, ← Nat.xor_assoc d b t, Nat.xor_comm d b, Nat.xor_assoc]
theorem peel (d t u : Nat) (h : t < 256) : bsteps 8 (d ^^^ (t + 256 * u)) = bsteps 8 (d ^^^ t) ^^^ u := by
 rw [← low_xor t u h, ← Nat.xor_assoc, bsteps_xor, steps8_256]
theorem four (c a0 a1 a2 a3 t0 t1 t2 t3 : Nat) (h0 : t0 < 256) (h1 : t1 < 256) (h2 : t2 < 256) :
 run c [a0 ^^^ t0, a1 ^^^ t1, a2 ^^^ t2, a3 ^^^ t3] = run c [a0, a1, a2, a3] ^^^ bsteps 32 (t0 + 256 * (t1 + 256 * (t2 + 256 * t3))) := by
 have e : bsteps 32 (t0 + 256 * (t1 + 256 * (t2 + 256 * t3))) = bsteps 8 (bsteps 8 (bsteps 8 (bsteps 8 t0 ^^^ t1) ^^^ t2) ^^^ t3) := by
  have p0 := peel 0 t0 (t1 + 256 * (t2 + 256 * t3)) h0
  simp only [Nat.zero_xor] at p0
  rw [show (32 : Nat) = 8 + (8 + (8 + 8)) from rfl, bsteps_add, p0, bsteps_add, peel _ _ _ h1, bsteps_add, peel _ _ _ h2]
 rw [e]
 have q0 : nxt c (a0 ^^^ t0) = nxt c a0 ^^^ bsteps 8 t0 := by have := nxt_xor c 0 a0 t0; simpa using this
 simp only [run, List.foldl_cons, List.foldl_nil]
 rw [q0, nxt_xor, nxt_xor, nxt_xor]
/-! four bytes and their number -/
theorem leB_all (c : Nat) : AllB (leB c) := by intro x hx; simp [leB] at hx; omega
theorem sealB_all {bs : List Nat} (h : AllB bs) : AllB (sealB bs) := by
 intro x hx
 rcases List.mem_append.1 hx with h1 | h1
 · exact leB_all _ x h1
 · exact h x h1
theorem length_sealB (bs : List Nat) : (sealB bs).length = bs.length + 4 := by simp [sealB, leB]
theorem unl_leB {c : Nat} (h : c < 4294967296) : unl (leB c) = c := by simp only [leB, unl]; omega
theorem leB_unl {b0 b1 b2 b3 : Nat} (h0 : b0 < 256) (h1 : b1 < 256) (h2 : b2 < 256) (h3 : b3 < 256) : leB (unl [b0, b1, b2, b3]) = [b0, b1, b2, b3] := by
 simp only [leB, unl]
 congr 1
 · omega
 · congr 1
   · omega
   · congr 1
     · omega
     · congr 1; omega
theorem take_sealB (bs : List Nat) : (sealB bs).take 4 = leB (ofB bs) := by simp [sealB, leB]
theorem drop_sealB (bs : List Nat) : (sealB bs).drop 4 = bs := by simp [sealB, leB]
theorem four_of {bs : List Nat} (h : 4 ≤ bs.length) : ∃ b0 b1 b2 b3 r, bs = b0 :: b1 :: b2 :: b3 :: r := by
 match bs, h with
 | b0 :: b1 :: b2 :: b3 :: r, _ => exact ⟨b0, b1, b2, b3, r, rfl⟩
theorem okB_short {bs : List Nat} (h : bs.length < 4) : okB bs = false := by simp [okB]; omega
theorem okB_seal {bs : List Nat} (h : AllB bs) : okB (sealB bs) = true := by
 simp only [okB, length_sealB, take_sealB, drop_sealB, unl_leB (ofB_lt h)]; simp
theorem okB_long {bs : List Nat} (h : 4 ≤ bs.length) : okB bs = decide (unl (bs.take 4) = ofB (bs.drop 4)) := by simp [okB, h]
/-- A row is right just where it is what the rest of it is when it is sealed. -/
theorem sealB_drop {bs : List Nat} (h : 4 ≤ bs.length) (hb : AllB bs) : sealB (bs.drop 4) = bs ↔ okB bs = true := by
 obtain ⟨b0, b1, b2, b3, r, rfl⟩ := four_of h
 have h0 := hb b0 (by simp)
 have h1 := hb b1 (by simp)
 have h2 := hb b2 (by simp)
 have h3 := hb b3 (by simp)
 have hr : AllB r := fun x hx => hb x (by simp [hx])
 rw [okB_long h]
 simp only [List.drop_succ_cons, List.drop_zero, List.take_succ_cons, List.take_zero, decide_eq_true_eq]
 constructor
 · intro e
   have e2 : leB (ofB r) = [b0, b1, b2, b3] := by
    have := congrArg (List.take 4) e
    simpa [sealB, leB] using this
   rw [← e2, unl_leB (ofB_lt hr)]
 · intro e
   show leB (ofB r) ++ r = _
   rw [← e, leB_unl h0 h1 h2 h3]; rfl
end Go.CrcMath
namespace Go.SeqMath

def rightB (n : Int) : Bool := decide (0 ≤ n) && decide (n ≤ 2147483647)
def addI (n k : Int) : Int := if rightB n = true then (n + k) % 2147483648 else -1
def lastI (n c : Int) : Int := if 1 ≤ c ∧ c ≤ 16 then addI n (c - 1) else -1
def followsB (l f : Int) : Bool := if l = -1 then decide (f = 0) else rightB l && decide (f = addI l 1)
def gapI (a b : Int) : Int := if rightB a = true ∧ rightB b = true then (b - a) % 2147483648 else -1
theorem right_yes {n : Int} (h0 : 0 ≤ n) (h1 : n ≤ 2147483647) : rightB n = true := by unfold rightB; simp [h0, h1]
theorem right_no {n : Int} (h : n < 0 ∨ 2147483647 < n) : rightB n = false := by
 unfold rightB
 rcases h with h | h
 · rw [decide_eq_false (by omega)]; rfl
 · rw [decide_eq_false (p := n ≤ 2147483647) (by omega), Bool.and_false]
theorem of_right {n : Int} (h : rightB n = true) : 0 ≤ n ∧ n ≤ 2147483647 := by unfold rightB at h; simpa using h
theorem add_yes {n : Int} (h0 : 0 ≤ n) (h1 : n ≤ 2147483647) (k : Int) : addI n k = (n + k) % 2147483648 := by unfold addI; rw [if_pos (right_yes h0 h1)]
theorem add_no {n : Int} (h : rightB n = false) (k : Int) : addI n k = -1 := by unfold addI; rw [if_neg (by rw [h]; decide)]
theorem last_yes {c : Int} (h0 : 1 ≤ c) (h1 : c ≤ 16) (n : Int) : lastI n c = addI n (c - 1) := by unfold lastI; rw [if_pos ⟨h0, h1⟩]
theorem last_no {c : Int} (h : c < 1 ∨ 16 < c) (n : Int) : lastI n c = -1 := by unfold lastI; rw [if_neg (by omega)]
theorem gap_yes {a b : Int} (a0 : 0 ≤ a) (a1 : a ≤ 2147483647) (b0 : 0 ≤ b) (b1 : b ≤ 2147483647) : gapI a b = (b - a) % 2147483648 := by
 unfold gapI; rw [if_pos ⟨right_yes a0 a1, right_yes b0 b1⟩]
theorem gap_no {a b : Int} (h : rightB a = false ∨ rightB b = false) : gapI a b = -1 := by
 unfold gapI; rw [if_neg]
 rintro ⟨h1, h2⟩
 rcases h with h | h
 · rw [h1] at h; cases h
 · rw [h2] at h; cases h
theorem follows_none (f : Int) : followsB (-1) f = decide (f = 0) := by unfold followsB; rw [if_pos rfl]
theorem follows_yes {l : Int} (h0 : 0 ≤ l) (h1 : l ≤ 2147483647) (f : Int) : followsB l f = decide (f = addI l 1) := by
 unfold followsB; rw [if_neg (by omega), right_yes h0 h1, Bool.true_and]
theorem follows_no {l : Int} (h : l ≠ -1) (h2 : rightB l = false) (f : Int) : followsB l f = false := by
 unfold followsB; rw [if_neg h, h2, Bool.false_and]
/- What the two laws say, of the plain functions. -/
theorem gap_add {x k : Int} (x0 : 0 ≤ x) (x1 : x ≤ 2147483647) (k0 : 0 ≤ k) (k1 : k ≤ 2147483647) : gapI x (addI x k) = k := by
 rw [add_yes x0 x1, gap_yes x0 x1 (by omega) (by omega)]; omega
end Go.SeqMath
