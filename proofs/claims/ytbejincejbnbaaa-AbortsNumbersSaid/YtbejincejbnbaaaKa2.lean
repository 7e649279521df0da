/- Parts of a proof, merged: TabRow, AbMath, Bytes, Rows2, KindBytes, Bats, BatPlain, BatPlain2, VarBase, VarSmall. -/
import Derived.Test.YtbejincejbnbaaaRows
import Derived.WalkKit
import Derived.IntWalk
import Derived.Lib.Hide
import Derived.Lib.SlBytesConst
import Derived.Laws.BitsAllLaws
import Derived.Laws.CopyOwn
import Derived.Laws.AppendOwnNone
import Derived.Laws.BytesString
import Derived.BigFrame
import Derived.OpenShut
import Derived.WalkSmall
import Derived.Deep.RegionHeld3
import Derived.OwnWalk
import Derived.BigQuiet
import Derived.Deep.QuietTactic
import Derived.Outline
import Derived.Deep.Cut
import Derived.Deep.CutRange
import Derived.Test.YtbejincejbnbaaaKa1
namespace Go.ProdMath
open Go.SeqMath
open Go.BatMath
set_option linter.unusedVariables false

theorem right_count {b : Bat} (h : rightE b = 0) : 1 ≤ countD b := by
 unfold countD
 split
 · omega
 · rename_i hm
   unfold rightE at h
   split at h
   · omega
   · split at h
     · rename_i h2
       have := List.length_pos_iff.2 h2.2
       omega
     · omega
theorem row_bases {start : Int} {bs : List Bat} (h : RowD start bs) (h0 : 0 ≤ start) : (bs.Pairwise fun a b => a.base < b.base) ∧ (∀ b ∈ bs, 0 ≤ b.base ∧ b.base < endD start bs) ∧ start ≤ endD start bs := by
 induction h with
 | nil => exact ⟨List.Pairwise.nil, (fun b hb => by cases hb), Int.le_refl _⟩
 | @snoc l b h2 hb hw hr hc he ih =>
   obtain ⟨i1, i2, i3⟩ := ih
   have h3 := right_count (tcheck_right hr)
   have e : endD start (l ++ [b]) = endD start l + countD b := by rw [end_last (b := b) (by simp), hb]
   refine ⟨List.pairwise_append.2 ⟨i1, List.pairwise_singleton _ _, fun a ha c hc => ?_⟩, fun c hc => ?_, by omega⟩
   · rw [List.mem_singleton.1 hc, hb]
     exact (i2 a ha).2
   · rcases List.mem_append.1 hc with h4 | h4
     · have := i2 c h4; omega
     · rw [List.mem_singleton.1 h4]; omega
end Go.ProdMath
namespace Go.AbMath
open Go.ProdMath
open Go.SnapMath
open Go.BatMath (In64 Bat)
set_option linter.unusedVariables false

/-- One that may stand in a list. -/
def DrOk (d : Dr) : Prop := 0 ≤ d.prod ∧ 0 ≤ d.first ∧ d.first < d.last ∧ d.last ≤ 1099511627776
def AscL (l : List Dr) : Prop := l.Pairwise fun a b => a.last < b.last
def lastD (l : List Dr) : Int := match l.getLast? with
 | none => -1
 | some d => d.last
def okD (z : Int) (d : Dr) : Prop := DrOk d ∧ z < d.last
instance (d : Dr) : Decidable (DrOk d) := by unfold DrOk; infer_instance
instance (z : Int) (d : Dr) : Decidable (okD z d) := by unfold okD; infer_instance
def addD (l : List Dr) (d : Dr) : List Dr := if okD (lastD l) d then l ++ [d] else l
def withinD (l : List Dr) (a b : Int) : List Dr := l.filter fun d => decide (a < b ∧ d.first < b ∧ a ≤ d.last)
def cutD (l : List Dr) (e : Int) : List Dr := l.filter fun d => decide (d.last < e)
def startD (l : List Dr) (a : Int) : List Dr := l.filter fun d => decide (a ≤ d.last)
structure DrsOk (l : List Dr) : Prop where
 each : ∀ d ∈ l, DrOk d
 asc : AscL l
theorem DrsOk.nil : DrsOk [] := ⟨fun d h => (by cases h), List.Pairwise.nil⟩
theorem lastD_snoc (l : List Dr) (d : Dr) : lastD (l ++ [d]) = d.last := by unfold lastD; rw [List.getLast?_append, List.getLast?_singleton]; rfl
theorem lastD_lt {l : List Dr} (h : DrsOk l) {z : Int} (hz : -1 < z) : lastD l < z ↔ ∀ d ∈ l, d.last < z := by
 rcases List.eq_nil_or_concat l with e | ⟨i, q, e⟩
 · subst e
   exact ⟨fun _ d hd => (by cases hd), fun _ => hz⟩
 · rw [List.concat_eq_append] at e
   subst e
   rw [lastD_snoc]
   refine ⟨fun hq d hd => ?_, fun hall => hall q (by simp)⟩
   rcases List.mem_append.1 hd with hd | hd
   · have := (List.pairwise_append.1 h.asc).2.2 d hd q (by simp)
     omega
   · rw [List.mem_singleton.1 hd]; exact hq
theorem DrsOk.snoc {l : List Dr} (h : DrsOk l) {d : Dr} (hd : okD (lastD l) d) : DrsOk (l ++ [d]) := by
 have h1 := (lastD_lt h (z := d.last) (by have := hd.1; unfold DrOk at this; omega)).1 hd.2
 refine ⟨fun x hx => ?_, List.pairwise_append.2 ⟨h.asc, List.pairwise_singleton _ _, fun a ha b hb => by rw [List.mem_singleton.1 hb]; exact h1 a ha⟩⟩
 rcases List.mem_append.1 hx with hx | hx
 · exact h.each x hx
 · rw [List.mem_singleton.1 hx]; exact hd.1
theorem DrsOk.add {l : List Dr} (h : DrsOk l) (d : Dr) : DrsOk (addD l d) := by
 unfold addD
 split
 · rename_i hd; exact h.snoc hd
 · exact h
theorem DrsOk.filter {l : List Dr} (h : DrsOk l) (p : Dr → Bool) : DrsOk (l.filter p) := ⟨fun d hd => h.each d (List.mem_filter.1 hd).1, List.Pairwise.sublist List.filter_sublist h.asc⟩
/-! rows -/
theorem row_opns {start : Int} {bs : List Bat} (h : RowD start bs) (h0 : 0 ≤ start) (h1 : start ≤ 1099511627776) : ∀ p ∈ foldP [] bs, p.opn < endD start bs := by
 induction h with
 | nil => intro p hp; cases hp
 | @snoc l b hl hb hw hc hn he ih =>
   obtain ⟨ha, hs⟩ := row_states hl h0 h1
   have hr := tcheck_right hc
   have hpos := right_count hr
   have hend : endD start (l ++ [b]) = b.base + countD b := end_last (by simp)
   have hb0 : 0 ≤ b.base := by rw [hb]; have := (row_bases hl h0).2.2; omega
   rw [foldP_snoc]
   by_cases hp : b.prod < 0
   · rw [tapply_no (Or.inr hp)]
     intro p hm
     have := ih p hm
     rw [hend, hb]; omega
   · rw [tapply_ins ha b hr (by omega)]
     intro p hm
     rcases ins_ids _ _ _ hm with e | e
     · rw [e, hend]
       have hq : ((lookD (foldP [] l) b.prod).getD Pd.zero).opn < b.base ∨ lookD (foldP [] l) b.prod = none := by
        cases hlk : lookD (foldP [] l) b.prod with
        | none => exact .inr rfl
        | some q => exact .inl (by rw [hb]; exact ih q (look_id hlk).2)
       have ho : oldOpen ((lookD (foldP [] l) b.prod).getD Pd.zero) (lookD (foldP [] l) b.prod).isSome < b.base + countD b := by
        unfold oldOpen
        split
        · rename_i hk
          rcases hq with hq | hq
          · omega
          · rw [hq] at hk; cases hk
        · omega
       unfold applyD
       split
       · show (-1 : Int) < _; omega
       · show (if b.txn = true ∧ _ then b.base else _) < _
         split
         · omega
         · exact ho
     · have := ih p e
       rw [hend, hb]; omega
theorem tdrop_is {l : List Pd} {b : Bat} {d : Dr} (ha : Asc l) (h : tdropD l b = some d) : 0 ≤ b.prod ∧ ∃ p ∈ l, 0 ≤ p.opn ∧ d = ⟨b.prod, p.opn, b.base⟩ := by
 unfold tdropD at h
 split at h
 · cases h
 · rename_i h1
   split at h
   · rename_i h2
     unfold dropsB at h2
     simp only [Bool.and_eq_true, decide_eq_true_eq] at h2
     obtain ⟨h3, _, h4⟩ := h2
     have hlk := has_look ha b.prod
     rw [hlk.1] at h3
     obtain ⟨p, hp⟩ := Option.isSome_iff_exists.1 h3
     rw [hlk.2, hp] at h h4
     refine ⟨by omega, p, (look_id hp).2, h4, ?_⟩
     exact (Option.some.inj h).symm
   · cases h
/-- What a row's markers abort. -/
theorem row_drops {start : Int} {bs : List Bat} (h : RowD start bs) (h0 : 0 ≤ start) (h1 : start ≤ 1099511627776) : DrsOk (foldR [] bs) ∧ ∀ d ∈ foldR [] bs, d.last < endD start bs := by
 induction h with
 | nil => exact ⟨DrsOk.nil, fun d hd => by cases hd⟩
 | @snoc l b hl hb hw hc hn he ih =>
   obtain ⟨ha, hs⟩ := row_states hl h0 h1
   have hr := tcheck_right hc
   have hpos := right_count hr
   have hend : endD start (l ++ [b]) = b.base + countD b := end_last (by simp)
   have hb0 : 0 ≤ b.base := by rw [hb]; have := (row_bases hl h0).2.2; omega
   obtain ⟨i1, i2⟩ := ih
   rw [foldR_snoc]
   cases hd : tdropD (foldP [] l) b with
   | none =>
     show DrsOk (_ ++ []) ∧ _
     rw [List.append_nil]
     refine ⟨i1, fun d hdm => ?_⟩
     rw [show foldR [] l ++ (none : Option Dr).toList = foldR [] l from List.append_nil _] at hdm
     have := i2 d hdm
     rw [hend, hb]; omega
   | some d =>
     obtain ⟨hp, p, hpm, hpo, e⟩ := tdrop_is ha hd
     have hop := row_opns hl h0 h1 p hpm
     have hdl : d.last = b.base := by rw [e]
     have hok : okD (lastD (foldR [] l)) d := by
      refine ⟨?_, (lastD_lt i1 (by omega)).2 fun x hx => by have := i2 x hx; omega⟩
      rw [e]
      exact ⟨hp, hpo, by show p.opn < b.base; omega, by show b.base ≤ _; omega⟩
     refine ⟨i1.snoc hok, fun x hx => ?_⟩
     rcases List.mem_append.1 hx with hx | hx
     · have := i2 x hx
       rw [hend, hb]; omega
     · rw [List.mem_singleton.1 (show x ∈ [d] from hx), hend]; omega
/-- What stands in a beginning is what ends ahead of what follows. -/
theorem row_begins {start : Int} {bs : List Bat} (h : RowD start bs) (h0 : 0 ≤ start) (h1 : start ≤ 1099511627776) : ∀ (k : Nat) (b : Bat), bs[k]? = some b → foldR [] (bs.take k) = cutD (foldR [] bs) b.base := by
 induction h with
 | nil => intro k b hb; cases hb
 | @snoc l b hl hb hw hc hn he ih =>
   intro k x hx
   have hd := row_drops hl h0 h1
   have hfull : cutD (foldR [] l) b.base = foldR [] l := List.filter_eq_self.2 fun d hdm => decide_eq_true (by rw [hb]; exact hd.2 d hdm)
   obtain ⟨ha, hs⟩ := row_states hl h0 h1
   have hnew : ∀ z, z ≤ b.base → cutD (tdropD (foldP [] l) b).toList z = [] := fun z hz => by
    cases hdd : tdropD (foldP [] l) b with
    | none => rfl
    | some d =>
      obtain ⟨_, p, _, _, e⟩ := tdrop_is ha hdd
      show List.filter _ [d] = []
      rw [List.filter_cons_of_neg (by rw [e]; simp; omega)]
      rfl
   have hsp : ∀ z, cutD (foldR [] (l ++ [b])) z = cutD (foldR [] l) z ++ cutD (tdropD (foldP [] l) b).toList z := fun z => by
    rw [foldR_snoc]
    exact List.filter_append _ _
   rcases Nat.lt_or_ge k l.length with hk | hk
   · rw [List.getElem?_append_left hk] at hx
     rw [List.take_append_of_le_length (Nat.le_of_lt hk), ih k x hx, hsp, hnew _ ?_, List.append_nil]
     have hm := (row_bases hl h0).2.1 x (List.mem_of_getElem? hx)
     rw [hb]; omega
   · have hke : k = l.length := by
      have := (List.getElem?_eq_some_iff.1 hx).1
      rw [List.length_append, List.length_singleton] at this
      omega
     subst hke
     rw [List.getElem?_append_right (Nat.le_refl _), Nat.sub_self] at hx
     cases hx
     rw [List.take_left, hsp, hnew _ (Int.le_refl _), List.append_nil, hfull]
theorem row_all {start : Int} {bs : List Bat} (h : RowD start bs) (h0 : 0 ≤ start) (h1 : start ≤ 1099511627776) : cutD (foldR [] bs) 1099511627776 = foldR [] bs :=
 List.filter_eq_self.2 fun d hd => decide_eq_true (by
  have h2 := (row_drops h h0 h1).2 d hd
  have h3 : endD start bs ≤ 1099511627776 := by
   cases h with
   | nil => exact h1
   | @snoc l b hl hb hw hc hn he => rw [show endD start (l ++ [b]) = b.base + countD b from end_last (by simp), hb]; exact he
  omega)
theorem row_prods {start : Int} {bs : List Bat} (h : RowD start bs) (h0 : 0 ≤ start) (h1 : start ≤ 1099511627776) : ∀ d ∈ foldR [] bs, In64 d.prod := by
 induction h with
 | nil => intro d hd; cases hd
 | @snoc l b hl hb hw hc hn he ih =>
   obtain ⟨ha, _⟩ := row_states hl h0 h1
   intro d hd
   rw [foldR_snoc] at hd
   rcases List.mem_append.1 hd with hd | hd
   · exact ih d hd
   · cases hdd : tdropD (foldP [] l) b with
     | none => rw [hdd] at hd; cases hd
     | some x =>
       rw [hdd] at hd
       obtain ⟨_, p, _, _, e⟩ := tdrop_is ha hdd
       rw [List.mem_singleton.1 (show d ∈ [x] from hd), e]
       exact hw.prod
theorem drops_len : ∀ (bs : List Bat) (l : List Pd), (foldR l bs).length ≤ bs.length
 | [], l => Nat.le_refl _
 | b :: bs, l => by
   have h := drops_len bs (tapplyD l b)
   show ((tdropD l b).toList ++ foldR (tapplyD l b) bs).length ≤ _
   rw [List.length_append, List.length_cons]
   have h2 : (tdropD l b).toList.length ≤ 1 := by cases tdropD l b <;> simp
   omega
/-! one list within another -/
def sameD (a b : Dr) : Bool := decide (a.prod = b.prod ∧ a.first = b.first ∧ a.last = b.last)
theorem sameD_iff {a b : Dr} : sameD a b = true ↔ a = b := by
 unfold sameD
 rw [decide_eq_true_eq]
 cases a
 cases b
 simp
theorem within_more {l : List Dr} {a b c d : Int} (hc : c ≤ a) (hd : b ≤ d) : (withinD l a b).Sublist (withinD l c d) := by
 have e : withinD l a b = (withinD l c d).filter fun x => decide (a < b ∧ x.first < b ∧ a ≤ x.last) := by
  unfold withinD
  rw [List.filter_filter]
  apply List.filter_congr
  intro x hx
  simp only [← Bool.decide_and, decide_eq_decide]
  constructor
  · intro h; exact ⟨h, by omega, by omega, by omega⟩
  · intro h; exact h.1
 rw [e]
 exact List.filter_sublist
theorem within_all {l : List Dr} (h : DrsOk l) : withinD l 0 1099511627776 = l := List.filter_eq_self.2 fun d hd => decide_eq_true (by
 have := h.each d hd
 unfold DrOk at this
 omega)
end Go.AbMath
namespace Go.Proofs.Ytbejincejbnbaaa
open Go.RowKit Go.OpenShut
set_option linter.unusedVariables false

abbrev AllB (bs : List Nat) : Prop := ∀ x ∈ bs, x < 256
/-- A slice of bytes reads as bs: it is empty, or its cells lie in one block, one behind the other. -/
structure Byt (w : World) (ad : Option Addr) (len cap : Nat) (bs : List Nat) : Prop where
 length : bs.length = len
 fits : len ≤ cap
 all : AllB bs
 cells : len = 0 ∨ ∃ b off, ad = some ⟨b, off, none⟩ ∧ ∀ i, i < len → w.cell? ⟨b, off + i, none⟩ = some (.int .u8 (bs.getD i 0 : Nat))

theorem getD_all {bs : List Nat} (h : AllB bs) (k : Nat) : bs.getD k 0 < 256 := by
 rw [List.getD_eq_getElem?_getD]
 rcases hk : bs[k]? with _ | x
 · decide
 · exact h x (List.mem_of_getElem? hk)
theorem take_all {bs : List Nat} (h : AllB bs) (k : Nat) : AllB (bs.take k) := fun x hx => h x (List.mem_of_mem_take hx)

def byte (b : Nat) : Value := .int .u8 (b : Int)
def vals (bs : List Nat) : List Value := bs.map byte
/-- Block g is known whole: the bytes bs. -/
def Own (w : World) (g : Nat) (bs : List Nat) : Prop := w.heap[g]? = some (.cells (vals bs).toArray 5 (0, 0))
theorem length_vals (bs : List Nat) : (vals bs).length = bs.length := by simp [vals]
theorem vals_append (a b : List Nat) : vals (a ++ b) = vals a ++ vals b := by simp [vals]
theorem Own.cell {w : World} {g : Nat} {bs : List Nat} (h : Own w g bs) (i : Nat) (hi : i < bs.length) : w.cell? ⟨g, i, none⟩ = some (.int .u8 (bs.getD i 0 : Nat)) := by
 rw [cell_of_row w g i _ _ _ h]
 simp [vals, hi, byte]
theorem Own.free {w : World} {g : Nat} {bs : List Nat} (h : Own w g bs) (i : Nat) : w.frozen? ⟨g, i, none⟩ = false := frozen_of_row w g i _ _ h
theorem Own.byt {w : World} {g : Nat} {bs : List Nat} (h : Own w g bs) (ha : AllB bs) (cap : Nat) (hc : bs.length ≤ cap) : Byt w (some ⟨g, 0, none⟩) bs.length cap bs :=
 ⟨rfl, hc, ha, .inr ⟨g, 0, rfl, fun i hi => by rw [Nat.zero_add]; exact h.cell i hi⟩⟩
theorem Own.keep {w w' : World} {g : Nat} {bs : List Nat} (h : Own w g bs) {B : Nat} (hb : Below B w w') (hg : g < B) : Own w' g bs := by
 show w'.heap[g]? = _
 rw [hb.block g hg]; exact h
theorem Own.lt {w : World} {g : Nat} {bs : List Nat} (h : Own w g bs) : g < w.heap.size := (Array.getElem?_eq_some_iff.1 h).1
theorem Own.set {w : World} {g : Nat} {bs : List Nat} (h : Own w g bs) (i : Nat) (x : Nat) : Own (w.setCell ⟨g, i, none⟩ (.int .u8 x)) g (bs.set i x) := by
 have := heap_setCell_same w g i _ _ (.int .u8 x) h
 show (w.setCell ⟨g, i, none⟩ (.int .u8 x)).heap[g]? = some (.cells (vals (bs.set i x)).toArray 5 (0, 0))
 rw [this]
 congr 2
 simp [vals, byte]
theorem Byt.keep {w w' : World} {ad : Option Addr} {len cap : Nat} {bs : List Nat} (h : Byt w ad len cap bs) {B : Nat} (hb : Below B w w') (hB : w.heap.size ≤ B) : Byt w' ad len cap bs := by
 refine ⟨h.length, h.fits, h.all, ?_⟩
 rcases h.cells with h0 | ⟨b, off, e, hc⟩
 · exact .inl h0
 · refine .inr ⟨b, off, e, fun i hi => ?_⟩
   have := hc i hi
   rw [hb.cell (p := ⟨b, off + i, none⟩) (by have := World.block_lt_of_cell? w _ this; exact Nat.lt_of_lt_of_le this hB)]
   exact this
theorem own_made {w : World} {base g n : Nat} {xs : List Value} (h : w.ownsRow base 5 1 (.slice (some ⟨g, 0, none⟩) n n) n xs) : w.heap[g]? = some (.cells xs.toArray 5 (0, 0)) := by
 rcases h.2 with ⟨h', _⟩ | ⟨g', cap', cur, h', _, hg, _, _, hs, htake⟩
 · simp at h'
 · simp only [Value.slice.injEq, Option.some.injEq, Addr.mk.injEq, and_true, true_and] at h'
   obtain ⟨rfl, rfl⟩ := h'
   rw [hg, ← htake, List.take_of_length_le (by simp [hs])]
theorem info5 : (Try.prog.info? 5).map (fun i => (i.zero, i.size, i.bytes)) = some (some (.int .u8 0), 1, 1) := by kernel_rfl

theorem own_zero {w : World} {g n : Nat} (h : w.heap[g]? = some (.cells (madeCells (Value.int .u8 0).cells (n * 1)).toList.toArray 5 (0, 0))) : Own w g (List.replicate n 0) := by
 show w.heap[g]? = _
 rw [h, Nat.mul_one]
 have : (madeCells (Value.int .u8 0).cells n).toList = vals (List.replicate n 0) := by
  have := toList_madeCells_one (.int .u8 0) n
  rw [show (Value.int .u8 0).cells = #[.int .u8 0] from rfl, this]
  simp [vals, byte]
 rw [this]
theorem size5 : (Try.prog.info? 5).map (·.size) = some 1 := by kernel_rfl
theorem vals_one (bs : List Nat) : ∀ v ∈ vals bs, v.oneCell' = true := by
 intro v hv
 obtain ⟨b, _, rfl⟩ := List.mem_map.1 hv
 rfl
theorem Byt.source {w : World} {ad : Option Addr} {len cap : Nat} {bs : List Nat} (h : Byt w ad len cap bs) (hp : 0 < len) : ∃ a, ad = some a ∧ ∀ j v, (vals bs)[j]? = some v → w.cell? (a.add j) = some v := by
 rcases h.cells with h0 | ⟨b, off, e, hc⟩
 · omega
 · refine ⟨_, e, fun j v hj => ?_⟩
   have hjl : j < bs.length := by
    have := (List.getElem?_eq_some_iff.1 hj).1
    simpa [vals] using this
   have h1 := hc j (by rw [h.length] at hjl; exact hjl)
   have h2 : (⟨b, off, none⟩ : Addr).add j = ⟨b, off + j, none⟩ := by
    unfold Addr.add
    split
    · rename_i h3; subst h3; rfl
    · rfl
   rw [h2, h1]
   rw [← hj]
   simp [vals, byte, hjl]
theorem Byt.alike {w w' : World} {ad : Option Addr} {len cap : Nat} {bs : List Nat} (h : Byt w ad len cap bs) (hc : ∀ a, w'.cell? a = w.cell? a) : Byt w' ad len cap bs := by
 refine ⟨h.length, h.fits, h.all, ?_⟩
 rcases h.cells with h0 | ⟨b, off, e, hc'⟩
 · exact .inl h0
 · exact .inr ⟨b, off, e, fun i hi => (hc _).trans (hc' i hi)⟩
theorem Byt.drewN {w : World} {ad : Option Addr} {len cap : Nat} {bs : List Nat} (h : Byt w ad len cap bs) (n : Nat) : Byt (w.drewN n) ad len cap bs := h.alike fun a => by simp

theorem elem22 : Try.prog.underlying 38 = some (.slice (Try.prog.elem 38)) := by kernel_rfl
theorem sizeElem (w : World) : (sizeOf (Try.prog.elem 38)).run Try.prog w = .ok 1 w := by kernel_rfl
theorem run_from (b off len cap l : Nat) (h : l ≤ len) (w : World) :
 (Instr.slice 38 (.slice (some ⟨b, off, none⟩) len cap) (some (.int .i64 l)) none none).run Try.prog w = .ok (.slice (some ⟨b, if cap = l then off else off + l, none⟩) (len - l) (cap - l)) w := by
 rw [run_slice_l _ _ _ _ _ elem22 _ _ (by omega) (by omega), sizeElem]
 simp only [Result.andThen, sliced, Nat.mul_one, Int.toNat_natCast]
 congr 2
 by_cases h1 : cap = l
 · simp [h1]
 · simp [h1, Addr.add]
theorem add_at (b o j : Nat) : (⟨b, o, none⟩ : Addr).add j = ⟨b, o + j, none⟩ := by
 unfold Addr.add
 split
 · rename_i h; subst h; rfl
 · rfl
theorem source_at {w : World} {b o : Nat} {r : List Value} (h : ∃ a, some (⟨b, o, none⟩ : Addr) = some a ∧ ∀ j v, r[j]? = some v → w.cell? (a.add j) = some v) : ∀ j v, r[j]? = some v → w.cell? ⟨b, o + j, none⟩ = some v := by
 obtain ⟨a, ha, hs⟩ := h
 obtain rfl := Option.some.inj ha
 intro j v hj
 rw [← add_at]; exact hs j v hj
/-- Block g begins with the bytes bs. -/
def Pre (w : World) (g : Nat) (bs : List Nat) : Prop := ∃ cur : Array Value, w.heap[g]? = some (.cells cur 5 (0, 0)) ∧ cur.toList.take bs.length = vals bs
theorem Own.pre {w : World} {g : Nat} {bs : List Nat} (h : Own w g bs) : Pre w g bs := ⟨_, h, by rw [← length_vals]; simp⟩
theorem Pre.cell {w : World} {g : Nat} {bs : List Nat} (h : Pre w g bs) (i : Nat) (hi : i < bs.length) : w.cell? ⟨g, i, none⟩ = some (.int .u8 (bs.getD i 0 : Nat)) := by
 obtain ⟨cur, hg, ht⟩ := h
 rw [cell_of_row w g i _ _ _ hg]
 have h1 : (cur.toList.take bs.length)[i]? = cur[i]? := by rw [List.getElem?_take, if_pos hi]; simp
 rw [← h1, ht]
 simp [vals, hi, byte]
theorem Pre.free {w : World} {g : Nat} {bs : List Nat} (h : Pre w g bs) (i : Nat) : w.frozen? ⟨g, i, none⟩ = false := by
 obtain ⟨cur, hg, _⟩ := h
 exact frozen_of_row w g i _ _ hg
theorem Pre.byt {w : World} {g : Nat} {bs : List Nat} (h : Pre w g bs) (ha : AllB bs) (cap : Nat) (hc : bs.length ≤ cap) : Byt w (some ⟨g, 0, none⟩) bs.length cap bs :=
 ⟨rfl, hc, ha, .inr ⟨g, 0, rfl, fun i hi => by rw [Nat.zero_add]; exact h.cell i hi⟩⟩
theorem Pre.keep {w w' : World} {g : Nat} {bs : List Nat} (h : Pre w g bs) {B : Nat} (hb : Below B w w') (hg : g < B) : Pre w' g bs := by
 obtain ⟨cur, h1, h2⟩ := h
 exact ⟨cur, by rw [hb.block g hg]; exact h1, h2⟩
theorem Pre.lt {w : World} {g : Nat} {bs : List Nat} (h : Pre w g bs) : g < w.heap.size := by
 obtain ⟨cur, hg, _⟩ := h
 exact (Array.getElem?_eq_some_iff.1 hg).1
theorem Pre.set {w : World} {g : Nat} {bs : List Nat} (h : Pre w g bs) (i : Nat) (x : Nat) : Pre (w.setCell ⟨g, i, none⟩ (.int .u8 x)) g (bs.set i x) := by
 obtain ⟨cur, h1, h2⟩ := h
 refine ⟨_, heap_setCell_same w g i _ _ (.int .u8 x) h1, ?_⟩
 rw [List.length_set, Array.toList_setIfInBounds, List.take_set, h2]
 simp [vals, byte]
theorem pre_owns {w : World} {base g n cap : Nat} {bs : List Nat} (h : w.ownsRow base 5 1 (.slice (some ⟨g, 0, none⟩) n cap) n (vals bs)) : Pre w g bs ∧ bs.length = n ∧ n ≤ cap ∧ base ≤ g ∧ cap ≤ maxLen := by
 have hl := h.1
 rcases h.2 with ⟨h', _⟩ | ⟨g', cap', cur, h', hb, hg, hc, hm, hs, htake⟩
 · simp at h'
 · simp only [Value.slice.injEq, Option.some.injEq, Addr.mk.injEq, and_true, true_and] at h'
   obtain ⟨rfl, rfl⟩ := h'
   have hn : bs.length = n := by simpa [length_vals] using hl
   exact ⟨⟨cur, hg, by rw [hn]; simpa using htake⟩, hn, hc, hb, hm⟩
/-- What 'Sealed' and its like give: a slice at the head of a new block, which begins with bs. -/
def Made (w : World) (bs : List Nat) (v : Value) (w' : World) : Prop := ∃ g cap, v = .slice (some ⟨g, 0, none⟩) bs.length cap ∧ bs.length ≤ cap ∧ w.heap.size ≤ g ∧ Pre w' g bs ∧ Below w.heap.size w w'
def GivesMade (w : World) (bs : List Nat) (e : Ending) (w' : World) : Prop := ∃ v, e = .returned v ∧ Made w bs v w'
theorem made_of {w w' : World} {bs : List Nat} {v' : Value} (h : w'.ownsRow w.heap.size 5 1 v' bs.length (vals bs)) (hn : 0 < bs.length) (hb : Below w.heap.size w w') : Made w bs v' w' := by
 rcases h.2 with ⟨h', h0⟩ | ⟨g', cap', cur, rfl, _⟩
 · omega
 · obtain ⟨h1, h2, h3, h4, h5⟩ := pre_owns h
   exact ⟨g', cap', rfl, h3, h4, h1, hb⟩

def str (bs : List Nat) : ByteArray := ⟨(bs.map UInt8.ofNat).toArray⟩
theorem foldl_push (bs : List Int) (s : ByteArray) : (bs.foldl (fun r n => r.push (UInt8.ofNat n.toNat)) s).data.toList = s.data.toList ++ bs.map (fun n => UInt8.ofNat n.toNat) := by
 induction bs generalizing s with
 | nil => simp
 | cons b bs ih => rw [List.foldl_cons, ih]; simp [ByteArray.push]
theorem str_eq (bs : List Nat) : ((bs.map Int.ofNat).foldl (fun r n => r.push (UInt8.ofNat n.toNat)) ByteArray.empty) = str bs := by
 apply ByteArray.ext
 apply Array.toList_inj.1
 rw [foldl_push]
 have e : (ByteArray.empty : ByteArray).data.toList = [] := rfl
 rw [e]
 simp [str, Function.comp_def]
theorem ints_vals (bs : List Nat) : (bs.map Int.ofNat).map (Value.int .u8) = vals bs := by simp only [vals, List.map_map]; rfl
theorem run_str {w : World} {ad : Option Addr} {len cap : Nat} {bs : List Nat} (h : Byt w ad len cap bs) : (convert 38 9 (.slice ad len cap)).run Try.prog w = .ok (.string (str bs)) w := by
 rw [run_convert_bytes_string w 38 9 5 ad len cap Try.underlying38 Try.underlying5 Try.underlying9]
 rcases ad with _ | a
 · have : len = 0 := by
    rcases h.cells with h0 | ⟨b, off, e, _⟩
    · exact h0
    · cases e
   subst this
   obtain rfl : bs = [] := List.eq_nil_of_length_eq_zero h.length
   simp [Conv.bytesToString, Sem.run_pure, str]; rfl
 · have hl := h.length
   have hc : ∀ j v, (vals bs)[j]? = some v → w.cell? (a.add j) = some v := by
    intro j v hj
    have hjl : j < bs.length := by
     have := (List.getElem?_eq_some_iff.1 hj).1
     rwa [length_vals] at this
    obtain ⟨a', ha', hs⟩ := h.source (by omega)
    obtain rfl := Option.some.inj ha'
    exact hs j v hj
   have h1 := run_loadCells_list (P := Try.prog) (w := w) a (vals bs) hc
   rw [length_vals, hl, ← ints_vals] at h1
   rw [run_bytesToString w a len cap _ h1, str_eq]
theorem str_toList (bs : List Nat) : (str bs).toList = bs.map UInt8.ofNat := by rw [ByteArray.toList_eq]; simp [str]
theorem str_inj {a b : List Nat} (ha : AllB a) (hb : AllB b) (h : (str a).toList = (str b).toList) : a = b := by
 rw [str_toList, str_toList] at h
 have h2 := congrArg (List.map UInt8.toNat) h
 rw [List.map_map, List.map_map] at h2
 have e : ∀ l : List Nat, AllB l → l.map (UInt8.toNat ∘ UInt8.ofNat) = l := by
  intro l hl
  conv => rhs; rw [← List.map_id l]
  apply List.map_congr_left
  intro x hx
  have := hl x hx
  simp [Nat.mod_eq_of_lt this]
 rwa [e a ha, e b hb] at h2
theorem str_same (bs : List Nat) : ((str bs).toList == (str bs).toList) = true := by simp
theorem str_differ {a b : List Nat} (ha : AllB a) (hb : AllB b) (h : a ≠ b) : ((str a).toList == (str b).toList) = false := by
 simp only [beq_eq_false_iff_ne, ne_eq]
 exact fun e => h (str_inj ha hb e)
theorem own_new (w : World) (bs : List Nat) : Own (w.alloc (.cells (vals bs).toArray 5)) w.heap.size bs := heap_alloc_new w _
theorem Byt.nil (w : World) : Byt w none 0 0 [] := ⟨rfl, Nat.le_refl _, (fun x hx => by cases hx), .inl rfl⟩

theorem all_small {bs : List Nat} (h : bs.all (· < 256) = true) : AllB bs := by
 intro x hx
 have := List.all_eq_true.1 h x hx
 simpa using this
theorem run_str_at {w : World} {ad : Option Addr} {len cap : Nat} {bs : List Nat} {s : ByteArray} (h : Byt w ad len cap bs) (hs : s = str bs) : (convert 38 9 (.slice ad len cap)).run Try.prog w = .ok (.string s) w := by
 rw [hs]; exact run_str h
theorem news_of {w : World} {b o len cap : Nat} {r : List Nat} (h : Byt w (some ⟨b, o, none⟩) len cap r) : ∀ j u, (vals r)[j]? = some u → w.cell? ((⟨b, o, none⟩ : Addr).add j) = some u := by
 intro j u hj
 have hjl : j < r.length := by
  have := (List.getElem?_eq_some_iff.1 hj).1
  rwa [length_vals] at this
 obtain ⟨a', ha', hs⟩ := h.source (by have := h.length; omega)
 obtain rfl := Option.some.inj ha'
 exact hs j u hj
theorem made_some {w w' : World} {bs : List Nat} {v' : Value} (h : w'.ownsRow w.heap.size 5 1 v' bs.length (vals bs)) (hn : v' ≠ .slice none 0 0) (hb : Below w.heap.size w w') : Made w bs v' w' := by
 rcases h.2 with ⟨h', h0⟩ | ⟨g', cap', cur, rfl, _⟩
 · exact absurd h' hn
 · obtain ⟨h1, h2, h3, h4, h5⟩ := pre_owns h
   exact ⟨g', cap', rfl, h3, h4, h1, hb⟩
def IsRow (k : IntKind) (w : World) (a : Option Addr) (len cap : Nat) (zs : List Int) : Prop :=
 (a = none ∧ len = 0 ∧ cap = 0 ∧ zs = []) ∨
 ∃ x, a = some x ∧ len ≤ cap ∧ cap ≤ maxLen ∧ zs.length = cap ∧ (∀ i, i < zs.length → w.cell? (x.add i) = some (.int k (zs.getD i 0))) ∧ ∀ n ∈ zs, (Lit.int k n).wf = true

/-- The bytes of a slice that came in, as numbers. -/
def bytesOf (len : Nat) (zs : List Int) : List Nat := (zs.take len).map Int.toNat
theorem wf_byte {n : Int} (h : (Lit.int .u8 n).wf = true) : 0 ≤ n ∧ n < 256 := by
 have := bounds_u8 h
 omega
theorem IsRow.byt {w : World} {a : Option Addr} {len cap : Nat} {zs : List Int} (h : IsRow .u8 w a len cap zs) : Byt w a len cap (bytesOf len zs) ∧ (a = none → cap = 0) := by
 rcases h with ⟨rfl, rfl, rfl, rfl⟩ | ⟨x, rfl, hl, hm, hz, hc, hw⟩
 · exact ⟨Byt.nil w, fun _ => rfl⟩
 · refine ⟨⟨by simp [bytesOf]; omega, hl, ?_, ?_⟩, fun e => by cases e⟩
   · intro y hy
     obtain ⟨n, hn, rfl⟩ := List.mem_map.1 hy
     have := wf_byte (hw n (List.mem_of_mem_take hn))
     omega
   · by_cases h0 : len = 0
     · exact .inl h0
     · obtain ⟨b, off, spot⟩ := x
       have h1 := hc 0 (by omega)
       have hs : spot = none := by simpa [Addr.add] using World.cell?_spot h1
       subst hs
       refine .inr ⟨b, off, rfl, fun i hi => ?_⟩
       have h2 := hc i (by omega)
       rw [add_at] at h2
       rw [h2]
       have hi2 : i < zs.length := by omega
       have h3 := wf_byte (hw (zs.getD i 0) (by rw [List.getD_eq_getElem?_getD, List.getElem?_eq_getElem hi2]; simp))
       have h4 : ((bytesOf len zs).getD i 0 : Nat) = (zs.getD i 0).toNat := by
        simp [bytesOf, List.getD_eq_getElem?_getD, hi, hi2]
       rw [h4, Int.toNat_of_nonneg h3.1]
/-- A slice of bytes, and, if it is nil, it has no room. -/
def Row (w : World) (ad : Option Addr) (len cap : Nat) (bs : List Nat) : Prop := Byt w ad len cap bs ∧ (ad = none → cap = 0)
theorem Row.keep {w w' : World} {ad : Option Addr} {len cap : Nat} {bs : List Nat} (h : Row w ad len cap bs) {B : Nat} (hb : Below B w w') (hB : w.heap.size ≤ B) : Row w' ad len cap bs := ⟨h.1.keep hb hB, h.2⟩
theorem Row.all {w : World} {ad : Option Addr} {len cap : Nat} {bs : List Nat} (h : Row w ad len cap bs) : AllB bs := h.1.all
theorem Row.len {w : World} {ad : Option Addr} {len cap : Nat} {bs : List Nat} (h : Row w ad len cap bs) : bs.length = len := h.1.length

/-- 'append(v, xs...)', v the call's own, xs any slice of bytes, nil too. -/
theorem append_row {w : World} {ops : Array Oper} {rest : List Oper} {o : Oper} {a : Act} {Q : Exit → Act → World → Prop} (hgd : o.guard = none) (s x : Operand)
 (ho : o.op = .call { callee := .builtin .append, args := #[s, x], argTypes := #[38, 38] })
 (base n : Nat) (xs ys : List Nat) (v : Value) (hs : a.eval s = v) (hown : w.ownsRow base 5 1 v n (vals xs)) (hv : v ≠ .slice none 0 0) (hbase : base ≤ w.heap.size)
 (ad : Option Addr) (len cap : Nat) (hx : a.eval x = .slice ad len cap) (hr : Row w ad len cap ys) (hn : n + len ≤ 140737488355328)
 (w0 : World) (hb0 : Below base w0 w)
 (h : ∀ g cp w', w'.ownsRow base 5 1 (.slice (some ⟨g, 0, none⟩) (n + len) cp) (n + len) (vals (xs ++ ys)) → Below base w0 w' → wpList Try.prog ops Q rest (a.put o.dst (.slice (some ⟨g, 0, none⟩) (n + len) cp)) w') :
 wpList Try.prog ops Q (o :: rest) a w := by
 obtain ⟨i0, hi, hz0, hz1, hz2⟩ := info_parts info5
 rcases ad with _ | ad
 · have hcap := hr.2 rfl
   have hl := hr.1.fits
   have hyl := hr.1.length
   subst hcap
   obtain rfl : len = 0 := by omega
   obtain rfl : ys = [] := List.eq_nil_of_length_eq_zero hyl
   refine wpList_append_own_none hgd s x 38 ho base 5 i0 1 Try.underlying38 hi v n (vals xs) hs hown hx ?_
   rcases hown.2 with ⟨h', _⟩ | ⟨g, cp, cur, rfl, _⟩
   · exact absurd h' hv
   · exact h g cp w (by simpa using hown) hb0
 · refine wpList_append_own _ hgd s x 38 ho base 5 i0 (.int .u8 0) 1 1 Try.underlying38 hi hz0 hz1 hz2 rfl (by decide) v n (vals xs) hs hown ad len cap (vals ys) hx (by rw [length_vals, hr.1.length]; simp) (by
    intro j u hj
    have hjl : j < ys.length := by
     have := (List.getElem?_eq_some_iff.1 hj).1
     rwa [length_vals] at this
    obtain ⟨a', ha', hs'⟩ := hr.1.source (by have := hr.1.length; omega)
    obtain rfl := Option.some.inj ha'
    exact hs' j u hj) (vals_one ys) (by unfold maxLen; omega) (by omega) hbase ?_
   intro v' w' hown' hgrow hnn
   rw [← vals_append] at hown'
   have hb : Below base w0 w' := hb0.grown hgrow hbase (fun k hk => (hown.lt k hk).1)
   rcases hown'.2 with ⟨h', _⟩ | ⟨g, cp, cur, rfl, _⟩
   · exact absurd (hnn.1 h').1 hv
   · exact h g cp w' hown' hb
theorem own_empty (W : World) (base : Nat) (h : base ≤ W.heap.size) : (W.alloc (.cells #[] 5)).ownsRow base 5 1 (.slice (some ⟨W.heap.size, 0, none⟩) 0 0) 0 (vals []) := World.ownsRow_lit (e := 5) (size := 1) W #[] 0 h (by decide) rfl
theorem some_ne (a : Addr) (l c : Nat) : (Value.slice (some a) l c) ≠ .slice none 0 0 := by intro h; cases h
theorem owns_row {w : World} {base n g cp : Nat} {bs : List Nat} (h : w.ownsRow base 5 1 (.slice (some ⟨g, 0, none⟩) n cp) n (vals bs)) (ha : AllB bs) : Row w (some ⟨g, 0, none⟩) n cp bs := by
 obtain ⟨h1, h2, h3, h4, h5⟩ := pre_owns h
 have := h1.byt ha cp (by omega)
 rw [h2] at this
 exact ⟨this, fun h => by cases h⟩
theorem all_append {a b : List Nat} (ha : AllB a) (hb : AllB b) : AllB (a ++ b) := by
 intro x hx
 rcases List.mem_append.1 hx with h | h
 · exact ha x h
 · exact hb x h
theorem all_one : AllB [1] := all_small (by decide)

/-- A value that reads as the text t, in every world that has not turned since w. -/
def ReadsAs (w : World) (v : Value) (t : ByteArray) : Prop := ∀ W, Below w.heap.size w W → (convert 38 9 v).run Try.prog W = .ok (.string t) W
theorem ReadsAs.of {w : World} {a : Option Addr} {l c : Nat} {bs : List Nat} (h : Byt w a l c bs) : ReadsAs w (.slice a l c) (str bs) := fun W hW => run_str (h.keep hW (Nat.le_refl _))
theorem owns_keep {w w' : World} {base e size n : Nat} {v : Value} {xs : List Value} (h : w.ownsRow base e size v n xs) {B : Nat} (hb : Below B w w') (hB : w.heap.size ≤ B) : w'.ownsRow base e size v n xs := by
 refine ⟨h.1, ?_⟩
 rcases h.2 with h0 | ⟨g, cap, cur, hv, hg, hh, r⟩
 · exact .inl h0
 · refine .inr ⟨g, cap, cur, hv, hg, ?_, r⟩
   rw [hb.block g (Nat.lt_of_lt_of_le (Array.getElem?_eq_some_iff.1 hh).1 hB)]
   exact hh
theorem owns_any {w : World} {base n : Nat} {v : Value} {bl : List Nat} (h : w.ownsRow base 5 1 v n (vals bl)) (ha : AllB bl) : ∃ ad cap, v = .slice ad n cap ∧ Row w ad n cap bl := by
 rcases h.2 with ⟨hv, hn⟩ | ⟨g, cap, cur, rfl, _⟩
 · subst hn
   have hl : bl = [] := by
    have := h.1
    rw [length_vals] at this
    exact List.eq_nil_of_length_eq_zero (by omega)
   subst hl
   exact ⟨none, 0, hv, Byt.nil w, fun _ => rfl⟩
 · exact ⟨_, _, rfl, owns_row h ha⟩
theorem xor_some (a b : Int) : ∃ z : Nat, z < 256 ∧ bits .xor .u8 a b = (z : Int) := by
 have h : ∀ n : Int, 0 ≤ IntKind.u8.wrap n ∧ IntKind.u8.wrap n < 256 := fun n => by rw [IntKind.wrap_u8]; omega
 obtain ⟨n, hn⟩ : ∃ n : Int, bits .xor .u8 a b = IntKind.u8.wrap n := ⟨_, rfl⟩
 have := h n
 exact ⟨(IntKind.u8.wrap n).toNat, by omega, by rw [hn]; omega⟩

theorem cut_row {w : World} {a : Addr} {len cap : Nat} {bs : List Nat} (h : Row w (some a) len cap bs) (l : Nat) (hl : l ≤ len) : Row w (some a) l cap (bs.take l) := by
 refine ⟨⟨by rw [List.length_take, h.1.length]; omega, Nat.le_trans hl h.1.fits, take_all h.all l, ?_⟩, fun h => by cases h⟩
 rcases h.1.cells with h0 | ⟨b, off, e, hc⟩
 · exact .inl (by omega)
 · refine .inr ⟨b, off, e, fun i hi => ?_⟩
   rw [hc i (by omega)]
   have : (bs.take l).getD i 0 = bs.getD i 0 := by rw [List.getD_eq_getElem?_getD, List.getElem?_take, if_pos hi, ← List.getD_eq_getElem?_getD]
   rw [this]

/-- A value that reads as the text s, in every world that has not turned since w. -/
def Reads (w : World) (v : Value) (s : ByteArray) : Prop := ∀ W, Below w.heap.size w W → (convert 38 9 v).run Try.prog W = .ok (.string s) W
theorem Reads.of {w : World} {a : Option Addr} {l c : Nat} {bs : List Nat} (h : Byt w a l c bs) : Reads w (.slice a l c) (str bs) := fun W hW => run_str (h.keep hW (Nat.le_refl _))
theorem Reads.keep {w w' : World} {v : Value} {s : ByteArray} (h : Reads w v s) (hb : Below w.heap.size w w') : Reads w' v s := fun W hW => h W (hb.trans (hW.mono hb.size))
end Go.Proofs.Ytbejincejbnbaaa
namespace Go.Proofs.Ytbejincejbnbaaa
open Go.RowKit Go.OpenShut
set_option linter.unusedVariables false

/-- How things of one kind lie in memory. -/
structure Kind (α : Type) where
 enc : α → List Value
 size : Nat
 ty : TypeId
 sl : TypeId
structure Kind.Ok {α : Type} (K : Kind α) (bytes : Nat) : Prop where
 und : Try.prog.underlying K.sl = some (.slice K.ty)
 info : ∃ i z, Try.prog.info? K.ty = some i ∧ i.zero = some z ∧ i.size = K.size ∧ i.bytes = bytes ∧ z.cells.size = K.size
 len : ∀ x, (K.enc x).length = K.size
 pos : 0 < K.size
 one : ∀ x, ∀ u ∈ K.enc x, u.oneCell' = true
 few : bytes ≤ 1000
variable {α : Type} {K : Kind α} {bytes : Nat} {w w' : World}
def Kind.all (K : Kind α) (l : List α) : List Value := l.flatMap K.enc
theorem Kind.Ok.all_len (hK : K.Ok bytes) : ∀ l : List α, (K.all l).length = l.length * K.size
 | [] => by simp [Kind.all]
 | x :: l => by
   have := Kind.Ok.all_len hK l
   unfold Kind.all at *
   rw [List.flatMap_cons, List.length_append, this, hK.len, List.length_cons, Nat.succ_mul, Nat.add_comm]
theorem Kind.all_app (K : Kind α) (a b : List α) : K.all (a ++ b) = K.all a ++ K.all b := by simp [Kind.all]
theorem Kind.Ok.all_one (hK : K.Ok bytes) (l : List α) : ∀ u ∈ K.all l, u.oneCell' = true := by
 intro u hu
 obtain ⟨x, _, hx⟩ := List.mem_flatMap.1 hu
 exact hK.one x u hx
theorem Kind.Ok.all_at (hK : K.Ok bytes) : ∀ (l : List α) (i : Nat) (x : α), l[i]? = some x → ∀ j, j < K.size → (K.all l)[i * K.size + j]? = (K.enc x)[j]?
 | [], i, x, h, j, hj => by cases h
 | y :: l, 0, x, h, j, hj => by
   cases h
   show ((y :: l).flatMap K.enc)[0 * K.size + j]? = _
   rw [List.flatMap_cons, Nat.zero_mul, Nat.zero_add, List.getElem?_append_left (by rw [hK.len]; exact hj)]
 | y :: l, i + 1, x, h, j, hj => by
   have ih := Kind.Ok.all_at hK l i x h j hj
   show ((y :: l).flatMap K.enc)[(i + 1) * K.size + j]? = _
   rw [List.flatMap_cons, List.getElem?_append_right (by rw [hK.len, Nat.succ_mul]; omega), hK.len, show (i + 1) * K.size + j - K.size = i * K.size + j by rw [Nat.succ_mul]; omega]
   exact ih
/-- A slice reads as l. -/
structure RowAt (K : Kind α) (w : World) (ad : Option Addr) (len cap : Nat) (l : List α) : Prop where
 length : l.length = len
 fits : len ≤ cap
 room : ad = none → cap = 0
 cells : len = 0 ∨ ∃ b off, ad = some ⟨b, off, none⟩ ∧ b < w.heap.size ∧ ∀ i x, l[i]? = some x → ∀ j u, (K.enc x)[j]? = some u → w.cell? ⟨b, off + (i * K.size + j), none⟩ = some u
theorem RowAt.keep {ad : Option Addr} {len cap : Nat} {l : List α} (h : RowAt K w ad len cap l) (hb : Below w.heap.size w w') : RowAt K w' ad len cap l := by
 refine ⟨h.length, h.fits, h.room, ?_⟩
 rcases h.cells with h0 | ⟨b, off, e, hlt, hc⟩
 · exact .inl h0
 · refine .inr ⟨b, off, e, Nat.lt_of_lt_of_le hlt hb.size, fun i x hi j u hj => ?_⟩
   rw [hb.cell (p := ⟨b, off + (i * K.size + j), none⟩) hlt]
   exact hc i x hi j u hj
/-- Every block but one is as it was, and the row does not lie in that one. -/
theorem RowAt.grown {ad : Option Addr} {len cap : Nat} {l : List α} {r : Option Nat} (h : RowAt K w ad len cap l) (hg : w.grownBy w' r) (hr : ∀ a, ad = some a → some a.block ≠ r) : RowAt K w' ad len cap l := by
 refine ⟨h.length, h.fits, h.room, ?_⟩
 rcases h.cells with h0 | ⟨b, off, e, hlt, hc⟩
 · exact .inl h0
 · exact .inr ⟨b, off, e, Nat.lt_of_lt_of_le hlt hg.size, fun i x hi j u hj => hg.cell (hc i x hi j u hj) (show some b ≠ r from hr _ e)⟩
theorem rowAt_nil (w : World) : RowAt K w none 0 0 ([] : List α) := ⟨rfl, Nat.le_refl _, fun _ => rfl, .inl rfl⟩
theorem RowAt.zero (w : World) {ad : Option Addr} {cap : Nat} (h : ad = none → cap = 0) : RowAt K w ad 0 cap ([] : List α) := ⟨rfl, Nat.zero_le _, h, .inl rfl⟩
/-- The thing at i. -/
theorem RowAt.get {ad : Option Addr} {len cap : Nat} {l : List α} (h : RowAt K w ad len cap l) {i : Nat} (hi : i < len) :
 ∃ b off x, ad = some ⟨b, off, none⟩ ∧ b < w.heap.size ∧ l[i]? = some x ∧ ∀ j u, (K.enc x)[j]? = some u → w.cell? ⟨b, off + (i * K.size + j), none⟩ = some u := by
 have hl := h.length
 rcases h.cells with h0 | ⟨b, off, e, hlt, hc⟩
 · omega
 · have hx : l[i]? = some (l[i]'(by omega)) := List.getElem?_eq_getElem (by omega)
   exact ⟨b, off, _, e, hlt, hx, hc i _ hx⟩
theorem RowAt.news (hK : K.Ok bytes) {b off len cap : Nat} {l : List α} (h : RowAt K w (some ⟨b, off, none⟩) len cap l) : ∀ j u, (K.all l)[j]? = some u → w.cell? ((⟨b, off, none⟩ : Addr).add j) = some u := by
 intro j u hj
 have hjl : j < l.length * K.size := by
  have := (List.getElem?_eq_some_iff.1 hj).1
  rwa [hK.all_len] at this
 have hp := hK.pos
 have hil : j / K.size < l.length := Nat.div_lt_of_lt_mul (by rwa [Nat.mul_comm])
 have hx : l[j / K.size]? = some (l[j / K.size]'hil) := List.getElem?_eq_getElem hil
 have hm := Nat.mod_lt j hp
 have he : j / K.size * K.size + j % K.size = j := by rw [Nat.mul_comm]; exact Nat.div_add_mod j K.size
 have h1 := hK.all_at l _ _ hx _ hm
 rw [he] at h1
 rw [add_at]
 rcases h.cells with h0 | ⟨b', off', e, _, hc⟩
 · have hl0 : l.length = 0 := by have := h.length; omega
   exact absurd hil (by rw [hl0]; exact Nat.not_lt_zero _)
 · cases e
   have h2 := hc _ _ hx _ u (by rw [← h1]; exact hj)
   rwa [he] at h2
/-- A row that is the call's own. -/
def OwnRow (K : Kind α) (w : World) (base : Nat) (v : Value) (l : List α) : Prop := w.ownsRow base K.ty K.size v l.length (K.all l)
theorem ownRow_nil (K : Kind α) (w : World) (base : Nat) : OwnRow K w base (.slice none 0 0) [] := World.ownsRow_nil w base K.ty K.size
theorem OwnRow.low {base base' : Nat} {v : Value} {l : List α} (h : OwnRow K w base v l) (hb : base' ≤ base) : OwnRow K w base' v l := by
 refine ⟨h.1, ?_⟩
 rcases h.2 with h0 | ⟨g, cap, cur, h1, h2, h3⟩
 · exact .inl h0
 · exact .inr ⟨g, cap, cur, h1, Nat.le_trans hb h2, h3⟩
theorem OwnRow.on {base : Nat} {v : Value} {l : List α} (h : OwnRow K w base v l) (hb : Below w.heap.size w w') : OwnRow K w' base v l := owns_keep h hb (Nat.le_refl _)
theorem OwnRow.alloc {base : Nat} {v : Value} {l : List α} (h : OwnRow K w base v l) (o : Obj) : OwnRow K (w.alloc o) base v l := World.ownsRow.alloc h o
theorem OwnRow.lt {base : Nat} {v : Value} {l : List α} (h : OwnRow K w base v l) : ∀ k, v.ownBlock = some k → base ≤ k ∧ k < w.heap.size := World.ownsRow.lt h
theorem OwnRow.grown {base : Nat} {v : Value} {l : List α} {r : Option Nat} (h : OwnRow K w base v l) (hg : w.grownBy w' r) (hr : ∀ k, v.ownBlock = some k → some k ≠ r) : OwnRow K w' base v l := by
 refine World.ownsRow.kept h hg ?_
 cases hv : v.ownBlock with
 | none => exact .inl rfl
 | some k => exact .inr (hr k hv)
theorem OwnRow.at (hK : K.Ok bytes) {base : Nat} {v : Value} {l : List α} (h : OwnRow K w base v l) : ∃ ad cap, v = .slice ad l.length cap ∧ RowAt K w ad l.length cap l ∧ (∀ a, ad = some a → base ≤ a.block ∧ a.block < w.heap.size) := by
 rcases h.2 with ⟨rfl, h0⟩ | ⟨g, cap, cur, rfl, hb, hh, hc, _, hs, ht⟩
 · refine ⟨none, 0, by rw [h0], ?_, fun a ha => by cases ha⟩
   obtain rfl := List.eq_nil_of_length_eq_zero h0
   exact rowAt_nil w
 · refine ⟨_, cap, rfl, ⟨rfl, hc, (fun e => by cases e), .inr ⟨g, 0, rfl, (Array.getElem?_eq_some_iff.1 hh).1, fun i x hi j u hj => ?_⟩⟩, fun a ha => by cases ha; exact ⟨hb, (Array.getElem?_eq_some_iff.1 hh).1⟩⟩
   have hjs : j < K.size := by have := (List.getElem?_eq_some_iff.1 hj).1; rwa [hK.len] at this
   have h1 := hK.all_at l i x hi j hjs
   rw [hj, ← ht, List.getElem?_take] at h1
   rw [Nat.zero_add, cell_of_row w g _ _ _ _ hh]
   split at h1
   · simpa using h1
   · cases h1
/-- A block that was laid whole. -/
theorem ownRow_lit (hK : K.Ok bytes) (w : World) (base : Nat) (l : List α) (hb : base ≤ w.heap.size) (hm : l.length ≤ 1000000) (cs : Array Value) (hcs : cs = (K.all l).toArray) (n : Nat) (hn : l.length = n) : OwnRow K (w.alloc (.cells cs K.ty)) base (.slice (some ⟨w.heap.size, 0, none⟩) n n) l := by
 subst hcs hn
 have := World.ownsRow_lit (e := K.ty) (size := K.size) (base := base) w (K.all l).toArray l.length hb (by unfold maxLen; omega) (by rw [List.size_toArray, hK.all_len])
 unfold OwnRow
 simpa using this
theorem rowAt_lit (hK : K.Ok bytes) (w : World) (l : List α) (hm : l.length ≤ 1000000) (cs : Array Value) (hcs : cs = (K.all l).toArray) (n : Nat) (hn : l.length = n) : RowAt K (w.alloc (.cells cs K.ty)) (some ⟨w.heap.size, 0, none⟩) n n l := by
 obtain ⟨ad, cap, e, h, _⟩ := (ownRow_lit hK w 0 l (Nat.zero_le _) hm cs hcs n hn).at hK
 cases e
 exact h
theorem append_block (hK : K.Ok bytes) (w w' : World) (base : Nat) (v v' : Value) (l m : List α) (ty : Nat) (hown : OwnRow K w base v l) (a : Addr) (cap : Nat) (hnews : ∀ j u, (K.all m)[j]? = some u → w.cell? (a.add j) = some u) (hn : (l.length + m.length) * bytes ≤ 140737488355328) (hn2 : l.length + m.length ≤ 140737488355328)
 (hrun : (Builtin.append_ #[K.sl, K.sl] ty #[v, .slice (some a) m.length cap]).run Try.prog w = .ok v' w') : ∀ k, v'.ownBlock = some k → v.ownBlock = some k ∨ k = w.heap.size := by
 obtain ⟨i, z, hi, hz, hs, hby, hzs⟩ := hK.info
 have hu := hK.und
 have hml := hK.all_len m
 rw [← hs] at hml
 intro k hk
 rcases hown.2 with ⟨rfl, h0⟩ | ⟨g, cp, cur, rfl, hbg, hg, hnc, hcm, hcs, htake⟩
 · by_cases hm : m.length = 0
   · have : m = [] := List.eq_nil_of_length_eq_zero hm
     subst this
     have hrun2 : (Builtin.append_ #[K.sl, K.sl] ty #[.slice none 0 0, .slice (some a) 0 cap]).run Try.prog w = .ok (.slice none 0 0) w := by
      simp [Builtin.append_, run_underlying hu, sizeOf, typeInfo, hi, Builtin.lenOf, Builtin.firstCells, loadCells, loadCellsFrom]
     rw [List.length_nil, hrun2] at hrun
     injection hrun with e1 e2
     subst e1
     cases hk
   · rw [run_append_nil (P := Try.prog) w K.sl ty K.ty i z hu hi hz a m.length cap (K.all m) hml hnews (by omega) (by omega) (by rw [hby]; have : m.length * bytes ≤ (l.length + m.length) * bytes := Nat.mul_le_mul_right _ (by omega); omega)] at hrun
     injection hrun with e1 e2
     subst e1
     cases hk
     exact .inr rfl
 · by_cases hroom : l.length + m.length ≤ cp
   · rw [run_append_room (P := Try.prog) w K.sl ty K.ty i hu hi g l.length cp cur hg a m.length cap (K.all m) hml hnews (hK.all_one m) hroom (by rw [hml, hcs, ← hs, ← Nat.add_mul]; exact Nat.mul_le_mul_right _ hroom)] at hrun
     injection hrun with e1 e2
     subst e1
     exact .inl hk
   · have hlo : (K.all l).length = l.length * i.size := by rw [hs]; exact hK.all_len l
     rw [run_append_grow (P := Try.prog) w K.sl ty K.ty i z hu hi hz ⟨g, 0, none⟩ l.length cp (K.all l) hlo (World.ownsRow.cells hown (g := g) rfl) a m.length cap (K.all m) hml hnews (by omega) (by omega) (growslice_fits (by omega) (by rw [hby]; exact hn))] at hrun
     injection hrun with e1 e2
     subst e1
     cases hk
     exact .inr rfl
/-- append(v, m...), v the call's own, m any row, nil too. -/
theorem run_row_append (hK : K.Ok bytes) (w : World) (base : Nat) (v : Value) (l m : List α) (ty : Nat) (hown : OwnRow K w base v l) (ad : Option Addr) (n cap : Nat) (hr : RowAt K w ad n cap m) (hn : (l.length + n) * bytes ≤ 140737488355328) (hn2 : l.length + n ≤ 140737488355328) (hbase : base ≤ w.heap.size) :
 ∃ v' w', (Builtin.append_ #[K.sl, K.sl] ty #[v, .slice ad n cap]).run Try.prog w = .ok v' w' ∧ OwnRow K w' base v' (l ++ m) ∧ w.grownBy w' v.ownBlock ∧ (v ≠ .slice none 0 0 → v' ≠ .slice none 0 0) ∧ (∀ k, v'.ownBlock = some k → v.ownBlock = some k ∨ w.heap.size ≤ k) := by
 obtain ⟨i, z, hi, hz, hs, hby, hzs⟩ := hK.info
 obtain rfl := hr.length
 have hu := hK.und
 rcases ad with _ | ⟨b, off, x⟩
 · have hc := hr.room rfl
   have hf := hr.fits
   obtain rfl : m = [] := List.eq_nil_of_length_eq_zero (by omega)
   subst hc
   refine ⟨v, w, ?_, by rw [List.append_nil]; exact hown, ⟨rfl, rfl, rfl, Nat.le_refl _, fun _ _ _ => rfl⟩, fun h => h, fun k hk => .inl hk⟩
   exact run_append_owned_none (P := Try.prog) (w := w) base K.sl ty K.ty i K.size hu hi v _ _ hown
 · have hx : x = none ∨ m.length = 0 := by
    rcases hr.cells with h0 | ⟨_, _, e, _⟩
    · exact .inr h0
    · cases e; exact .inl rfl
   have hnews : ∀ j u, (K.all m)[j]? = some u → w.cell? ((⟨b, off, x⟩ : Addr).add j) = some u := by
    intro j u hj
    rcases hx with rfl | h0
    · exact hr.news hK j u hj
    · obtain rfl := List.eq_nil_of_length_eq_zero h0
      simp [Kind.all] at hj
   obtain ⟨v', w', hrun, h2, h3, h4⟩ := run_append_own (P := Try.prog) w base K.sl ty K.ty i z K.size bytes hu hi hz hs hby hzs hK.pos v l.length (K.all l) hown ⟨b, off, x⟩ m.length cap (K.all m) (hK.all_len m) hnews (hK.all_one m) (by unfold maxLen; omega) hn hbase
   refine ⟨v', w', hrun, ?_, h3, fun hne h => hne (h4.1 h).1, ?_⟩
   · unfold OwnRow
     rw [K.all_app, List.length_append]
     exact h2
   · intro k hk
     rcases append_block hK w w' base v v' l m ty hown _ cap hnews hn hn2 hrun k hk with h | h
     · exact .inl h
     · exact .inr (by omega)
/-- What an append leaves. -/
def Appended (K : Kind α) (w : World) (base : Nat) (v : Value) (l : List α) (v' : Value) (w' : World) : Prop :=
 OwnRow K w' base v' l ∧ w.grownBy w' v.ownBlock ∧ (v ≠ .slice none 0 0 → v' ≠ .slice none 0 0) ∧ (∀ k, v'.ownBlock = some k → v.ownBlock = some k ∨ w.heap.size ≤ k)
/-- The operation in a plain list of operations, behind a guard that says yes or with none. -/
theorem list_row {w : World} {ops : Array Oper} {rest : List Oper} {o : Oper} {a : Act} {Q : Exit → Act → World → Prop} (hw : Region.wanted o (yielded ops a.tmps) = true) (hK : K.Ok bytes) (s x : Operand)
 (ho : o.op = .call { callee := .builtin .append, args := #[s, x], argTypes := #[K.sl, K.sl] })
 (base : Nat) (l m : List α) (v : Value) (hs : a.eval s = v) (hown : OwnRow K w base v l) (hbase : base ≤ w.heap.size)
 (ad : Option Addr) (n cap : Nat) (hx : a.eval x = .slice ad n cap) (hr : RowAt K w ad n cap m) (hn : l.length + n ≤ 100000000000)
 (h : ∀ v' w', Appended K w base v (l ++ m) v' w' → wpList Try.prog ops Q rest (a.put o.dst v') w') :
 wpList Try.prog ops Q (o :: rest) a w := by
 refine BigFrame.wpList_want hw fun C hC => ?_
 have hf := hK.few
 obtain ⟨v', w', hrun, h2⟩ := run_row_append hK w base v l m o.type hown ad n cap hr (Nat.le_trans (Nat.mul_le_mul hn hf) (by omega)) (by omega) hbase
 unfold Oper.wp execOp
 simp only [ho, resolve, invoke, builtin, Sem.run_bind, Sem.run_pure, Result.andThen_ok, List.map_toArray, List.map_cons, List.map_nil, hs, hx, hrun]
 exact hC _ _ (h v' w' h2)
/-- The operation in a region that draws its order. -/
theorem held_row {w : World} {ops : Array Oper} {o : Oper} {a : Act} {C : Act → World → Prop} {Q : Exit → Act → World → Prop} {Z : Prop} [Decidable (Region.wanted o (yielded ops a.tmps) = true)] (hw : Region.wanted o (yielded ops a.tmps) = true) (hK : K.Ok bytes) (s x : Operand)
 (ho : o.op = .call { callee := .builtin .append, args := #[s, x], argTypes := #[K.sl, K.sl] })
 (base : Nat) (l m : List α) (v : Value) (hs : a.eval s = v) (hown : OwnRow K w base v l) (hbase : base ≤ w.heap.size)
 (ad : Option Addr) (n cap : Nat) (hx : a.eval x = .slice ad n cap) (hr : RowAt K w ad n cap m) (hn : l.length + n ≤ 100000000000)
 (h : ∀ v' w', Appended K w base v (l ++ m) v' w' → C (a.put o.dst v') w') :
 if Region.wanted o (yielded ops a.tmps) = true then Oper.wp Try.prog o a w C Q else Z := by
 rw [if_pos hw]
 have hf := hK.few
 obtain ⟨v', w', hrun, h2⟩ := run_row_append hK w base v l m o.type hown ad n cap hr (Nat.le_trans (Nat.mul_le_mul hn hf) (by omega)) (by omega) hbase
 unfold Oper.wp execOp
 simp only [ho, resolve, invoke, builtin, Sem.run_bind, Sem.run_pure, Result.andThen_ok, List.map_toArray, List.map_cons, List.map_nil, hs, hx, hrun]
 exact h v' w' h2
end Go.Proofs.Ytbejincejbnbaaa
namespace Go.Proofs.Ytbejincejbnbaaa
open Go.RowKit
set_option linter.unusedVariables false

def byteK : Kind Nat := ⟨fun n => [.int .u8 (n : Int)], 1, 5, 38⟩
theorem byteK_ok : byteK.Ok 1 where
 und := Try.underlying38
 info := by
  obtain ⟨i, hi, hz, hs, hb⟩ := info_parts info5
  exact ⟨i, _, hi, hz, hs, hb, rfl⟩
 len := fun _ => rfl
 pos := by decide
 one := fun r u hu => by
  obtain rfl := List.mem_singleton.1 hu
  rfl
 few := by decide
theorem byteK_all : ∀ l : List Nat, byteK.all l = vals l
 | [] => rfl
 | x :: l => by
   have := byteK_all l
   unfold Kind.all vals at *
   rw [List.flatMap_cons, this]
   rfl
theorem own_bytes {w : World} {base : Nat} {v : Value} {l : List Nat} : OwnRow byteK w base v l ↔ w.ownsRow base 5 1 v l.length (vals l) := by
 unfold OwnRow
 rw [byteK_all]
 exact Iff.rfl
theorem row_bytes {w : World} {ad : Option Addr} {len cap : Nat} {l : List Nat} (h : Row w ad len cap l) : RowAt byteK w ad len cap l := by
 refine ⟨h.1.length, h.1.fits, h.2, ?_⟩
 have hl := h.1.length
 rcases h.1.cells with h0 | ⟨b, off, e, hc⟩
 · exact .inl h0
 · by_cases h0 : len = 0
   · exact .inl h0
   · refine .inr ⟨b, off, e, World.block_lt_of_cell? w _ (hc 0 (by omega)), fun i x hi j u hj => ?_⟩
     have hil : i < len := by have := (List.getElem?_eq_some_iff.1 hi).1; omega
     rcases j with _ | j
     · cases hj
       have := hc i hil
       rw [List.getD_eq_getElem?_getD, hi] at this
       show w.cell? ⟨b, off + (i * 1 + 0), none⟩ = _
       rw [Nat.mul_one, Nat.add_zero]
       exact this
     · simp [byteK] at hj
/-- 'x[k] ^= ..'. -/
theorem own_turned {w : World} {base g n cap k : Nat} {bs : List Nat} {z : Int} {y : Nat} (h : w.ownsRow base 5 1 (.slice (some ⟨g, 0, none⟩) n cap) n (vals bs)) (hz : z = (y : Int)) : (w.setCell ⟨g, k, none⟩ (.int .u8 z)).ownsRow base 5 1 (.slice (some ⟨g, 0, none⟩) n cap) n (vals (bs.set k y)) := by
 subst hz
 have := (World.ownsRow.stored h k (.int .u8 (y : Int))).1
 have e : (vals bs).set k (.int .u8 (y : Int)) = vals (bs.set k y) := by unfold vals; rw [List.map_set]; rfl
 rwa [e] at this
theorem all_set {bs : List Nat} (h : AllB bs) (k y : Nat) (hy : y < 256) : AllB (bs.set k y) := by
 intro x hx
 rcases List.mem_or_eq_of_mem_set hx with h1 | rfl
 · exact h x h1
 · exact hy
theorem own_byt {w : World} {base n : Nat} {v : Value} {l : List Nat} (h : OwnRow byteK w base v l) (ha : AllB l) (hn : l.length = n) : ∃ ad cap, v = .slice ad n cap ∧ Row w ad n cap l := by
 have h1 := own_bytes.1 h
 rw [hn] at h1
 obtain ⟨ad', cap', e, h2⟩ := owns_any h1 ha
 exact ⟨ad', cap', e, h2⟩
theorem byte_get {w : World} {ad : Option Addr} {len cap : Nat} {l : List Nat} (h : RowAt byteK w ad len cap l) {i : Nat} (hi : i < len) : ∃ b off k, ad = some ⟨b, off, none⟩ ∧ b < w.heap.size ∧ l[i]? = some k ∧ w.cell? ⟨b, off + i, none⟩ = some (.int .u8 (k : Int)) := by
 obtain ⟨b, off, k, e, hb, hk, hc⟩ := h.get hi
 have := hc 0 _ rfl
 rw [show i * byteK.size + 0 = i from Nat.mul_one i] at this
 exact ⟨b, off, k, e, hb, hk, this⟩
theorem byt_of {w : World} {ad : Option Addr} {len cap : Nat} {l : List Nat} (h : RowAt byteK w ad len cap l) (ha : AllB l) : Byt w ad len cap l := by
 refine ⟨h.length, h.fits, ha, ?_⟩
 rcases Nat.eq_zero_or_pos len with h0 | h0
 · exact .inl h0
 · obtain ⟨b, off, k, rfl, hb, hk, hc⟩ := byte_get h h0
   refine .inr ⟨b, off, rfl, fun i hi => ?_⟩
   obtain ⟨b2, off2, k2, e, _, hk2, hc2⟩ := byte_get h hi
   cases e
   rw [hc2, List.getD_eq_getElem?_getD, hk2]
   rfl
end Go.Proofs.Ytbejincejbnbaaa
namespace Go.Proofs.Ytbejincejbnbaaa
open Go.RowKit
open Go.SeqMath
open Go.BatMath
set_option linter.unusedVariables false

/-- A slice of records reads as l. -/
structure RecsAt (w : World) (ad : Option Addr) (len cap : Nat) (l : List Rc) : Prop where
 length : l.length = len
 fits : len ≤ cap
 room : ad = none → cap = 0
 cells : len = 0 ∨ ∃ b off, ad = some ⟨b, off, none⟩ ∧ b < w.heap.size ∧ ∀ i r, l[i]? = some r → w.cell? ⟨b, off + i * 2, none⟩ = some (.string r.key) ∧ w.cell? ⟨b, off + i * 2 + 1, none⟩ = some (.string r.val)
theorem RecsAt.keep {w w' : World} {ad : Option Addr} {len cap : Nat} {l : List Rc} (h : RecsAt w ad len cap l) (hb : Below w.heap.size w w') : RecsAt w' ad len cap l := by
 refine ⟨h.length, h.fits, h.room, ?_⟩
 rcases h.cells with h0 | ⟨b, off, e, hlt, hc⟩
 · exact .inl h0
 · refine .inr ⟨b, off, e, Nat.lt_of_lt_of_le hlt hb.size, fun i r hi => ?_⟩
   obtain ⟨h1, h2⟩ := hc i r hi
   exact ⟨(hb.cell (p := ⟨b, _, none⟩) hlt).trans h1, (hb.cell (p := ⟨b, _, none⟩) hlt).trans h2⟩
theorem recsAt_nil (w : World) : RecsAt w none 0 0 [] := ⟨rfl, Nat.le_refl _, fun _ => rfl, .inl rfl⟩
theorem refSeq_any (n : Int) (w : World) (r : Bool) (hr : rightB n = r) :
 Calls Try.prog 86 #[.int .i64 n] w fun e w' => e = .returned (.bool r) ∧ w = w' := by
 subst hr
 by_cases h0 : 0 ≤ n
 · by_cases h1 : n ≤ 2147483647
   · rw [right_yes h0 h1]
     go_enter Try.func86, Try.ntmps86
     go_wp2
     go_ret
     exact ⟨rfl, rfl⟩
   · have h1' : 2147483647 < n := by omega
     rw [right_no (.inr h1')]
     go_enter Try.func86, Try.ntmps86
     go_wp2
     go_ret
     exact ⟨rfl, rfl⟩
 · have h0' : n < 0 := by omega
   rw [right_no (.inl h0')]
   go_enter Try.func86, Try.ntmps86
   go_wp2
   go_ret
   exact ⟨rfl, rfl⟩
theorem refHead_any (w : World) (b0 b1 b2 b3 : Int) (b4 : Bool) (b5 : Int) (ad : Option Addr) (len cap : Nat) (r : Bool) (hr : (decide (0 ≤ b1) && (decide (0 ≤ b2) && decide (b2 ≤ 32767))) = r) :
 Calls Try.prog 85 #[.agg #[.int .i64 b0, .int .i64 b1, .int .i64 b2, .int .i64 b3, .bool b4, .int .i64 b5, .slice ad len cap]] w fun e w' => e = .returned (.bool r) ∧ Below w.heap.size w w' := by
 by_cases h0 : 0 ≤ b1
 · by_cases h1 : 0 ≤ b2
   · by_cases h2 : b2 ≤ 32767
     · obtain rfl : r = true := by rw [← hr]; simp [h0, h1, h2]
       clear hr
       go_enter Try.func85, Try.ntmps85
       go_wp2
       go_ret
       exact ⟨rfl, (Below.refl _ _).alloc (Nat.le_refl _) _⟩
     · obtain rfl : r = false := by rw [← hr]; simp [h2]
       have h2' : 32767 < b2 := by omega
       clear hr
       go_enter Try.func85, Try.ntmps85
       go_wp2
       go_ret
       exact ⟨rfl, (Below.refl _ _).alloc (Nat.le_refl _) _⟩
   · obtain rfl : r = false := by rw [← hr]; simp [h1]
     have h1' : b2 < 0 := by omega
     clear hr
     go_enter Try.func85, Try.ntmps85
     go_wp2
     go_ret
     exact ⟨rfl, (Below.refl _ _).alloc (Nat.le_refl _) _⟩
 · obtain rfl : r = false := by rw [← hr]; simp [h0]
   have h0' : b1 < 0 := by omega
   clear hr
   go_enter Try.func85, Try.ntmps85
   go_wp2
   go_ret
   exact ⟨rfl, (Below.refl _ _).alloc (Nat.le_refl _) _⟩
/-- A block that is one batch, field by field. -/
def BoxAt (w : World) (k : Nat) (b0 b1 b2 b3 : Int) (b4 : Bool) (b5 : Int) (v : Value) : Prop := w.heap[k]? = some (.cells #[.int .i64 b0, .int .i64 b1, .int .i64 b2, .int .i64 b3, .bool b4, .int .i64 b5, v] 58 (0, 0))
section
variable {w : World} {k : Nat} {b0 b1 b2 b3 : Int} {b4 : Bool} {b5 : Int} {v : Value}
theorem BoxAt.c0 (h : BoxAt w k b0 b1 b2 b3 b4 b5 v) : w.cell? ⟨k, 0, none⟩ = some (.int .i64 b0) := by rw [cell_of_row _ _ 0 _ _ _ h]; rfl
theorem BoxAt.c1 (h : BoxAt w k b0 b1 b2 b3 b4 b5 v) : w.cell? ⟨k, 1, none⟩ = some (.int .i64 b1) := by rw [cell_of_row _ _ 1 _ _ _ h]; rfl
theorem BoxAt.c2 (h : BoxAt w k b0 b1 b2 b3 b4 b5 v) : w.cell? ⟨k, 2, none⟩ = some (.int .i64 b2) := by rw [cell_of_row _ _ 2 _ _ _ h]; rfl
theorem BoxAt.c3 (h : BoxAt w k b0 b1 b2 b3 b4 b5 v) : w.cell? ⟨k, 3, none⟩ = some (.int .i64 b3) := by rw [cell_of_row _ _ 3 _ _ _ h]; rfl
theorem BoxAt.c4 (h : BoxAt w k b0 b1 b2 b3 b4 b5 v) : w.cell? ⟨k, 4, none⟩ = some (.bool b4) := by rw [cell_of_row _ _ 4 _ _ _ h]; rfl
theorem BoxAt.c5 (h : BoxAt w k b0 b1 b2 b3 b4 b5 v) : w.cell? ⟨k, 5, none⟩ = some (.int .i64 b5) := by rw [cell_of_row _ _ 5 _ _ _ h]; rfl
theorem BoxAt.c6 (h : BoxAt w k b0 b1 b2 b3 b4 b5 v) : w.cell? ⟨k, 6, none⟩ = some v := by rw [cell_of_row _ _ 6 _ _ _ h]; rfl
theorem BoxAt.free (h : BoxAt w k b0 b1 b2 b3 b4 b5 v) (j : Nat) : w.frozen? ⟨k, j, none⟩ = false := frozen_of_row w k j _ _ h
theorem BoxAt.lt (h : BoxAt w k b0 b1 b2 b3 b4 b5 v) : k < w.heap.size := lt_of_block h
theorem BoxAt.keep {w' : World} {B : Nat} (h : BoxAt w k b0 b1 b2 b3 b4 b5 v) (hb : Below B w w') (hk : k < B) : BoxAt w' k b0 b1 b2 b3 b4 b5 v := by
 unfold BoxAt at *
 rw [hb.block k hk]
 exact h
theorem BoxAt.on {w' : World} (h : BoxAt w k b0 b1 b2 b3 b4 b5 v) (hb : Below w.heap.size w w') : BoxAt w' k b0 b1 b2 b3 b4 b5 v := h.keep hb h.lt
theorem boxAt_new (w : World) (b0 b1 b2 b3 : Int) (b4 : Bool) (b5 : Int) (v : Value) : BoxAt (w.alloc (.cells #[.int .i64 b0, .int .i64 b1, .int .i64 b2, .int .i64 b3, .bool b4, .int .i64 b5, v] 58)) w.heap.size b0 b1 b2 b3 b4 b5 v := heap_alloc_new w _
end
end Go.Proofs.Ytbejincejbnbaaa
namespace Go.Proofs.Ytbejincejbnbaaa
open Go.RowKit
open Go.SeqMath
open Go.BatMath
set_option linter.unusedVariables false

theorem bcell {W w1 : World} (hb : Below W.heap.size W w1) : (∀ b o, b < W.heap.size → w1.cell? ⟨b, o, none⟩ = W.cell? ⟨b, o, none⟩) ∧ (∀ b o, b < W.heap.size → w1.frozen? ⟨b, o, none⟩ = W.frozen? ⟨b, o, none⟩) :=
 ⟨fun b o h => hb.cell (p := ⟨b, o, none⟩) h, fun b o h => hb.frozen (p := ⟨b, o, none⟩) h⟩
/- rightE, shape by shape -/
theorem e_low {b : Bat} (h : b.base < 0) : rightE b = 18 := by unfold rightE; rw [if_pos (.inl h)]
theorem e_high {b : Bat} (h : 1099511627776 < b.base) : rightE b = 18 := by unfold rightE; rw [if_pos (.inr h)]
theorem e_mark {b : Bat} (h0 : 0 ≤ b.base) (h1 : b.base ≤ 1099511627776) (hm : b.marker ≠ 0) : rightE b = if (b.marker = 1 ∨ b.marker = 2) ∧ headB b = true ∧ b.seq = -1 ∧ b.txn = true ∧ b.recs = [] then 0 else 12 := by
 unfold rightE; rw [if_neg (by omega), if_pos hm]
theorem e_data {b : Bat} (h0 : 0 ≤ b.base) (h1 : b.base ≤ 1099511627776) (hm : b.marker = 0) (h : ¬ ((noneB b = true ∨ headB b = true ∧ rightB b.seq = true) ∧ b.recs ≠ [])) : rightE b = 12 := by
 unfold rightE; rw [if_neg (by omega), if_neg (by omega), if_neg h]
theorem e_long {b : Bat} (h0 : 0 ≤ b.base) (h1 : b.base ≤ 1099511627776) (hm : b.marker = 0) (h : (noneB b = true ∨ headB b = true ∧ rightB b.seq = true) ∧ b.recs ≠ []) (hl : 16 < b.recs.length ∨ ∃ r ∈ b.recs, longRec r) : rightE b = 13 := by
 unfold rightE; rw [if_neg (by omega), if_neg (by omega), if_pos h, if_pos hl]
theorem e_fine {b : Bat} (h0 : 0 ≤ b.base) (h1 : b.base ≤ 1099511627776) (hm : b.marker = 0) (h : (noneB b = true ∨ headB b = true ∧ rightB b.seq = true) ∧ b.recs ≠ []) (hl : ¬ (16 < b.recs.length ∨ ∃ r ∈ b.recs, longRec r)) : rightE b = 0 := by
 unfold rightE; rw [if_neg (by omega), if_neg (by omega), if_pos h, if_neg hl]
def Says (n : Int) (w : World) (e : Ending) (w' : World) : Prop := e = .returned (.int .i64 n) ∧ Below w.heap.size w w'
theorem says_mk {n m : Int} {w w' : World} (h : m = n) (hb : Below w.heap.size w w') : Says n w (.returned (.int .i64 m)) w' := ⟨by rw [h], hb⟩
set_option maxRecDepth 100000 in
set_option maxHeartbeats 1000000 in
/-- Markers. -/
theorem plain_mark (w : World) (b : Bat) (ad : Option Addr) (cap : Nat) (hr : RecsAt w ad b.recs.length cap b.recs) (h0 : 0 ≤ b.base) (h1 : b.base ≤ 1099511627776) (hm : b.marker ≠ 0) :
 Calls Try.prog 71 #[.agg #[.int .i64 b.base, .int .i64 b.prod, .int .i64 b.epoch, .int .i64 b.seq, .bool b.txn, .int .i64 b.marker, .slice ad b.recs.length cap]] w (Says (rightE b) w) := by
 have he := e_mark h0 h1 hm
 have he0 : (b.marker = 1 ∨ b.marker = 2) ∧ headB b = true ∧ b.seq = -1 ∧ b.txn = true ∧ b.recs.length = 0 → rightE b = 0 := by
  rintro ⟨q1, q2, q3, q4, q5⟩
  rw [he, if_pos ⟨q1, q2, q3, q4, List.eq_nil_of_length_eq_zero q5⟩]
 have he1 : ¬ ((b.marker = 1 ∨ b.marker = 2) ∧ headB b = true ∧ b.seq = -1 ∧ b.txn = true ∧ b.recs.length = 0) → rightE b = 12 := by
  intro q
  rw [he, if_neg]
  rintro ⟨q1, q2, q3, q4, q5⟩
  exact q ⟨q1, q2, q3, q4, by rw [q5]; rfl⟩
 obtain ⟨ev, hev⟩ : ∃ ev, ev = rightE b := ⟨_, rfl⟩
 rw [← hev] at he0 he1 ⊢
 have hh : headB b = (decide (0 ≤ b.prod) && (decide (0 ≤ b.epoch) && decide (b.epoch ≤ 32767))) := rfl
 obtain ⟨hd, hdd⟩ : ∃ hd, hd = headB b := ⟨_, rfl⟩
 rw [← hdd] at he0 he1 hh
 clear he hev hdd
 obtain ⟨base, prod, epoch, seq, txn, marker, recs⟩ := b
 simp only at h0 h1 hm he0 he1 hh hr ⊢
 obtain ⟨len, hlen⟩ : ∃ len, len = recs.length := ⟨_, rfl⟩
 rw [← hlen] at he0 he1 hr ⊢
 have HH := Lib.hid hh.symm
 have HE0 := Lib.hid he0
 have HE1 := Lib.hid he1
 have HR := Lib.hid hr
 have hm0 : (marker == 0) = false := by simpa using hm
 have hm0' : (marker != 0) = true := by simpa using hm
 clear hh he0 he1 hr hlen
 by_cases hm12 : marker = 1 ∨ marker = 2
 · cases hd
   · rcases hm12 with rfl | rfl
     all_goals
      go_enter Try.func71, Try.ntmps71
      go_wp2_with (go_at_call 85; refine (refHead_any _ _ _ _ _ _ _ _ _ _ false HH.out).mono ?_; rintro e w1 ⟨rfl, hb⟩; obtain ⟨hc, hf⟩ := bcell hb; have HB := Lib.hid hb; clear hb)
      go_ret
      exact says_mk ((HE1.out (by simp)).symm) (((Below.refl _ _).alloc (Nat.le_refl _) _).trans (HB.out.mono (by simp)))
   · by_cases hs : seq = -1
     · subst hs
       cases txn
       · rcases hm12 with rfl | rfl
         all_goals
          go_enter Try.func71, Try.ntmps71
          go_wp2_with (go_at_call 85; refine (refHead_any _ _ _ _ _ _ _ _ _ _ true HH.out).mono ?_; rintro e w1 ⟨rfl, hb⟩; obtain ⟨hc, hf⟩ := bcell hb; have HB := Lib.hid hb; clear hb)
          go_ret
          exact says_mk ((HE1.out (by simp)).symm) (((Below.refl _ _).alloc (Nat.le_refl _) _).trans (HB.out.mono (by simp)))
       · by_cases hl : len = 0
         · subst hl
           rcases hm12 with rfl | rfl
           all_goals
            go_enter Try.func71, Try.ntmps71
            go_wp2_with (go_at_call 85; refine (refHead_any _ _ _ _ _ _ _ _ _ _ true HH.out).mono ?_; rintro e w1 ⟨rfl, hb⟩; obtain ⟨hc, hf⟩ := bcell hb; have HB := Lib.hid hb; clear hb)
            go_ret
            exact says_mk ((HE0.out (by simp)).symm) (((Below.refl _ _).alloc (Nat.le_refl _) _).trans (HB.out.mono (by simp)))
         · have hl' : 0 < len := by omega
           rcases hm12 with rfl | rfl
           all_goals
            go_enter Try.func71, Try.ntmps71
            go_wp2_with (go_at_call 85; refine (refHead_any _ _ _ _ _ _ _ _ _ _ true HH.out).mono ?_; rintro e w1 ⟨rfl, hb⟩; obtain ⟨hc, hf⟩ := bcell hb; have HB := Lib.hid hb; clear hb)
            go_ret
            exact says_mk ((HE1.out (by simp; omega)).symm) (((Below.refl _ _).alloc (Nat.le_refl _) _).trans (HB.out.mono (by simp)))
     · have hs1 : (seq == -1) = false := by simpa using hs
       have hs2 : (seq != -1) = true := by simpa using hs
       rcases hm12 with rfl | rfl
       all_goals
        go_enter Try.func71, Try.ntmps71
        go_wp2_with (go_at_call 85; refine (refHead_any _ _ _ _ _ _ _ _ _ _ true HH.out).mono ?_; rintro e w1 ⟨rfl, hb⟩; obtain ⟨hc, hf⟩ := bcell hb; have HB := Lib.hid hb; clear hb)
        go_ret
        exact says_mk ((HE1.out (by simp [hs])).symm) (((Below.refl _ _).alloc (Nat.le_refl _) _).trans (HB.out.mono (by simp)))
 · have hm1 : (marker != 1) = true := by simp; omega
   have hm2 : (marker != 2) = true := by simp; omega
   go_enter Try.func71, Try.ntmps71
   go_wp2
   go_ret
   exact says_mk ((HE1.out fun h => hm12 h.1).symm) ((Below.refl _ _).alloc (Nat.le_refl _) _)
end Go.Proofs.Ytbejincejbnbaaa
namespace Go.Proofs.Ytbejincejbnbaaa
open Go.RowKit
open Go.SeqMath
open Go.BatMath
set_option linter.unusedVariables false

def TextsOk (l : List Rc) : Prop := ∀ r ∈ l, r.key.size ≤ 140737488355328 ∧ r.val.size ≤ 140737488355328
/-- What stands before round j of the loop over the records. -/
def PlainAt (w : World) (l : List Rc) (v : Value) (wr : World) : Prop := ∃ j : Nat, j ≤ l.length ∧ v = .int .i64 j ∧ (∀ i r, i < j → l[i]? = some r → ¬ longRec r) ∧ Below w.heap.size w wr
theorem plainAt_start (w W : World) (l : List Rc) (h : Below w.heap.size w W) : PlainAt w l (.int .i64 0) W := ⟨0, Nat.zero_le _, rfl, fun i r hi => by omega, h⟩
theorem not_long {l : List Rc} (h : ∀ i r, i < l.length → l[i]? = some r → ¬ longRec r) : ¬ ∃ r ∈ l, longRec r := by
 rintro ⟨r, hr, hl⟩
 obtain ⟨i, hi, rfl⟩ := List.getElem_of_mem hr
 exact h i _ hi (List.getElem?_eq_getElem hi) hl
theorem none_no {b : Bat} (h : noneB b = false) : b.prod ≠ -1 ∨ b.epoch ≠ -1 ∨ b.seq ≠ -1 ∨ b.txn = true := by
 by_cases h1 : b.prod = -1
 · by_cases h2 : b.epoch = -1
   · by_cases h3 : b.seq = -1
     · cases h4 : b.txn
       · simp [noneB, h1, h2, h3, h4] at h
       · exact .inr (.inr (.inr rfl))
     · exact .inr (.inr (.inl h3))
   · exact .inr (.inl h2)
 · exact .inl h1
set_option maxRecDepth 100000 in
set_option maxHeartbeats 2000000 in
theorem plain_data (w : World) (b : Bat) (ad : Option Addr) (cap : Nat) (hr : RecsAt w ad b.recs.length cap b.recs) (ht : TextsOk b.recs) (h0 : 0 ≤ b.base) (h1 : b.base ≤ 1099511627776) (hm : b.marker = 0) (hL : b.recs.length ≤ 140737488355328) :
 Calls Try.prog 71 #[.agg #[.int .i64 b.base, .int .i64 b.prod, .int .i64 b.epoch, .int .i64 b.seq, .bool b.txn, .int .i64 b.marker, .slice ad b.recs.length cap]] w (Says (rightE b) w) := by
 have hne : (b.recs ≠ []) = (0 < b.recs.length) := propext List.length_pos_iff.symm
 have e12 := e_data h0 h1 hm
 have e13 := e_long h0 h1 hm
 have e0 := e_fine h0 h1 hm
 rw [hne] at e12 e13 e0
 obtain ⟨ev, hev⟩ : ∃ ev, ev = rightE b := ⟨_, rfl⟩
 rw [← hev] at e12 e13 e0 ⊢
 have hh : (decide (0 ≤ b.prod) && (decide (0 ≤ b.epoch) && decide (b.epoch ≤ 32767))) = headB b := rfl
 have hnn : noneB b = true → b.prod = -1 ∧ b.epoch = -1 ∧ b.seq = -1 ∧ b.txn = false := none_of
 have hnf : noneB b = false → b.prod ≠ -1 ∨ b.epoch ≠ -1 ∨ b.seq ≠ -1 ∨ b.txn = true := none_no
 obtain ⟨hd, hdd⟩ : ∃ hd, hd = headB b := ⟨_, rfl⟩
 obtain ⟨nn, hnd⟩ : ∃ nn, nn = noneB b := ⟨_, rfl⟩
 rw [← hdd] at e12 e13 e0 hh
 rw [← hnd] at e12 e13 e0 hnn hnf
 clear hev hdd hnd hne
 obtain ⟨base, prod, epoch, seq, txn, marker, recs⟩ := b
 simp only at h0 h1 hm e12 e13 e0 hh hr ht hL hnn hnf ⊢
 obtain ⟨rt, hrt⟩ : ∃ rt, rightB seq = rt := ⟨_, rfl⟩
 rw [hrt] at e12 e13 e0
 obtain ⟨len, hlen⟩ : ∃ len, len = recs.length := ⟨_, rfl⟩
 rw [← hlen] at e12 e13 e0 hr hL ⊢
 have HH := Lib.hid hh
 have HRT := Lib.hid hrt
 have HN := Lib.hid hnn
 have HF := Lib.hid hnf
 have E12 := Lib.hid e12
 have E13 := Lib.hid e13
 have E0 := Lib.hid e0
 have HR := Lib.hid hr
 have HT := Lib.hid ht
 have HLEN := Lib.hid hlen
 clear hh hrt hnn hnf e12 e13 e0 hr ht hlen
 subst hm
 go_enter Try.func71, Try.ntmps71
 go_upto_region 7 with fail
 go_cut [3] from 6 (fun s3 wx => s3 = .bool nn ∧ Hid (BoxAt wx w.heap.size base prod epoch seq txn 0 (.slice ad len cap)) ∧ Hid (Below w.heap.size w wx))
 case first =>
  cases h1 : (prod == -1)
  · obtain rfl : nn = false := by
     cases nn
     · rfl
     · have := (HN.out rfl).1; subst this; cases h1
    go_wp2
    go_meet
    case rel => exact ⟨rfl, boxAt_new w _ _ _ _ _ _ _, (Below.refl _ _).alloc (Nat.le_refl _) _⟩
  · cases h2 : (epoch == -1)
    · obtain rfl : nn = false := by
       cases nn
       · rfl
       · have := (HN.out rfl).2.1; subst this; cases h2
      go_wp2
      go_meet
      case rel => exact ⟨rfl, boxAt_new w _ _ _ _ _ _ _, (Below.refl _ _).alloc (Nat.le_refl _) _⟩
    · cases h3 : (seq == -1)
      · obtain rfl : nn = false := by
         cases nn
         · rfl
         · have := (HN.out rfl).2.2.1; subst this; cases h3
        go_wp2
        go_meet
        case rel => exact ⟨rfl, boxAt_new w _ _ _ _ _ _ _, (Below.refl _ _).alloc (Nat.le_refl _) _⟩
      · cases txn
        · obtain rfl : nn = true := by
           cases nn
           · rcases HF.out rfl with h | h | h | h
             · exact absurd (by simpa using h1) h
             · exact absurd (by simpa using h2) h
             · exact absurd (by simpa using h3) h
             · cases h
           · rfl
          go_wp2
          go_meet
          case rel => exact ⟨rfl, boxAt_new w _ _ _ _ _ _ _, (Below.refl _ _).alloc (Nat.le_refl _) _⟩
        · obtain rfl : nn = false := by
           cases nn
           · rfl
           · have := (HN.out rfl).2.2.2; cases this
          go_wp2
          go_meet
          case rel => exact ⟨rfl, boxAt_new w _ _ _ _ _ _ _, (Below.refl _ _).alloc (Nat.le_refl _) _⟩
 case rest =>
  obtain ⟨rfl, HBX, HBW⟩ := hcut
  have hblt := HBX.out.lt
  have hc0 := HBX.out.c0
  have hc1 := HBX.out.c1
  have hc2 := HBX.out.c2
  have hc3 := HBX.out.c3
  have hc4 := HBX.out.c4
  have hc5 := HBX.out.c5
  have hc6 := HBX.out.c6
  go_upto_region 8 with fail
  go_cut [82] from 64 (fun s82 wx => s82 = .bool (!((nn || (hd && rt)) && decide (0 < len))) ∧ Hid (BoxAt wx w.heap.size base prod epoch seq txn 0 (.slice ad len cap)) ∧ Hid (Below w.heap.size w wx))
  case first =>
   cases nn
   · cases hd
     · go_wp2_with (go_at_call 85; refine (refHead_any _ _ _ _ _ _ _ _ _ _ false HH.out).mono ?_; rintro e w1 ⟨rfl, hb⟩; obtain ⟨hc, hf⟩ := bcell hb; have HB := Lib.hid hb; clear hb)
       go_meet
       case rel => exact ⟨by simp, HBX.out.on HB.out, HBW.out.trans (HB.out.mono HBW.out.size)⟩
     · cases rt
       · go_wp2_with (first | (go_at_call 85; refine (refHead_any _ _ _ _ _ _ _ _ _ _ true HH.out).mono ?_; rintro e w1 ⟨rfl, hb⟩; obtain ⟨hc, hf⟩ := bcell hb; have HB := Lib.hid hb; clear hb) | (go_at_call 86; refine (refSeq_any _ _ false HRT.out).mono ?_; rintro e w' ⟨rfl, rfl⟩))
         go_meet
         case rel => exact ⟨by simp, HBX.out.on HB.out, HBW.out.trans (HB.out.mono HBW.out.size)⟩
       · by_cases hl : 0 < len
         · have hz : ((len : Int) == 0) = false := by simp; omega
           have hz2 : decide (0 < len) = true := by simp [hl]
           have HZ2 := Lib.hid hz2
           clear hz2
           go_wp2_with (first | (go_at_call 85; refine (refHead_any _ _ _ _ _ _ _ _ _ _ true HH.out).mono ?_; rintro e w1 ⟨rfl, hb⟩; obtain ⟨hc, hf⟩ := bcell hb; have HB := Lib.hid hb; clear hb) | (go_at_call 86; refine (refSeq_any _ _ true HRT.out).mono ?_; rintro e w' ⟨rfl, rfl⟩))
           go_meet
           case rel => exact ⟨by rw [HZ2.out]; simp, HBX.out.on HB.out, HBW.out.trans (HB.out.mono HBW.out.size)⟩
         · obtain rfl : len = 0 := by omega
           clear hl
           go_wp2_with (first | (go_at_call 85; refine (refHead_any _ _ _ _ _ _ _ _ _ _ true HH.out).mono ?_; rintro e w1 ⟨rfl, hb⟩; obtain ⟨hc, hf⟩ := bcell hb; have HB := Lib.hid hb; clear hb) | (go_at_call 86; refine (refSeq_any _ _ true HRT.out).mono ?_; rintro e w' ⟨rfl, rfl⟩))
           go_meet
           case rel => exact ⟨by simp, HBX.out.on HB.out, HBW.out.trans (HB.out.mono HBW.out.size)⟩
   · by_cases hl : 0 < len
     · have hz : ((len : Int) == 0) = false := by simp; omega
       have hz2 : decide (0 < len) = true := by simp [hl]
       have HZ2 := Lib.hid hz2
       clear hz2
       go_wp2
       go_meet
       case rel => exact ⟨by rw [HZ2.out]; simp, HBX, HBW⟩
     · obtain rfl : len = 0 := by omega
       clear hl
       go_wp2
       go_meet
       case rel => exact ⟨by simp, HBX, HBW⟩
  case rest =>
   clear hc0 hc1 hc2 hc3 hc4 hc5 hc6
   obtain ⟨rfl, HBX2, HBW2⟩ := hcut
   obtain ⟨cnd, hcn⟩ : ∃ cnd, cnd = ((nn || (hd && rt)) && decide (0 < len)) := ⟨_, rfl⟩
   rw [← hcn]
   cases cnd
   · have HC := Lib.hid hcn.symm
     clear hcn
     go_wp2
     go_ret
     refine says_mk (E12.out ?_).symm HBW2.out
     rintro ⟨q1, q2⟩
     have hx := HC.out
     rcases q1 with q1 | ⟨q1, q3⟩
     · rw [q1] at hx; simp at hx; omega
     · rw [q1, q3] at hx; simp at hx; omega
   · have hcn2 : (nn = true ∨ hd = true ∧ rt = true) ∧ 0 < len := by simpa using hcn.symm
     have HC := Lib.hid hcn2
     have hlen := hcn2.2
     clear hcn hcn2
     have hc6 := HBX2.out.c6
     by_cases h16 : 16 < len
     · go_wp2
       go_ret
       exact says_mk (E13.out HC.out (.inl h16)).symm HBW2.out
     · have h16' : len ≤ 16 := by omega
       go_wp2_with fail
       go_loopw [90] (fun v90 wr => PlainAt w recs v90 wr) (fun v90 _ => len - (intOf v90).toNat)
       case atStart => exact plainAt_start w _ recs HBW2.out
       case round =>
        obtain ⟨j, hj, rfl, hno, hbel⟩ := hrel
        have HNO := Lib.hid hno
        have HBEL := Lib.hid hbel
        rw [← HLEN.out] at hj
        clear hno hbel
        by_cases hlt : j < len
        · obtain ⟨r, hrj⟩ : ∃ r, recs[j]? = some r := by
           have hjl : j < recs.length := by rw [← HLEN.out]; exact hlt
           exact ⟨_, List.getElem?_eq_getElem hjl⟩
          obtain ⟨bk, off, rfl, hbk, hcell⟩ : ∃ bk off, ad = some ⟨bk, off, none⟩ ∧ bk < w.heap.size ∧ ∀ i r, recs[i]? = some r → wr.cell? ⟨bk, off + i * 2, none⟩ = some (.string r.key) ∧ wr.cell? ⟨bk, off + i * 2 + 1, none⟩ = some (.string r.val) := by
           rcases HR.out.cells with h | ⟨bk, off, e, hlt, hc⟩
           · omega
           · exact ⟨bk, off, e, hlt, fun i r hi => ⟨(HBEL.out.cell (p := ⟨bk, _, none⟩) hlt).trans (hc i r hi).1, (HBEL.out.cell (p := ⟨bk, _, none⟩) hlt).trans (hc i r hi).2⟩⟩
          obtain ⟨hk, hv⟩ := hcell j r hrj
          obtain ⟨hs1, hs2⟩ := HT.out r (List.mem_of_getElem? hrj)
          obtain ⟨ks, vs⟩ := r
          simp only at hk hv hs1 hs2
          have HRJ := Lib.hid hrj
          have HMEM : Hid ((⟨ks, vs⟩ : Rc) ∈ recs) := List.mem_of_getElem? hrj
          clear hcell hrj
          by_cases hk64 : 64 < ks.size
          · go_wp2
            go_ret
            exact says_mk (E13.out HC.out (.inr ⟨⟨ks, vs⟩, HMEM.out, .inl hk64⟩)).symm (HBEL.out.alloc HBEL.out.size _)
          · have hk64' : ks.size ≤ 64 := by omega
            by_cases hv64 : 64 < vs.size
            · go_wp2
              go_ret
              exact says_mk (E13.out HC.out (.inr ⟨⟨ks, vs⟩, HMEM.out, .inr hv64⟩)).symm (HBEL.out.alloc HBEL.out.size _)
            · have hv64' : vs.size ≤ 64 := by omega
              have HNO2 : Hid (∀ i r, i < j + 1 → recs[i]? = some r → ¬ longRec r) := by
               intro i r hi hir
               by_cases e : i = j
               · subst e
                 rw [HRJ.out] at hir
                 cases hir
                 rintro (h | h)
                 · exact hk64 h
                 · exact hv64 h
               · exact HNO.out i r (by omega) hir
              have HLE : Hid (j + 1 ≤ recs.length) := by show _ ≤ _; rw [← HLEN.out]; exact hlt
              go_wp2
              go_roundw
              case rel => (repeat apply Exists.intro); exact ⟨⟨j + 1, HLE.out, by go_num, HNO2.out, HBEL.out.alloc HBEL.out.size _⟩, rfl⟩
              case measure => simp [intOf]; omega
        · obtain rfl : j = len := by omega
          go_wp2
          go_ret
          refine says_mk (E0.out HC.out ?_).symm HBEL.out
          rintro (h | h)
          · omega
          · exact not_long (by rw [← HLEN.out]; exact HNO.out) h
/-- Any batch whose texts are such. -/
theorem plain_any (w : World) (b : Bat) (ad : Option Addr) (cap : Nat) (hr : RecsAt w ad b.recs.length cap b.recs) (ht : TextsOk b.recs) (hL : b.recs.length ≤ 140737488355328) :
 Calls Try.prog 71 #[.agg #[.int .i64 b.base, .int .i64 b.prod, .int .i64 b.epoch, .int .i64 b.seq, .bool b.txn, .int .i64 b.marker, .slice ad b.recs.length cap]] w (Says (rightE b) w) := by
 by_cases h0 : b.base < 0
 · rw [e_low h0]
   go_enter Try.func71, Try.ntmps71
   go_wp2
   go_ret
   exact says_mk rfl ((Below.refl _ _).alloc (Nat.le_refl _) _)
 · have h0' : 0 ≤ b.base := by omega
   by_cases h1 : 1099511627776 < b.base
   · rw [e_high h1]
     go_enter Try.func71, Try.ntmps71
     go_wp2
     go_ret
     exact says_mk rfl ((Below.refl _ _).alloc (Nat.le_refl _) _)
   · by_cases hm : b.marker = 0
     · have e : (.int .i64 b.marker : Value) = .int .i64 b.marker := rfl
       exact plain_data w b ad cap hr ht h0' (by omega) hm hL
     · exact plain_mark w b ad cap hr h0' (by omega) hm
end Go.Proofs.Ytbejincejbnbaaa
namespace Go.Proofs.Ytbejincejbnbaaa
open Go.RowKit
open Go.VarMath hiding AllB
set_option linter.unusedVariables false

theorem wrap_u64' (n : Int) : IntKind.u64.wrap n = n % 18446744073709551616 := by simp [IntKind.wrap, IntKind.bits, IntKind.signed]
theorem u64_keep (a : Nat) (ha : a < 18446744073709551616) : bits .xor .u64 (a : Int) 0 = (a : Int) := by
 have := u64_xor_nat a 0 ha (by decide)
 rw [Nat.xor_zero] at this
 exact this
theorem u64_flip (a : Nat) (ha : a < 18446744073709551616) : bits .xor .u64 (a : Int) 18446744073709551615 = 18446744073709551615 - (a : Int) := by
 show IntKind.u64.wrap ((BitVec.ofInt 64 (a : Int) ^^^ BitVec.ofInt 64 18446744073709551615).toNat : Int) = _
 have h1 : BitVec.ofInt 64 18446744073709551615 = BitVec.allOnes 64 := by decide
 rw [h1, BitVec.xor_allOnes, BitVec.toNat_not, ofInt_u64 a ha, wrap_u64']
 omega
theorem i64_flip (a : Nat) (ha : a < 9223372036854775808) : bits .xor .i64 (a : Int) (-1) = -1 - (a : Int) := by
 show IntKind.i64.wrap ((BitVec.ofInt 64 (a : Int) ^^^ BitVec.ofInt 64 (-1)).toNat : Int) = _
 have h1 : BitVec.ofInt 64 (-1) = BitVec.allOnes 64 := by decide
 rw [h1, BitVec.xor_allOnes, BitVec.toNat_not, ofInt_u64 a (by omega)]
 simp [IntKind.wrap, IntKind.bits, IntKind.signed]
 omega
theorem i64_keep (a : Nat) (ha : a < 9223372036854775808) : bits .xor .i64 (a : Int) 0 = (a : Int) := by
 show IntKind.i64.wrap ((BitVec.ofInt 64 (a : Int) ^^^ BitVec.ofInt 64 0).toNat : Int) = _
 have h1 : BitVec.ofInt 64 0 = 0#64 := by decide
 rw [h1, BitVec.xor_zero, ofInt_u64 a (by omega)]
 simp [IntKind.wrap, IntKind.bits, IntKind.signed]
 omega
theorem and_one (u : Nat) (hu : u < 18446744073709551616) : bits .and .u64 (u : Int) 1 = ((u % 2 : Nat) : Int) := by
 have := u64_and_nat u 1 hu (by decide)
 rw [nat_mask1] at this
 exact this
theorem ret_u64 {a b : Int} (h : a = b) : Ending.returned (.int .u64 a) = .returned (.int .u64 b) := by rw [h]
theorem ret_i64 {a b : Int} (h : a = b) : Ending.returned (.int .i64 a) = .returned (.int .i64 b) := by rw [h]
theorem zig_pos (n : Int) (h0 : 0 ≤ n) (h1 : n ≤ 9223372036854775807) : bits .xor .u64 (n * 2) (n / 9223372036854775808) = ((zig n : Nat) : Int) := by
 have h2 := zig_nonneg h0
 have h3 : n / 9223372036854775808 = 0 := by omega
 have h4 : n * 2 = ((zig n : Nat) : Int) := by omega
 have h5 := zig_lt (n := n) (by omega) h1
 rw [h3, h4, u64_keep _ h5]
theorem zig_minus (n : Int) (h0 : n < 0) (h1 : -9223372036854775808 ≤ n) (a b : Int) (ha : a = n * 2 % 18446744073709551616) (hb : b = 18446744073709551615) : bits .xor .u64 a b = ((zig n : Nat) : Int) := by
 have h2 := zig_neg h0
 have h3 : a = (((18446744073709551615 - zig n : Nat)) : Int) := by omega
 have h5 := zig_lt (n := n) h1 (by omega)
 rw [h3, hb, u64_flip _ (by omega)]
 omega
theorem row_byte (W : World) (n : Nat) (hn : n < 256) : Row (W.alloc (.cells #[.int .u8 (n : Int)] 5)) (some ⟨W.heap.size, 0, none⟩) 1 1 [n] :=
 ⟨(own_new W [n]).byt (fun x hx => by simp at hx; omega) 1 (by simp), fun h => by cases h⟩
theorem wrap_u8' (n : Int) : IntKind.u8.wrap n = n % 256 := by simp [IntKind.wrap, IntKind.bits, IntKind.signed]
end Go.Proofs.Ytbejincejbnbaaa
namespace Go.Proofs.Ytbejincejbnbaaa
open Go.RowKit
open Go.VarMath hiding AllB
set_option linter.unusedVariables false

set_option maxHeartbeats 400000 in
theorem unsigned_any (n : Int) (w : World) (h0 : -9223372036854775808 ≤ n) (h1 : n ≤ 9223372036854775807) :
 Calls Try.prog 61 #[.int .i64 n] w fun e w' => e = .returned (.int .u64 (zig n : Nat)) ∧ w = w' := by
 by_cases hn : 0 ≤ n
 · go_enter Try.func61, Try.ntmps61
   go_wp2
   go_ret
   exact ⟨ret_u64 (zig_pos n hn h1), rfl⟩
 · have hn' : n < 0 := by omega
   go_enter Try.func61, Try.ntmps61
   go_wp2
   go_ret
   exact ⟨ret_u64 (zig_minus n hn' h0 _ _ (by rw [wrap_u64', wrap_u64']; omega) (by rw [wrap_u64']; omega)), rfl⟩
theorem zag_bits (u : Nat) (hu : u < 18446744073709551616) (a : Int) (ha : a = -((u % 2 : Nat) : Int)) : bits .xor .i64 ((u : Int) / 2) a = zag u := by
 have h2 : (u : Int) / 2 = ((u / 2 : Nat) : Int) := by omega
 rw [h2]
 unfold zag
 by_cases h : u % 2 = 0
 · have h3 : a = 0 := by omega
   rw [if_pos h, h3, i64_keep _ (by omega)]
 · have h3 : a = -1 := by omega
   rw [if_neg h, h3, i64_flip _ (by omega)]
   omega
theorem zag_arg (u : Nat) (hu : u < 18446744073709551616) : wrap64 (-wrap64 (bits .and .u64 (u : Int) 1)) = -((u % 2 : Nat) : Int) := by
 rw [and_one u hu]
 have h1 : wrap64 ((u % 2 : Nat) : Int) = ((u % 2 : Nat) : Int) := by unfold wrap64; omega
 rw [h1]; unfold wrap64; omega
theorem signed_any (u : Nat) (w : World) (hu : u < 18446744073709551616) :
 Calls Try.prog 80 #[.int .u64 u] w fun e w' => e = .returned (.int .i64 (zag u)) ∧ w = w' := by
 go_enter Try.func80, Try.ntmps80
 go_wp2
 go_ret
 exact ⟨ret_i64 (zag_bits u hu _ (zag_arg u hu)), rfl⟩
end Go.Proofs.Ytbejincejbnbaaa
