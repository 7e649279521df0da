/- Parts of a proof, merged: Bytes, Grow, MapAs, VarMath, CrcMath, SeqMath, BatMath, ProdMath, Rows2, KindBytes. -/
import Derived.Test.YtmnjobiipfgpoaaGreatRows
import Derived.WalkKit
import Derived.IntWalk
import Derived.Lib.Hide
import Derived.Lib.SlBytesConst
import Derived.Laws.BitsAllLaws
import Derived.Laws.CopyOwn
import Derived.Laws.AppendOwnNone
import Derived.Laws.BytesString
import Derived.BigFrame
import Derived.OpenShut
import Derived.WalkSmall
import Derived.Deep.RegionHeld3
import Derived.OwnWalk
import Derived.BigQuiet
import Derived.Deep.QuietTactic
import Derived.Maps.RangeRun
import Derived.Maps.RangeWalk
import Derived.Maps.Keyed
namespace Go.Proofs.YtmnjobiipfgpoaaGreat
open Go.RowKit Go.OpenShut
set_option linter.unusedVariables false

abbrev AllB (bs : List Nat) : Prop := ∀ x ∈ bs, x < 256
/-- A slice of bytes reads as bs: it is empty, or its cells lie in one block, one behind the other. -/
structure Byt (w : World) (ad : Option Addr) (len cap : Nat) (bs : List Nat) : Prop where
  length : bs.length = len
  fits : len ≤ cap
  all : AllB bs
  cells : len = 0 ∨ ∃ b off, ad = some ⟨b, off, none⟩ ∧ ∀ i, i < len → w.cell? ⟨b, off + i, none⟩ = some (.int .u8 (bs.getD i 0 : Nat))

theorem getD_all {bs : List Nat} (h : AllB bs) (k : Nat) : bs.getD k 0 < 256 := by
  rw [List.getD_eq_getElem?_getD]
  rcases hk : bs[k]? with _ | x
  · decide
  · exact h x (List.mem_of_getElem? hk)
theorem take_all {bs : List Nat} (h : AllB bs) (k : Nat) : AllB (bs.take k) := fun x hx => h x (List.mem_of_mem_take hx)

def byte (b : Nat) : Value := .int .u8 (b : Int)
def vals (bs : List Nat) : List Value := bs.map byte
/-- Block g is known whole: the bytes bs. -/
def Own (w : World) (g : Nat) (bs : List Nat) : Prop := w.heap[g]? = some (.cells (vals bs).toArray 5 (0, 0))
theorem length_vals (bs : List Nat) : (vals bs).length = bs.length := by simp [vals]
theorem vals_append (a b : List Nat) : vals (a ++ b) = vals a ++ vals b := by simp [vals]
theorem Own.cell {w : World} {g : Nat} {bs : List Nat} (h : Own w g bs) (i : Nat) (hi : i < bs.length) : w.cell? ⟨g, i, none⟩ = some (.int .u8 (bs.getD i 0 : Nat)) := by
  rw [cell_of_row w g i _ _ _ h]
  simp [vals, hi, byte]
theorem Own.free {w : World} {g : Nat} {bs : List Nat} (h : Own w g bs) (i : Nat) : w.frozen? ⟨g, i, none⟩ = false := frozen_of_row w g i _ _ h
theorem Own.byt {w : World} {g : Nat} {bs : List Nat} (h : Own w g bs) (ha : AllB bs) (cap : Nat) (hc : bs.length ≤ cap) : Byt w (some ⟨g, 0, none⟩) bs.length cap bs :=
  ⟨rfl, hc, ha, .inr ⟨g, 0, rfl, fun i hi => by rw [Nat.zero_add]; exact h.cell i hi⟩⟩
theorem Own.keep {w w' : World} {g : Nat} {bs : List Nat} (h : Own w g bs) {B : Nat} (hb : Below B w w') (hg : g < B) : Own w' g bs := by
  show w'.heap[g]? = _
  rw [hb.block g hg]; exact h
theorem Own.lt {w : World} {g : Nat} {bs : List Nat} (h : Own w g bs) : g < w.heap.size := (Array.getElem?_eq_some_iff.1 h).1
theorem Own.set {w : World} {g : Nat} {bs : List Nat} (h : Own w g bs) (i : Nat) (x : Nat) : Own (w.setCell ⟨g, i, none⟩ (.int .u8 x)) g (bs.set i x) := by
  have := heap_setCell_same w g i _ _ (.int .u8 x) h
  show (w.setCell ⟨g, i, none⟩ (.int .u8 x)).heap[g]? = some (.cells (vals (bs.set i x)).toArray 5 (0, 0))
  rw [this]
  congr 2
  simp [vals, byte]
theorem Byt.keep {w w' : World} {ad : Option Addr} {len cap : Nat} {bs : List Nat} (h : Byt w ad len cap bs) {B : Nat} (hb : Below B w w') (hB : w.heap.size ≤ B) : Byt w' ad len cap bs := by
  refine ⟨h.length, h.fits, h.all, ?_⟩
  rcases h.cells with h0 | ⟨b, off, e, hc⟩
  · exact .inl h0
  · refine .inr ⟨b, off, e, fun i hi => ?_⟩
    have := hc i hi
    rw [hb.cell (p := ⟨b, off + i, none⟩) (by have := World.block_lt_of_cell? w _ this; exact Nat.lt_of_lt_of_le this hB)]
    exact this
theorem info5 : (Tryz.prog.info? 5).map (fun i => (i.zero, i.size, i.bytes)) = some (some (.int .u8 0), 1, 1) := by kernel_rfl

theorem size5 : (Tryz.prog.info? 5).map (·.size) = some 1 := by kernel_rfl
theorem vals_one (bs : List Nat) : ∀ v ∈ vals bs, v.oneCell' = true := by
  intro v hv
  obtain ⟨b, _, rfl⟩ := List.mem_map.1 hv
  rfl
theorem Byt.source {w : World} {ad : Option Addr} {len cap : Nat} {bs : List Nat} (h : Byt w ad len cap bs) (hp : 0 < len) : ∃ a, ad = some a ∧ ∀ j v, (vals bs)[j]? = some v → w.cell? (a.add j) = some v := by
  rcases h.cells with h0 | ⟨b, off, e, hc⟩
  · omega
  · refine ⟨_, e, fun j v hj => ?_⟩
    have hjl : j < bs.length := by
      have := (List.getElem?_eq_some_iff.1 hj).1
      simpa [vals] using this
    have h1 := hc j (by rw [h.length] at hjl; exact hjl)
    have h2 : (⟨b, off, none⟩ : Addr).add j = ⟨b, off + j, none⟩ := by
      unfold Addr.add
      split
      · rename_i h3; subst h3; rfl
      · rfl
    rw [h2, h1]
    rw [← hj]
    simp [vals, byte, hjl]
theorem Byt.alike {w w' : World} {ad : Option Addr} {len cap : Nat} {bs : List Nat} (h : Byt w ad len cap bs) (hc : ∀ a, w'.cell? a = w.cell? a) : Byt w' ad len cap bs := by
  refine ⟨h.length, h.fits, h.all, ?_⟩
  rcases h.cells with h0 | ⟨b, off, e, hc'⟩
  · exact .inl h0
  · exact .inr ⟨b, off, e, fun i hi => (hc _).trans (hc' i hi)⟩
theorem Byt.drewN {w : World} {ad : Option Addr} {len cap : Nat} {bs : List Nat} (h : Byt w ad len cap bs) (n : Nat) : Byt (w.drewN n) ad len cap bs := h.alike fun a => by simp

theorem add_at (b o j : Nat) : (⟨b, o, none⟩ : Addr).add j = ⟨b, o + j, none⟩ := by
  unfold Addr.add
  split
  · rename_i h; subst h; rfl
  · rfl
/-- Block g begins with the bytes bs. -/
def Pre (w : World) (g : Nat) (bs : List Nat) : Prop := ∃ cur : Array Value, w.heap[g]? = some (.cells cur 5 (0, 0)) ∧ cur.toList.take bs.length = vals bs
theorem Own.pre {w : World} {g : Nat} {bs : List Nat} (h : Own w g bs) : Pre w g bs := ⟨_, h, by rw [← length_vals]; simp⟩
theorem Pre.cell {w : World} {g : Nat} {bs : List Nat} (h : Pre w g bs) (i : Nat) (hi : i < bs.length) : w.cell? ⟨g, i, none⟩ = some (.int .u8 (bs.getD i 0 : Nat)) := by
  obtain ⟨cur, hg, ht⟩ := h
  rw [cell_of_row w g i _ _ _ hg]
  have h1 : (cur.toList.take bs.length)[i]? = cur[i]? := by rw [List.getElem?_take, if_pos hi]; simp
  rw [← h1, ht]
  simp [vals, hi, byte]
theorem Pre.free {w : World} {g : Nat} {bs : List Nat} (h : Pre w g bs) (i : Nat) : w.frozen? ⟨g, i, none⟩ = false := by
  obtain ⟨cur, hg, _⟩ := h
  exact frozen_of_row w g i _ _ hg
theorem Pre.byt {w : World} {g : Nat} {bs : List Nat} (h : Pre w g bs) (ha : AllB bs) (cap : Nat) (hc : bs.length ≤ cap) : Byt w (some ⟨g, 0, none⟩) bs.length cap bs :=
  ⟨rfl, hc, ha, .inr ⟨g, 0, rfl, fun i hi => by rw [Nat.zero_add]; exact h.cell i hi⟩⟩
theorem Pre.keep {w w' : World} {g : Nat} {bs : List Nat} (h : Pre w g bs) {B : Nat} (hb : Below B w w') (hg : g < B) : Pre w' g bs := by
  obtain ⟨cur, h1, h2⟩ := h
  exact ⟨cur, by rw [hb.block g hg]; exact h1, h2⟩
theorem Pre.lt {w : World} {g : Nat} {bs : List Nat} (h : Pre w g bs) : g < w.heap.size := by
  obtain ⟨cur, hg, _⟩ := h
  exact (Array.getElem?_eq_some_iff.1 hg).1
theorem Pre.set {w : World} {g : Nat} {bs : List Nat} (h : Pre w g bs) (i : Nat) (x : Nat) : Pre (w.setCell ⟨g, i, none⟩ (.int .u8 x)) g (bs.set i x) := by
  obtain ⟨cur, h1, h2⟩ := h
  refine ⟨_, heap_setCell_same w g i _ _ (.int .u8 x) h1, ?_⟩
  rw [List.length_set, Array.toList_setIfInBounds, List.take_set, h2]
  simp [vals, byte]
theorem pre_owns {w : World} {base g n cap : Nat} {bs : List Nat} (h : w.ownsRow base 5 1 (.slice (some ⟨g, 0, none⟩) n cap) n (vals bs)) : Pre w g bs ∧ bs.length = n ∧ n ≤ cap ∧ base ≤ g ∧ cap ≤ maxLen := by
  have hl := h.1
  rcases h.2 with ⟨h', _⟩ | ⟨g', cap', cur, h', hb, hg, hc, hm, hs, htake⟩
  · simp at h'
  · simp only [Value.slice.injEq, Option.some.injEq, Addr.mk.injEq, and_true, true_and] at h'
    obtain ⟨rfl, rfl⟩ := h'
    have hn : bs.length = n := by simpa [length_vals] using hl
    exact ⟨⟨cur, hg, by rw [hn]; simpa using htake⟩, hn, hc, hb, hm⟩
/-- What 'Sealed' and its like give: a slice at the head of a new block, which begins with bs. -/
def Made (w : World) (bs : List Nat) (v : Value) (w' : World) : Prop := ∃ g cap, v = .slice (some ⟨g, 0, none⟩) bs.length cap ∧ bs.length ≤ cap ∧ w.heap.size ≤ g ∧ Pre w' g bs ∧ Below w.heap.size w w'
def GivesMade (w : World) (bs : List Nat) (e : Ending) (w' : World) : Prop := ∃ v, e = .returned v ∧ Made w bs v w'
theorem made_of {w w' : World} {bs : List Nat} {v' : Value} (h : w'.ownsRow w.heap.size 5 1 v' bs.length (vals bs)) (hn : 0 < bs.length) (hb : Below w.heap.size w w') : Made w bs v' w' := by
  rcases h.2 with ⟨h', h0⟩ | ⟨g', cap', cur, rfl, _⟩
  · omega
  · obtain ⟨h1, h2, h3, h4, h5⟩ := pre_owns h
    exact ⟨g', cap', rfl, h3, h4, h1, hb⟩

def str (bs : List Nat) : ByteArray := ⟨(bs.map UInt8.ofNat).toArray⟩
theorem foldl_push (bs : List Int) (s : ByteArray) : (bs.foldl (fun r n => r.push (UInt8.ofNat n.toNat)) s).data.toList = s.data.toList ++ bs.map (fun n => UInt8.ofNat n.toNat) := by
  induction bs generalizing s with
  | nil => simp
  | cons b bs ih => rw [List.foldl_cons, ih]; simp [ByteArray.push]
theorem str_eq (bs : List Nat) : ((bs.map Int.ofNat).foldl (fun r n => r.push (UInt8.ofNat n.toNat)) ByteArray.empty) = str bs := by
  apply ByteArray.ext
  apply Array.toList_inj.1
  rw [foldl_push]
  have e : (ByteArray.empty : ByteArray).data.toList = [] := rfl
  rw [e]
  simp [str, Function.comp_def]
theorem ints_vals (bs : List Nat) : (bs.map Int.ofNat).map (Value.int .u8) = vals bs := by simp only [vals, List.map_map]; rfl
theorem run_str {w : World} {ad : Option Addr} {len cap : Nat} {bs : List Nat} (h : Byt w ad len cap bs) : (convert 97 9 (.slice ad len cap)).run Tryz.prog w = .ok (.string (str bs)) w := by
  rw [run_convert_bytes_string w 97 9 5 ad len cap Tryz.underlying97 Tryz.underlying5 Tryz.underlying9]
  rcases ad with _ | a
  · have : len = 0 := by
      rcases h.cells with h0 | ⟨b, off, e, _⟩
      · exact h0
      · cases e
    subst this
    obtain rfl : bs = [] := List.eq_nil_of_length_eq_zero h.length
    simp [Conv.bytesToString, Sem.run_pure, str]; rfl
  · have hl := h.length
    have hc : ∀ j v, (vals bs)[j]? = some v → w.cell? (a.add j) = some v := by
      intro j v hj
      have hjl : j < bs.length := by
        have := (List.getElem?_eq_some_iff.1 hj).1
        rwa [length_vals] at this
      obtain ⟨a', ha', hs⟩ := h.source (by omega)
      obtain rfl := Option.some.inj ha'
      exact hs j v hj
    have h1 := run_loadCells_list (P := Tryz.prog) (w := w) a (vals bs) hc
    rw [length_vals, hl, ← ints_vals] at h1
    rw [run_bytesToString w a len cap _ h1, str_eq]
theorem own_new (w : World) (bs : List Nat) : Own (w.alloc (.cells (vals bs).toArray 5)) w.heap.size bs := heap_alloc_new w _
theorem Byt.nil (w : World) : Byt w none 0 0 [] := ⟨rfl, Nat.le_refl _, (fun x hx => by cases hx), .inl rfl⟩

theorem all_small {bs : List Nat} (h : bs.all (· < 256) = true) : AllB bs := by
  intro x hx
  have := List.all_eq_true.1 h x hx
  simpa using this
def IsRow (k : IntKind) (w : World) (a : Option Addr) (len cap : Nat) (zs : List Int) : Prop :=
  (a = none ∧ len = 0 ∧ cap = 0 ∧ zs = []) ∨
  ∃ x, a = some x ∧ len ≤ cap ∧ cap ≤ maxLen ∧ zs.length = cap ∧ (∀ i, i < zs.length → w.cell? (x.add i) = some (.int k (zs.getD i 0))) ∧ ∀ n ∈ zs, (Lit.int k n).wf = true

/-- The bytes of a slice that came in, as numbers. -/
def bytesOf (len : Nat) (zs : List Int) : List Nat := (zs.take len).map Int.toNat
theorem wf_byte {n : Int} (h : (Lit.int .u8 n).wf = true) : 0 ≤ n ∧ n < 256 := by
  have := bounds_u8 h
  omega
theorem IsRow.byt {w : World} {a : Option Addr} {len cap : Nat} {zs : List Int} (h : IsRow .u8 w a len cap zs) : Byt w a len cap (bytesOf len zs) ∧ (a = none → cap = 0) := by
  rcases h with ⟨rfl, rfl, rfl, rfl⟩ | ⟨x, rfl, hl, hm, hz, hc, hw⟩
  · exact ⟨Byt.nil w, fun _ => rfl⟩
  · refine ⟨⟨by simp [bytesOf]; omega, hl, ?_, ?_⟩, fun e => by cases e⟩
    · intro y hy
      obtain ⟨n, hn, rfl⟩ := List.mem_map.1 hy
      have := wf_byte (hw n (List.mem_of_mem_take hn))
      omega
    · by_cases h0 : len = 0
      · exact .inl h0
      · obtain ⟨b, off, spot⟩ := x
        have h1 := hc 0 (by omega)
        have hs : spot = none := by simpa [Addr.add] using World.cell?_spot h1
        subst hs
        refine .inr ⟨b, off, rfl, fun i hi => ?_⟩
        have h2 := hc i (by omega)
        rw [add_at] at h2
        rw [h2]
        have hi2 : i < zs.length := by omega
        have h3 := wf_byte (hw (zs.getD i 0) (by rw [List.getD_eq_getElem?_getD, List.getElem?_eq_getElem hi2]; simp))
        have h4 : ((bytesOf len zs).getD i 0 : Nat) = (zs.getD i 0).toNat := by
          simp [bytesOf, List.getD_eq_getElem?_getD, hi, hi2]
        rw [h4, Int.toNat_of_nonneg h3.1]
/-- A slice of bytes, and, if it is nil, it has no room. -/
def Row (w : World) (ad : Option Addr) (len cap : Nat) (bs : List Nat) : Prop := Byt w ad len cap bs ∧ (ad = none → cap = 0)
theorem Row.keep {w w' : World} {ad : Option Addr} {len cap : Nat} {bs : List Nat} (h : Row w ad len cap bs) {B : Nat} (hb : Below B w w') (hB : w.heap.size ≤ B) : Row w' ad len cap bs := ⟨h.1.keep hb hB, h.2⟩
theorem Row.all {w : World} {ad : Option Addr} {len cap : Nat} {bs : List Nat} (h : Row w ad len cap bs) : AllB bs := h.1.all
theorem Row.len {w : World} {ad : Option Addr} {len cap : Nat} {bs : List Nat} (h : Row w ad len cap bs) : bs.length = len := h.1.length

/-- 'append(v, xs...)', v the call's own, xs any slice of bytes, nil too. -/
theorem append_row {w : World} {ops : Array Oper} {rest : List Oper} {o : Oper} {a : Act} {Q : Exit → Act → World → Prop} (hgd : o.guard = none) (s x : Operand)
    (ho : o.op = .call { callee := .builtin .append, args := #[s, x], argTypes := #[97, 97] })
    (base n : Nat) (xs ys : List Nat) (v : Value) (hs : a.eval s = v) (hown : w.ownsRow base 5 1 v n (vals xs)) (hv : v ≠ .slice none 0 0) (hbase : base ≤ w.heap.size)
    (ad : Option Addr) (len cap : Nat) (hx : a.eval x = .slice ad len cap) (hr : Row w ad len cap ys) (hn : n + len ≤ 140737488355328)
    (w0 : World) (hb0 : Below base w0 w)
    (h : ∀ g cp w', w'.ownsRow base 5 1 (.slice (some ⟨g, 0, none⟩) (n + len) cp) (n + len) (vals (xs ++ ys)) → Below base w0 w' → wpList Tryz.prog ops Q rest (a.put o.dst (.slice (some ⟨g, 0, none⟩) (n + len) cp)) w') :
    wpList Tryz.prog ops Q (o :: rest) a w := by
  obtain ⟨i0, hi, hz0, hz1, hz2⟩ := info_parts info5
  rcases ad with _ | ad
  · have hcap := hr.2 rfl
    have hl := hr.1.fits
    have hyl := hr.1.length
    subst hcap
    obtain rfl : len = 0 := by omega
    obtain rfl : ys = [] := List.eq_nil_of_length_eq_zero hyl
    refine wpList_append_own_none hgd s x 97 ho base 5 i0 1 Tryz.underlying97 hi v n (vals xs) hs hown hx ?_
    rcases hown.2 with ⟨h', _⟩ | ⟨g, cp, cur, rfl, _⟩
    · exact absurd h' hv
    · exact h g cp w (by simpa using hown) hb0
  · refine wpList_append_own _ hgd s x 97 ho base 5 i0 (.int .u8 0) 1 1 Tryz.underlying97 hi hz0 hz1 hz2 rfl (by decide) v n (vals xs) hs hown ad len cap (vals ys) hx (by rw [length_vals, hr.1.length]; simp) (by
      intro j u hj
      have hjl : j < ys.length := by
        have := (List.getElem?_eq_some_iff.1 hj).1
        rwa [length_vals] at this
      obtain ⟨a', ha', hs'⟩ := hr.1.source (by have := hr.1.length; omega)
      obtain rfl := Option.some.inj ha'
      exact hs' j u hj) (vals_one ys) (by unfold maxLen; omega) (by omega) hbase ?_
    intro v' w' hown' hgrow hnn
    rw [← vals_append] at hown'
    have hb : Below base w0 w' := hb0.grown hgrow hbase (fun k hk => (hown.lt k hk).1)
    rcases hown'.2 with ⟨h', _⟩ | ⟨g, cp, cur, rfl, _⟩
    · exact absurd (hnn.1 h').1 hv
    · exact h g cp w' hown' hb
theorem own_empty (W : World) (base : Nat) (h : base ≤ W.heap.size) : (W.alloc (.cells #[] 5)).ownsRow base 5 1 (.slice (some ⟨W.heap.size, 0, none⟩) 0 0) 0 (vals []) := World.ownsRow_lit (e := 5) (size := 1) W #[] 0 h (by decide) rfl
theorem some_ne (a : Addr) (l c : Nat) : (Value.slice (some a) l c) ≠ .slice none 0 0 := by intro h; cases h
theorem owns_row {w : World} {base n g cp : Nat} {bs : List Nat} (h : w.ownsRow base 5 1 (.slice (some ⟨g, 0, none⟩) n cp) n (vals bs)) (ha : AllB bs) : Row w (some ⟨g, 0, none⟩) n cp bs := by
  obtain ⟨h1, h2, h3, h4, h5⟩ := pre_owns h
  have := h1.byt ha cp (by omega)
  rw [h2] at this
  exact ⟨this, fun h => by cases h⟩
theorem all_append {a b : List Nat} (ha : AllB a) (hb : AllB b) : AllB (a ++ b) := by
  intro x hx
  rcases List.mem_append.1 hx with h | h
  · exact ha x h
  · exact hb x h
theorem all_one : AllB [1] := all_small (by decide)

/-- A value that reads as the text t, in every world that has not turned since w. -/
def ReadsAs (w : World) (v : Value) (t : ByteArray) : Prop := ∀ W, Below w.heap.size w W → (convert 97 9 v).run Tryz.prog W = .ok (.string t) W
theorem ReadsAs.of {w : World} {a : Option Addr} {l c : Nat} {bs : List Nat} (h : Byt w a l c bs) : ReadsAs w (.slice a l c) (str bs) := fun W hW => run_str (h.keep hW (Nat.le_refl _))
theorem owns_keep {w w' : World} {base e size n : Nat} {v : Value} {xs : List Value} (h : w.ownsRow base e size v n xs) {B : Nat} (hb : Below B w w') (hB : w.heap.size ≤ B) : w'.ownsRow base e size v n xs := by
  refine ⟨h.1, ?_⟩
  rcases h.2 with h0 | ⟨g, cap, cur, hv, hg, hh, r⟩
  · exact .inl h0
  · refine .inr ⟨g, cap, cur, hv, hg, ?_, r⟩
    rw [hb.block g (Nat.lt_of_lt_of_le (Array.getElem?_eq_some_iff.1 hh).1 hB)]
    exact hh
/-- A value that reads as the text s, in every world that has not turned since w. -/
def Reads (w : World) (v : Value) (s : ByteArray) : Prop := ∀ W, Below w.heap.size w W → (convert 97 9 v).run Tryz.prog W = .ok (.string s) W
theorem Reads.of {w : World} {a : Option Addr} {l c : Nat} {bs : List Nat} (h : Byt w a l c bs) : Reads w (.slice a l c) (str bs) := fun W hW => run_str (h.keep hW (Nat.le_refl _))
theorem Reads.keep {w w' : World} {v : Value} {s : ByteArray} (h : Reads w v s) (hb : Below w.heap.size w w') : Reads w' v s := fun W hW => h W (hb.trans (hW.mono hb.size))
end Go.Proofs.YtmnjobiipfgpoaaGreat
namespace Go.Proofs.YtmnjobiipfgpoaaGreat
open Go.RowKit
set_option linter.unusedVariables false

section
variable {w w' w1 w2 : World} {kt k : Nat}
theorem grow_refl (w : World) (r : Option Nat) : w.grownBy w r := ⟨rfl, rfl, rfl, Nat.le_refl _, fun _ _ _ => rfl⟩
theorem grow_trans {r : Option Nat} (h : w.grownBy w1 r) (h2 : w1.grownBy w2 r) : w.grownBy w2 r :=
  ⟨h2.os.trans h.os, h2.tape.trans h.tape, h2.output.trans h.output, Nat.le_trans h.size h2.size, fun k hk hn => (h2.block k (Nat.lt_of_lt_of_le hk h.size) hn).trans (h.block k hk hn)⟩
theorem grow_drewN {r : Option Nat} (h : w.grownBy w1 r) (n : Nat) : w.grownBy (w1.drewN n) r := grow_trans h ⟨rfl, rfl, rfl, Nat.le_refl _, fun _ _ _ => rfl⟩
theorem grow_alloc {r : Option Nat} (h : w.grownBy w1 r) (o : Obj) : w.grownBy (w1.alloc o) r := grow_trans h (World.grownBy_alloc w1 o r)
theorem grow_set (h : w.grownBy w1 (some kt)) (j : Nat) (u : Value) : w.grownBy (w1.setCell ⟨kt, j, none⟩ u) (some kt) :=
  grow_trans h ⟨rfl, rfl, rfl, by simp, fun k hk hn => by
    show (w1.heap.modify kt _)[k]? = _
    rw [Array.getElem?_modify, if_neg (fun e => hn (by rw [e]))]⟩
theorem grow_below {r : Option Nat} (h : w.grownBy w1 r) (hb : Below w1.heap.size w1 w2) : w.grownBy w2 r :=
  grow_trans h ⟨hb.os, hb.tape, hb.output, hb.size, fun k hk _ => hb.block k hk⟩
theorem grow_own {r : Option Nat} (h : w.grownBy w1 (some kt)) (h2 : w1.grownBy w2 r) (hr : ∀ k, r = some k → w.heap.size ≤ k) : w.grownBy w2 (some kt) :=
  ⟨h2.os.trans h.os, h2.tape.trans h.tape, h2.output.trans h.output, Nat.le_trans h.size h2.size, fun k hk hn => (h2.block k (Nat.lt_of_lt_of_le hk h.size) (fun e => by have := hr k e.symm; omega)).trans (h.block k hk hn)⟩
theorem grow_new {w w1 : World} {kt k j : Nat} (h : w.grownBy w1 (some kt)) (hk : w.heap.size ≤ k) (u : Value) : w.grownBy (w1.setCell ⟨k, j, none⟩ u) (some kt) :=
  ⟨h.os, h.tape, h.output, by simpa using h.size, fun i hi hn => by
    show (w1.heap.modify k _)[i]? = _
    rw [Array.getElem?_modify, if_neg (by omega)]
    exact h.block i hi hn⟩
theorem box_set {cs : Array Value} {t : TypeId} (h : w.heap[k]? = some (.cells cs t (0, 0))) (j : Nat) (u : Value) : (w.setCell ⟨k, j, none⟩ u).heap[k]? = some (.cells (cs.setIfInBounds j u) t (0, 0)) := by
  have hlt := lt_of_block h
  have h' : w.heap[k] = .cells cs t (0, 0) := by simpa [Array.getElem?_eq_getElem hlt] using h
  show (w.heap.modify k _)[k]? = _
  rw [Array.getElem?_eq_getElem (by simpa using hlt), Array.getElem_modify_self, h']
  rfl
theorem box_off {o : Obj} (h : w.heap[k]? = some o) {j i : Nat} (hj : j ≠ k) (u : Value) : (w.setCell ⟨j, i, none⟩ u).heap[k]? = some o := by
  rw [← h]
  show (w.heap.modify j _)[k]? = _
  rw [Array.getElem?_modify, if_neg hj]
end
theorem size_set (w : World) (a : Addr) (u : Value) : (w.setCell a u).heap.size = w.heap.size := by simp
theorem below_grown {W W' : World} {k B : Nat} (h : W.grownBy W' (some k)) (hk : B ≤ k) (hB : B ≤ W.heap.size) : Below B W W' :=
  ⟨h.os, h.tape, h.output, h.size, fun j hj => h.block j (Nat.lt_of_lt_of_le hj hB) (fun e => by cases e; omega)⟩
theorem results_cell_one {fn : Func} {p : Tmp} {ty : TypeId} (h : fn.results = #[.cell p ty]) (tmps : Array Value) (P : Program) (w : World) :
    (results fn tmps).run P w = ((asAddr (tmps.getD p undef)).run P w).andThen fun a w₁ => (loadVar ty a).run P w₁ := by
  simp only [results, h]
  simp [Sem.run_bind, Result.andThen]
end Go.Proofs.YtmnjobiipfgpoaaGreat
namespace Go.Proofs.YtmnjobiipfgpoaaGreat
open Go.RowKit
open Go.ChangeMaps (setBlock)
open Go.Maps (Keyed)
set_option linter.unusedVariables false

/-- An entry as the map has it. -/
def entryP (e : MapEntry) : Value × Value := (e.key, e.val)
/-- Block km is a map of these things. -/
def MapAs {α : Type} (P : Program) (k : TypeId) (f : α → Value × Value) (w : World) (km : Nat) (ps : List α) : Prop :=
  ∃ es clock, w.heap[km]? = some (.map es clock) ∧ MapKept.Stamped es clock ∧ (es.toList.map entryP).Perm (ps.map f) ∧ ∀ p ∈ ps, ∃ l, keyOf P k (f p).1 = some l
section
variable {α : Type} {P : Program} {k : TypeId} {f : α → Value × Value} {w w' : World} {km : Nat} {ps : List α}
theorem MapAs.lt (h : MapAs P k f w km ps) : km < w.heap.size := by
  obtain ⟨es, clock, hb, _⟩ := h
  exact (Array.getElem?_eq_some_iff.1 hb).1
theorem MapAs.same (h : MapAs P k f w km ps) (he : w'.heap[km]? = w.heap[km]?) : MapAs P k f w' km ps := by
  obtain ⟨es, clock, hb, r⟩ := h
  exact ⟨es, clock, he.trans hb, r⟩
theorem MapAs.on (h : MapAs P k f w km ps) (hb : Below w.heap.size w w') : MapAs P k f w' km ps := h.same (hb.block km h.lt)
theorem MapAs.grown {r : Option Nat} (h : MapAs P k f w km ps) (hg : w.grownBy w' r) (hr : r ≠ some km) : MapAs P k f w' km ps := h.same (hg.block km h.lt fun e => hr e.symm)
theorem MapAs.perm {qs : List α} (h : MapAs P k f w km ps) (hp : ps.Perm qs) : MapAs P k f w km qs := by
  obtain ⟨es, clock, hb, hs, hq, hn⟩ := h
  exact ⟨es, clock, hb, hs, hq.trans (hp.map _), fun p h => hn p (hp.mem_iff.2 h)⟩
theorem mapAs_new (P : Program) (k : TypeId) (f : α → Value × Value) (w : World) : MapAs P k f (w.alloc (.map #[] 0)) w.heap.size ([] : List α) := ⟨#[], 0, heap_alloc_new w _, MapKept.stamped_empty 0, List.Perm.refl _, fun p h => by cases h⟩
/-- No key stands twice. -/
theorem MapAs.keys (h : MapAs P k f w km ps) : (ps.map fun p => (f p).1).Pairwise (· ≠ ·) := by
  obtain ⟨es, clock, hb, hs, hq, hn⟩ := h
  have h3 := ((MapKept.stamped_iff es clock).1 hs).2.2
  have h4 : (es.toList.map entryP).Pairwise (fun a b => a.1 ≠ b.1) := by rw [List.pairwise_map]; exact h3
  have h5 : (ps.map f).Pairwise (fun a b => a.1 ≠ b.1) := (hq.pairwise_iff (fun {_ _} h => Ne.symm h)).1 h4
  rw [List.pairwise_map] at h5 ⊢
  exact h5
theorem MapAs.size (h : MapAs P k f w km ps) : ∃ es clock, w.heap[km]? = some (.map es clock) ∧ es.size = ps.length := by
  obtain ⟨es, clock, hb, hs, hq, hn⟩ := h
  refine ⟨es, clock, hb, ?_⟩
  have := hq.length_eq
  simpa using this
theorem MapAs.one (h : MapAs P k f w km ps) {p q : α} (hp : p ∈ ps) (hq : q ∈ ps) (e : (f p).1 = (f q).1) : p = q := by
  have hn := h.keys
  obtain ⟨i, hi⟩ := List.getElem?_of_mem hp
  obtain ⟨j, hj⟩ := List.getElem?_of_mem hq
  have hi' : (ps.map fun p => (f p).1)[i]? = some (f p).1 := by rw [List.getElem?_map, hi]; rfl
  have hj' : (ps.map fun p => (f p).1)[j]? = some (f p).1 := by rw [List.getElem?_map, hj, e]; rfl
  have hil : i < (ps.map fun p => (f p).1).length := (List.getElem?_eq_some_iff.1 hi').1
  have := (List.getElem?_inj (i := i) (j := j) hil hn).1 (hi'.trans hj'.symm)
  subst this
  exact Option.some.inj (hi.symm.trans hj)
theorem permAs_set {α : Type} : ∀ (l : List α) (j : Nat) (x y : α), l[j]? = some x → (l.set j y).Perm (y :: l.eraseIdx j) ∧ l.Perm (x :: l.eraseIdx j)
  | [], j, x, y, h => by cases j <;> cases h
  | a :: l, 0, x, y, h => by cases h; exact ⟨List.Perm.refl _, List.Perm.refl _⟩
  | a :: l, j + 1, x, y, h => by
    obtain ⟨h1, h2⟩ := permAs_set l j x y h
    exact ⟨(h1.cons a).trans (List.Perm.swap _ _ _), (h2.cons a).trans (List.Perm.swap _ _ _)⟩
section
variable {t e : TypeId} (ht : P.underlying t = some (.map k e)) (K : Keyed P k)
include K in
theorem mapAs_find (h : MapAs P k f w km ps) (key : Value) (hk : ∃ l, keyOf P k key = some l) : ∃ es clock, w.heap[km]? = some (.map es clock) ∧ MapKept.Stamped es clock ∧ (es.toList.map entryP).Perm (ps.map f) ∧
    (((Instr.findKey k key es.toList).run P w = .ok none w ∧ (∀ e ∈ es.toList, e.key ≠ key) ∧ ∀ p ∈ ps, (f p).1 ≠ key) ∨
     ∃ j e0 p, (Instr.findKey k key es.toList).run P w = .ok (some (j, (f p).2)) w ∧ es.toList[j]? = some e0 ∧ e0.key = key ∧ e0.val = (f p).2 ∧ p ∈ ps ∧ (f p).1 = key) := by
  obtain ⟨es, clock, hb, hs, hq, hz⟩ := h
  refine ⟨es, clock, hb, hs, hq, ?_⟩
  obtain ⟨lk, hlk⟩ := hk
  have hes : ∀ x ∈ es.toList, ∃ p ∈ ps, x.key = (f p).1 ∧ x.val = (f p).2 := fun x hx => by
    obtain ⟨p, hp, e⟩ := List.mem_map.1 (hq.mem_iff.1 (List.mem_map.2 ⟨x, hx, rfl⟩))
    exact ⟨p, hp, by rw [e]; rfl, by rw [e]; rfl⟩
  rcases K.find w hlk es.toList (fun x hx => by
    obtain ⟨p, hp, e, _⟩ := hes x hx
    obtain ⟨l, hl⟩ := hz p hp
    exact ⟨l, by rw [e]; exact hl⟩) with ⟨h1, h2⟩ | ⟨j, e0, h1, h2, h3⟩
  · refine .inl ⟨h1, h2, fun p hp en => ?_⟩
    obtain ⟨x, hx, e⟩ := List.mem_map.1 (hq.mem_iff.2 (List.mem_map.2 ⟨p, hp, rfl⟩))
    have e1 : x.key = (f p).1 := by rw [← e]; rfl
    exact h2 x hx (by rw [e1, en])
  · obtain ⟨p, hp, e1, e2⟩ := hes e0 (List.mem_of_getElem? h2)
    rw [h3] at e1
    exact .inr ⟨j, e0, p, by rw [← e2]; exact h1, h2, h3, e2, hp, e1.symm⟩
include ht K
/-- 'm[k]' where the map has no such key. -/
theorem mapAs_none (h : MapAs P k f w km ps) (key : Value) (hk : ∃ l, keyOf P k key = some l) (h0 : ∀ p ∈ ps, (f p).1 ≠ key) (z : Value) (hz : (zeroValue e).run P w = .ok z w) (ok : Bool) : (Instr.lookup t (.map (some km)) key ok).run P w = .ok (if ok = true then .tuple #[z, .bool false] else z) w := by
  obtain ⟨es, clock, hb, hs, hq, h1⟩ := mapAs_find K h key hk
  obtain ⟨lk, hlk⟩ := hk
  rcases h1 with ⟨h1, _, _⟩ | ⟨j, e0, p, _, _, _, _, hm, he⟩
  · cases ok <;> simp [Instr.lookup, run_underlying ht, MapKept.run_getObj_map hb, K.check w _ hlk, h1, hz, Result.andThen]
  · exact absurd he (h0 _ hm)
/-- 'm[k]' where it has. -/
theorem mapAs_some (h : MapAs P k f w km ps) (p : α) (hm : p ∈ ps) (ok : Bool) : (Instr.lookup t (.map (some km)) (f p).1 ok).run P w = .ok (if ok = true then .tuple #[(f p).2, .bool true] else (f p).2) w := by
  have hk : ∃ l, keyOf P k (f p).1 = some l := by obtain ⟨_, _, _, _, _, hz⟩ := h; exact hz p hm
  obtain ⟨es, clock, hb, hs, hq, h1⟩ := mapAs_find K h (f p).1 hk
  obtain ⟨lk, hlk⟩ := hk
  rcases h1 with ⟨_, _, h2⟩ | ⟨j, e0, p', h1, _, _, _, hm', he⟩
  · exact absurd rfl (h2 _ hm)
  · have e := h.one hm hm' he.symm
    subst e
    cases ok <;> simp [Instr.lookup, run_underlying ht, MapKept.run_getObj_map hb, K.check w _ hlk, h1, Result.andThen]
/-- 'm[k] = v', a new key. -/
theorem mapAs_put (h : MapAs P k f w km ps) (p : α) (hk : ∃ l, keyOf P k (f p).1 = some l) (h0 : ∀ q ∈ ps, (f q).1 ≠ (f p).1) : ∃ w', (Instr.mapUpdate t (.map (some km)) (f p).1 (f p).2).run P w = .ok () w' ∧ MapAs P k f w' km (p :: ps) ∧ w.grownBy w' (some km) ∧ w'.heap.size = w.heap.size := by
  have hz : ∀ p ∈ ps, ∃ l, keyOf P k (f p).1 = some l := by obtain ⟨_, _, _, _, _, hz⟩ := h; exact hz
  have hk2 := hk
  obtain ⟨es, clock, hb, hs, hq, h1⟩ := mapAs_find K h (f p).1 hk
  obtain ⟨lk, hlk⟩ := hk
  have hgr : ∀ o', w.grownBy (setBlock w km o') (some km) := fun o' => ⟨rfl, rfl, rfl, by simp [setBlock], fun i _ hi => ChangeMaps.heap_setBlock_other hb _ (fun e => hi (by rw [e]))⟩
  rcases h1 with ⟨h1, h2, _⟩ | ⟨j, e0, p', _, _, _, _, hm, he⟩
  · refine ⟨setBlock w km (.map (es.push ⟨(f p).1, (f p).2, clock⟩) (clock + 1)), ?_, ⟨_, _, ChangeMaps.heap_setBlock_same hb _, MapKept.stamped_push hs h2, ?_, fun q hq => ?_⟩, hgr _, by simp [setBlock]⟩
    · simp [Instr.mapUpdate, run_underlying ht, MapKept.run_getObj_map hb, K.check w false hlk, h1, MapKept.run_setObj_map _ hb, Result.andThen, setBlock]
    · rw [Array.toList_push, List.map_append, List.map_cons]
      exact (List.perm_append_singleton _ _).trans (hq.cons _)
    · rcases List.mem_cons.1 hq with rfl | hq
      · exact hk2
      · exact hz q hq
  · exact absurd he (h0 _ hm)
/-- 'm[k] = v', a key that is there. -/
theorem mapAs_set {p0 : α} (h : MapAs P k f w km (p0 :: ps)) (p : α) (h0 : (f p0).1 = (f p).1) : ∃ w', (Instr.mapUpdate t (.map (some km)) (f p).1 (f p).2).run P w = .ok () w' ∧ MapAs P k f w' km (p :: ps) ∧ w.grownBy w' (some km) ∧ w'.heap.size = w.heap.size := by
  have hz : ∀ p ∈ p0 :: ps, ∃ l, keyOf P k (f p).1 = some l := by obtain ⟨_, _, _, _, _, hz⟩ := h; exact hz
  have hk : ∃ l, keyOf P k (f p).1 = some l := by have := hz p0 (by simp); rw [h0] at this; exact this
  have hk2 := hk
  obtain ⟨es, clock, hb, hs, hq, h1⟩ := mapAs_find K h (f p).1 hk
  obtain ⟨lk, hlk⟩ := hk
  have hgr : ∀ o', w.grownBy (setBlock w km o') (some km) := fun o' => ⟨rfl, rfl, rfl, by simp [setBlock], fun i _ hi => ChangeMaps.heap_setBlock_other hb _ (fun e => hi (by rw [e]))⟩
  rcases h1 with ⟨h1, h2, h3⟩ | ⟨j, e0, p', h1, h2, h3, h4, hm, he⟩
  · exact absurd h0 (h3 _ (by simp))
  · have e2 : p0 = p' := h.one (by simp) hm (h0.trans he.symm)
    subst e2
    have hj : es[j]? = some e0 := by simpa using h2
    have hkeyf : ∀ e', es[j]? = some e' → ({ e' with key := (f p).1, val := (f p).2 } : MapEntry).key = e'.key := fun e' he' => by rw [hj] at he'; cases he'; exact h3.symm
    have hlist : (es.modify j (fun e' => { e' with key := (f p).1, val := (f p).2 })).toList = es.toList.set j { e0 with key := (f p).1, val := (f p).2 } := by rw [Array.toList_modify, ChangeMaps.modify_eq_set _ _ _ _ h2]
    refine ⟨setBlock w km (.map (es.modify j (fun e' => { e' with key := (f p).1, val := (f p).2 })) clock), ?_, ⟨_, _, ChangeMaps.heap_setBlock_same hb _, MapKept.stamped_modify hs _ _ (fun _ _ => rfl) (fun e' _ he' => hkeyf e' he'), ?_, fun q hq => ?_⟩, hgr _, by simp [setBlock]⟩
    · simp [Instr.mapUpdate, run_underlying ht, MapKept.run_getObj_map hb, K.check w false hlk, h1, hj, h3, K.stays w hlk, MapKept.run_setObj_map _ hb, Result.andThen, setBlock]
    · obtain ⟨s1, s2⟩ := permAs_set es.toList j e0 { e0 with key := (f p).1, val := (f p).2 } h2
      have e1 : entryP e0 = f p0 := by
        show (e0.key, e0.val) = _
        rw [h3, h4, ← h0]
      have a1 := (s2.map entryP).symm.trans hq
      rw [List.map_cons, List.map_cons, e1] at a1
      rw [hlist]
      refine (s1.map entryP).trans ?_
      rw [List.map_cons, List.map_cons]
      exact a1.cons_inv.cons _
    · rcases List.mem_cons.1 hq with rfl | hq
      · exact hk2
      · exact hz q (by simp [hq])
end
/-- 'for .. range m' under way: block km is the map, block r the iterator; 'dn' has come, 'left' has not come yet. -/
def RangeAs (P : Program) (k : TypeId) (f : α → Value × Value) (w : World) (km r : Nat) (ps dn left : List α) : Prop :=
  ∃ es clock since seen c0, w.heap[km]? = some (.map es clock) ∧ MapKept.Stamped es clock ∧ (es.toList.map entryP).Perm (ps.map f) ∧ (∀ p ∈ ps, ∃ l, keyOf P k (f p).1 = some l) ∧
    w.heap[r]? = some (.mapIter (some km) since seen c0) ∧ (∀ x ∈ es.toList, x.born < since) ∧ since ≤ c0 ∧ since ≤ clock ∧ ((leftOf es seen).toList.map entryP).Perm (left.map f) ∧ ps.Perm (dn ++ left)
variable {dn left : List α} {r : Nat}
theorem RangeAs.map (h : RangeAs P k f w km r ps dn left) : MapAs P k f w km ps := by
  obtain ⟨es, clock, since, seen, c0, hb, hs, hq, hz, _⟩ := h
  exact ⟨es, clock, hb, hs, hq, hz⟩
theorem RangeAs.all (h : RangeAs P k f w km r ps dn left) : ps.Perm (dn ++ left) := by
  obtain ⟨es, clock, since, seen, c0, hb, hs, hq, hz, hr, h1, h2, h3, h4, h5⟩ := h
  exact h5
theorem RangeAs.lt (h : RangeAs P k f w km r ps dn left) : r < w.heap.size := by
  obtain ⟨es, clock, since, seen, c0, hb, hs, hq, hz, hr, _⟩ := h
  exact (Array.getElem?_eq_some_iff.1 hr).1
theorem RangeAs.same (h : RangeAs P k f w km r ps dn left) (h1 : w'.heap[km]? = w.heap[km]?) (h2 : w'.heap[r]? = w.heap[r]?) : RangeAs P k f w' km r ps dn left := by
  obtain ⟨es, clock, since, seen, c0, hb, hs, hq, hz, hr, rest⟩ := h
  exact ⟨es, clock, since, seen, c0, h1.trans hb, hs, hq, hz, h2.trans hr, rest⟩
theorem RangeAs.on (h : RangeAs P k f w km r ps dn left) (hb : Below w.heap.size w w') : RangeAs P k f w' km r ps dn left := h.same (hb.block km h.map.lt) (hb.block r h.lt)
theorem RangeAs.grown {q : Option Nat} (h : RangeAs P k f w km r ps dn left) (hg : w.grownBy w' q) (h1 : q ≠ some km) (h2 : q ≠ some r) : RangeAs P k f w' km r ps dn left := h.same (hg.block km h.map.lt fun e => h1 e.symm) (hg.block r h.lt fun e => h2 e.symm)
theorem RangeAs.ne (h : RangeAs P k f w km r ps dn left) : r ≠ km := by
  obtain ⟨es, clock, since, seen, c0, hb, hs, hq, hz, hr, _⟩ := h
  intro e
  rw [e, hb] at hr
  cases hr
theorem leftAs_all (es : Array MapEntry) : leftOf es #[] = es := by
  unfold leftOf
  exact Array.filter_eq_self.2 fun x hx => by simp
theorem mapAs_range {t e : TypeId} (ht : P.underlying t = some (.map k e)) (h : MapAs P k f w km ps) : ∃ w', (Instr.range t (.map (some km))).run P w = .ok (.pointer (some ⟨w.heap.size, 0, none⟩)) w' ∧ RangeAs P k f w' km w.heap.size ps [] ps ∧ Below w.heap.size w w' ∧ w'.heap.size = w.heap.size + 1 := by
  have hlt := h.lt
  obtain ⟨es, clock, hb, hs, hq, hz⟩ := h
  refine ⟨_, run_range_map w t k e km es clock ht hb, ⟨es, clock, clock, #[], clock, (heap_alloc_old w _ hlt).trans hb, hs, hq, hz, heap_alloc_new w _, hs.1, Nat.le_refl _, Nat.le_refl _, ?_, List.Perm.refl _⟩, (Below.refl _ w).alloc (Nat.le_refl _) _, by simp⟩
  rw [leftAs_all]
  exact hq
theorem nodupAs_split (e : MapEntry) : ∀ (l : List MapEntry), (l.map (·.born)).Nodup → e ∈ l → l.Perm (e :: l.filter fun x => !(x.born == e.born))
  | x :: l, hn, he => by
    rw [List.map_cons, List.nodup_cons] at hn
    rcases List.mem_cons.1 he with rfl | h
    · rw [List.filter_cons_of_neg (by simp), List.filter_eq_self.2 fun y hy => by
        have : y.born ≠ e.born := fun e1 => hn.1 (by rw [← e1]; exact List.mem_map.2 ⟨y, hy, rfl⟩)
        simp [this]]
    · have hne : x.born ≠ e.born := fun e1 => hn.1 (by rw [e1]; exact List.mem_map.2 ⟨e, h, rfl⟩)
      rw [List.filter_cons_of_pos (by simp [hne])]
      exact ((nodupAs_split e l hn.2 h).cons x).trans (List.Perm.swap _ _ _)
theorem leftAs_push (es : Array MapEntry) (seen : Array Nat) (b : Nat) : (leftOf es (seen.push b)).toList = (leftOf es seen).toList.filter fun x => !(x.born == b) := by
  unfold leftOf
  rw [Array.toList_filter, Array.toList_filter, List.filter_filter]
  refine List.filter_congr fun x _ => ?_
  rw [contains_push]
  cases seen.contains x.born <;> cases (x.born == b) <;> rfl
/-- The step. -/
theorem mapAs_next (h : RangeAs P k f w km r ps dn left) (ty : TypeId) :
    (left = [] ∧ (Instr.next (.pointer (some ⟨r, 0, none⟩)) false ty).run P w = .ok (.tuple #[.bool false]) w) ∨
    ∃ (p : α) (left' : List α) (w' : World), left.Perm (p :: left') ∧ p ∈ ps ∧ (Instr.next (.pointer (some ⟨r, 0, none⟩)) false ty).run P w = .ok (.tuple #[.bool true, (f p).1, (f p).2]) w' ∧
      RangeAs P k f w' km r ps (dn ++ [p]) left' ∧ w.grownBy w' (some r) ∧ w'.heap.size = w.heap.size ∧ (Instr.entry (.pointer (some ⟨r, 0, none⟩))).run P w' = .ok (.tuple #[(f p).1, (f p).2]) w' := by
  have hne := h.ne
  obtain ⟨es, clock, since, seen, c0, hb, hs, hq, hz, hr, hold, hsc, hsk, hl, hall⟩ := h
  have hst := (MapKept.stamped_iff es clock).1 hs
  rcases run_next_at (P := P) w ty r km since c0 seen es clock hr hb hold hsc with ⟨h0, hrun⟩ | ⟨e, he, w1, hal, hrun⟩
  · left
    refine ⟨?_, hrun⟩
    have := hl.length_eq
    rw [List.length_map, List.length_map, Array.length_toList, h0] at this
    exact List.eq_nil_of_length_eq_zero this.symm
  · right
    obtain ⟨hem, _⟩ := mem_left he
    obtain ⟨p, hp, e1⟩ := List.mem_map.1 (hl.mem_iff.1 (List.mem_map.2 ⟨e, he, rfl⟩))
    obtain ⟨l1, l2, rfl⟩ := List.append_of_mem hp
    have hsplit : (l1 ++ p :: l2).Perm (p :: (l1 ++ l2)) := List.perm_middle
    have hpm : p ∈ ps := hall.mem_iff.2 (by simp)
    have hall2 : ps.Perm ((dn ++ [p]) ++ (l1 ++ l2)) := by
      refine hall.trans ?_
      rw [List.append_assoc]
      exact hsplit.append_left dn
    have ek : e.key = (f p).1 := (congrArg Prod.fst e1).symm
    have ev : e.val = (f p).2 := (congrArg Prod.snd e1).symm
    have hr1 : w1.heap[r]? = some (.mapIter (some km) since seen c0) := by rcases hal with rfl | rfl <;> exact hr
    have hb1 : w1.heap[km]? = some (.map es clock) := by rcases hal with rfl | rfl <;> exact hb
    have hset := MapKept.heap_set (o' := .mapIter (some km) since (seen.push e.born) clock) hr1
    have hb' : (setBlock w1 r (.mapIter (some km) since (seen.push e.born) clock)).heap[km]? = some (.map es clock) := (hset.2 km (fun e1 => hne e1.symm)).trans hb1
    refine ⟨p, l1 ++ l2, setBlock w1 r (.mapIter (some km) since (seen.push e.born) clock), hsplit, hpm, by rw [← ek, ← ev]; exact hrun, ⟨es, clock, since, seen.push e.born, clock, hb', hs, hq, hz, hset.1, hold, hsk, hsk, ?_, hall2⟩, ?_, ?_, ?_⟩
    · rw [leftAs_push]
      have hnd : ((leftOf es seen).toList.map (·.born)).Nodup := by
        unfold leftOf
        rw [Array.toList_filter]
        exact hst.2.1.sublist (List.filter_sublist.map _)
      have a1 := ((nodupAs_split e _ hnd he).map entryP).symm.trans (hl.trans (hsplit.map f))
      rw [List.map_cons, List.map_cons] at a1
      have e2 : entryP e = f p := e1.symm
      rw [e2] at a1
      exact a1.cons_inv
    · rcases hal with rfl | rfl <;> exact ⟨rfl, rfl, rfl, by simp [setBlock], fun i _ hi => hset.2 i (fun e1 => hi (by rw [e1]))⟩
    · rcases hal with rfl | rfl <;> simp [setBlock]
    · have := run_entry_at (P := P) _ r km since seen es clock e hset.1 hb' hem hst.2.1
      rw [ek, ev] at this
      exact this
/-- How many are still to come, read off the world. -/
theorem RangeAs.count (h : RangeAs P k f w km r ps dn left) : w.rangeLeft km r = left.length := by
  obtain ⟨es, clock, since, seen, c0, hb, hs, hq, hz, hr, hold, hsc, hsk, hl, hall⟩ := h
  have := hl.length_eq
  rw [List.length_map, List.length_map, Array.length_toList] at this
  simp only [World.rangeLeft, hb, hr]
  exact this
end
end Go.Proofs.YtmnjobiipfgpoaaGreat
namespace Go.VarMath

abbrev AllB (bs : List Nat) : Prop := ∀ x ∈ bs, x < 256
def zig (n : Int) : Nat := if 0 ≤ n then 2 * n.toNat else 2 * (-n).toNat - 1
theorem zig_lt {n : Int} (h0 : -9223372036854775808 ≤ n) (h1 : n ≤ 9223372036854775807) : zig n < 18446744073709551616 := by
  unfold zig; split <;> omega
theorem zig_nonneg {n : Int} (h : 0 ≤ n) : (zig n : Int) = 2 * n := by unfold zig; rw [if_pos h]; omega
theorem zig_neg {n : Int} (h : n < 0) : (zig n : Int) = -2 * n - 1 := by unfold zig; rw [if_neg (by omega)]; omega
theorem zig_nat (k : Nat) : zig (k : Int) = 2 * k := by unfold zig; rw [if_pos (by omega)]; omega
/-- Groups of seven bits, no more than f + 1 of them. -/
def gr : Nat → Nat → List Nat
  | 0, u => [u]
  | f + 1, u => if u < 128 then [u] else (u % 128 + 128) :: gr f (u / 128)
def encU (u : Nat) : List Nat := gr 9 u
def encN (n : Int) : List Nat := encU (zig n)
def val : List Nat → Nat
  | [] => 0
  | b :: r => b % 128 + 128 * val r
def AllHi (p : List Nat) : Prop := ∀ x ∈ p, 128 ≤ x ∧ x < 256
theorem AllHi.nil : AllHi [] := fun x h => by cases h
theorem AllHi.cons {b : Nat} {p : List Nat} (hb : 128 ≤ b ∧ b < 256) (hp : AllHi p) : AllHi (b :: p) := by
  intro x hx
  rcases List.mem_cons.1 hx with h | h
  · rw [h]; exact hb
  · exact hp x h
theorem AllHi.snoc {b : Nat} {p : List Nat} (hp : AllHi p) (hb : 128 ≤ b ∧ b < 256) : AllHi (p ++ [b]) := by
  intro x hx
  rcases List.mem_append.1 hx with h | h
  · exact hp x h
  · simp at h; rw [h]; exact hb
theorem AllHi.all {p : List Nat} (hp : AllHi p) : AllB p := fun x hx => (hp x hx).2
theorem gr_small (f u : Nat) (h : u < 128) : gr f u = [u] := by
  cases f with
  | zero => rfl
  | succ f => simp [gr, h]
theorem gr_big (f u : Nat) (h : ¬ u < 128) : gr (f + 1) u = (u % 128 + 128) :: gr f (u / 128) := by simp [gr, h]
theorem gr_shape : ∀ f u, u < 128 ^ (f + 1) → ∃ p x, gr f u = p ++ [x] ∧ AllHi p ∧ x < 128 ∧ p.length ≤ f ∧ (x = 0 → p = [] ∧ u = 0)
  | 0, u, h => ⟨[], u, rfl, AllHi.nil, by simpa using h, by simp, fun h => ⟨rfl, h⟩⟩
  | f + 1, u, h => by
    by_cases hu : u < 128
    · exact ⟨[], u, by rw [gr_small _ _ hu]; rfl, AllHi.nil, hu, by simp, fun h => ⟨rfl, h⟩⟩
    · have h2 : u / 128 < 128 ^ (f + 1) := by
        rw [Nat.div_lt_iff_lt_mul (by omega)]
        rwa [← Nat.pow_succ]
      obtain ⟨p, x, e, hp, hx, hl, hz⟩ := gr_shape f (u / 128) h2
      refine ⟨(u % 128 + 128) :: p, x, by rw [gr_big _ _ hu, e]; rfl, AllHi.cons (by omega) hp, hx, by simp; omega, fun h0 => ?_⟩
      have := (hz h0).2
      omega
theorem pow10 : (128 : Nat) ^ (9 + 1) = 1180591620717411303424 := by decide
theorem lt10 {u : Nat} (h : u < 18446744073709551616) : u < 128 ^ (9 + 1) := by rw [pow10]; omega
theorem enc_shape {u : Nat} (h : u < 18446744073709551616) : ∃ p x, encU u = p ++ [x] ∧ AllHi p ∧ x < 128 ∧ p.length ≤ 9 ∧ (x = 0 → p = [] ∧ u = 0) := gr_shape 9 u (lt10 h)
theorem enc_all {u : Nat} (h : u < 18446744073709551616) : AllB (encU u) := by
  obtain ⟨p, x, e, hp, hx, _, _⟩ := enc_shape h
  rw [e]
  intro y hy
  rcases List.mem_append.1 hy with h | h
  · exact (hp y h).2
  · simp at h; omega
theorem enc_len {u : Nat} (h : u < 18446744073709551616) : 1 ≤ (encU u).length ∧ (encU u).length ≤ 10 := by
  obtain ⟨p, x, e, hp, hx, hl, _⟩ := enc_shape h
  rw [e, List.length_append]
  simp; omega
theorem pow9 : (128 : Nat) ^ 9 = 9223372036854775808 := by decide
/-! texts -/
def textB (s : List Nat) : List Nat := encU (2 * s.length) ++ s
/-! eight bytes -/
def beB : Nat → Nat → List Nat
  | 0, _ => []
  | k + 1, u => (u / 256 ^ k % 256) :: beB k u
def unbe (bs : List Nat) : Nat := bs.foldl (fun a b => a * 256 + b) 0
def low64 (n : Int) : Nat := (n % 18446744073709551616).toNat
def longB (n : Int) : List Nat := beB 8 (low64 n)
theorem length_beB : ∀ k u, (beB k u).length = k
  | 0, _ => rfl
  | k + 1, u => by simp [beB, length_beB k u]
theorem beB_all : ∀ k u, AllB (beB k u)
  | 0, _ => fun x h => by cases h
  | k + 1, u => by
    intro x hx
    rcases List.mem_cons.1 hx with h | h
    · rw [h]; exact Nat.mod_lt _ (by omega)
    · exact beB_all k u x h
theorem length_longB (n : Int) : (longB n).length = 8 := length_beB 8 _
theorem longB_all (n : Int) : AllB (longB n) := beB_all 8 _
theorem beB_take : ∀ i k u, i < k → (beB k u).take (i + 1) = (beB k u).take i ++ [u / 256 ^ (k - 1 - i) % 256]
  | i, 0, u, h => by omega
  | 0, k + 1, u, _ => by simp [beB]
  | i + 1, k + 1, u, h => by
    have ih := beB_take i k u (by omega)
    rw [beB, List.take_succ_cons, ih, List.take_succ_cons, List.cons_append]
    congr 3
    have : k + 1 - 1 - (i + 1) = k - 1 - i := by omega
    rw [this]
end Go.VarMath
namespace Go.CrcMath

def poly : Nat := 2197175160
/-- One bit: shifted right, and, if the lowest bit was 1, exclusive or the polynomial. -/
def bstep (c : Nat) : Nat := if c % 2 = 1 then c / 2 ^^^ poly else c / 2
def bsteps : Nat → Nat → Nat
  | 0, c => c
  | n + 1, c => bstep (bsteps n c)
def nxt (c b : Nat) : Nat := bsteps 8 (c ^^^ b)
def run (c : Nat) (bs : List Nat) : Nat := bs.foldl nxt c
def full : Nat := 4294967295
theorem full_lt : full < 4294967296 := by unfold full; omega
def cpl (c : Nat) : Nat := full ^^^ c
def ofB (bs : List Nat) : Nat := cpl (run full bs)
def leB (c : Nat) : List Nat := [c % 256, c / 256 % 256, c / 65536 % 256, c / 16777216 % 256]
def sealB (bs : List Nat) : List Nat := leB (ofB bs) ++ bs
abbrev AllB (bs : List Nat) : Prop := ∀ x ∈ bs, x < 256

theorem bstep_lt {c : Nat} (h : c < 4294967296) : bstep c < 4294967296 := by
  unfold bstep
  split
  · exact Nat.xor_lt_two_pow (n := 32) (by omega) (by decide)
  · omega
theorem bsteps_lt {c : Nat} (h : c < 4294967296) : ∀ n, bsteps n c < 4294967296
  | 0 => h
  | n + 1 => bstep_lt (bsteps_lt h n)
theorem xor_lt {c b : Nat} (h : c < 4294967296) (hb : b < 4294967296) : c ^^^ b < 4294967296 := Nat.xor_lt_two_pow (n := 32) h hb
theorem nxt_lt {c b : Nat} (h : c < 4294967296) (hb : b < 256) : nxt c b < 4294967296 := bsteps_lt (xor_lt h (by omega)) 8
theorem run_lt : ∀ (bs : List Nat) (c : Nat), c < 4294967296 → AllB bs → run c bs < 4294967296
  | [], c, h, _ => h
  | b :: bs, c, h, hb => run_lt bs (nxt c b) (nxt_lt h (hb b (by simp))) (fun x hx => hb x (by simp [hx]))
theorem cpl_lt {c : Nat} (h : c < 4294967296) : cpl c < 4294967296 := xor_lt full_lt h
theorem cpl_eq (c : Nat) : cpl c = full ^^^ c := rfl
theorem ofB_lt {bs : List Nat} (h : AllB bs) : ofB bs < 4294967296 := cpl_lt (run_lt bs _ full_lt h)
theorem run_snoc (c : Nat) (a : List Nat) (b : Nat) : run c (a ++ [b]) = nxt (run c a) b := by simp [run, List.foldl_append]

/-! the bstep is linear, and only 0 goes to 0 -/
theorem xor_div2 (x y : Nat) : (x ^^^ y) / 2 = x / 2 ^^^ y / 2 := by
  have := Nat.shiftRight_xor_distrib (a := x) (b := y) (i := 1)
  simpa [Nat.shiftRight_eq_div_pow] using this
theorem xor_mod2 (x y : Nat) : (x ^^^ y) % 2 = (x % 2 + y % 2) % 2 := by
  have h : (x ^^^ y) % 2 ^ 1 = x % 2 ^ 1 ^^^ y % 2 ^ 1 := Nat.xor_mod_two_pow
  simp only [Nat.pow_one] at h
  rw [h]
  rcases Nat.mod_two_eq_zero_or_one x with hx | hx <;> rcases Nat.mod_two_eq_zero_or_one y with hy | hy <;> simp [hx, hy]
theorem bstep_xor (x y : Nat) : bstep (x ^^^ y) = bstep x ^^^ bstep y := by
  unfold bstep
  rw [xor_mod2, xor_div2]
  rcases Nat.mod_two_eq_zero_or_one x with hx | hx <;> rcases Nat.mod_two_eq_zero_or_one y with hy | hy
  · simp [hx, hy]
  · simp [hx, hy, Nat.xor_assoc]
  · simp only [hx, hy]; simp [Nat.xor_assoc, Nat.xor_comm poly]
  · simp only [hx, hy]; simp [Nat.xor_assoc]; rw [Nat.xor_comm poly, Nat.xor_assoc, Nat.xor_self, Nat.xor_zero]
theorem bsteps_xor (x y : Nat) : ∀ n, bsteps n (x ^^^ y) = bsteps n x ^^^ bsteps n y
  | 0 => rfl
  | n + 1 => by unfold bsteps; rw [bsteps_xor x y n, bstep_xor]
theorem bsteps_add (m x : Nat) : ∀ n, bsteps (m + n) x = bsteps n (bsteps m x)
  | 0 => rfl
  | n + 1 => by show bstep (bsteps (m + n) x) = bstep (bsteps n (bsteps m x)); rw [bsteps_add m x n]
theorem bstep_double (u : Nat) : bstep (2 * u) = u := by unfold bstep; rw [if_neg (by omega)]; omega
theorem steps8_256 (u : Nat) : bsteps 8 (256 * u) = u := by
  have e : 256 * u = 2 * (2 * (2 * (2 * (2 * (2 * (2 * (2 * u))))))) := by omega
  rw [e]
  simp only [bsteps, bstep_double]
theorem low_xor (t u : Nat) (h : t < 256) : t ^^^ 256 * u = t + 256 * u := by
  have h1 : 2 ^ 8 * u + t = 2 ^ 8 * u ||| t := Nat.two_pow_add_eq_or_of_lt (i := 8) (b := t) (by simpa using h) u
  have e2 : 2 ^ 8 * u ||| t = t ^^^ 2 ^ 8 * u := by
    apply Nat.eq_of_testBit_eq
    intro i
    rw [Nat.testBit_or, Nat.testBit_xor]
    by_cases hi : i < 8
    · have h2 : Nat.testBit (2 ^ 8 * u) i = false := by rw [Nat.testBit_two_pow_mul]; simp; omega
      rw [h2]; simp
    · have h3 : Nat.testBit t i = false := Nat.testBit_lt_two_pow (Nat.lt_of_lt_of_le h (Nat.pow_le_pow_right (n := 2) (i := 8) (by decide) (by omega)))
      rw [h3]; simp
  have h4 : 2 ^ 8 * u = 256 * u := rfl
  rw [h4] at h1 e2
  omega
/-- The difference of two sums behind one byte more, the bytes' own difference t. -/
theorem nxt_xor (c d b t : Nat) : nxt (c ^^^ d) (b ^^^ t) = nxt c b ^^^ bsteps 8 (d ^^^ t) := by
  unfold nxt
  rw [← bsteps_xor]
  congr 1
  rw [Nat.xor_assoc, Nat.xor_assoc, ← Nat.xor_assoc d b t, Nat.xor_comm d b, Nat.xor_assoc]
theorem peel (d t u : Nat) (h : t < 256) : bsteps 8 (d ^^^ (t + 256 * u)) = bsteps 8 (d ^^^ t) ^^^ u := by
  rw [← low_xor t u h, ← Nat.xor_assoc, bsteps_xor, steps8_256]
theorem four (c a0 a1 a2 a3 t0 t1 t2 t3 : Nat) (h0 : t0 < 256) (h1 : t1 < 256) (h2 : t2 < 256) :
    run c [a0 ^^^ t0, a1 ^^^ t1, a2 ^^^ t2, a3 ^^^ t3] = run c [a0, a1, a2, a3] ^^^ bsteps 32 (t0 + 256 * (t1 + 256 * (t2 + 256 * t3))) := by
  have e : bsteps 32 (t0 + 256 * (t1 + 256 * (t2 + 256 * t3))) = bsteps 8 (bsteps 8 (bsteps 8 (bsteps 8 t0 ^^^ t1) ^^^ t2) ^^^ t3) := by
    have p0 := peel 0 t0 (t1 + 256 * (t2 + 256 * t3)) h0
    simp only [Nat.zero_xor] at p0
    rw [show (32 : Nat) = 8 + (8 + (8 + 8)) from rfl, bsteps_add, p0, bsteps_add, peel _ _ _ h1, bsteps_add, peel _ _ _ h2]
  rw [e]
  have q0 : nxt c (a0 ^^^ t0) = nxt c a0 ^^^ bsteps 8 t0 := by have := nxt_xor c 0 a0 t0; simpa using this
  simp only [run, List.foldl_cons, List.foldl_nil]
  rw [q0, nxt_xor, nxt_xor, nxt_xor]
/-! four bytes and their number -/
theorem leB_all (c : Nat) : AllB (leB c) := by intro x hx; simp [leB] at hx; omega
theorem sealB_all {bs : List Nat} (h : AllB bs) : AllB (sealB bs) := by
  intro x hx
  rcases List.mem_append.1 hx with h1 | h1
  · exact leB_all _ x h1
  · exact h x h1
theorem length_sealB (bs : List Nat) : (sealB bs).length = bs.length + 4 := by simp [sealB, leB]
theorem four_of {bs : List Nat} (h : 4 ≤ bs.length) : ∃ b0 b1 b2 b3 r, bs = b0 :: b1 :: b2 :: b3 :: r := by
  match bs, h with
  | b0 :: b1 :: b2 :: b3 :: r, _ => exact ⟨b0, b1, b2, b3, r, rfl⟩
end Go.CrcMath
namespace Go.SeqMath

def rightB (n : Int) : Bool := decide (0 ≤ n) && decide (n ≤ 2147483647)
def addI (n k : Int) : Int := if rightB n = true then (n + k) % 2147483648 else -1
def lastI (n c : Int) : Int := if 1 ≤ c ∧ c ≤ 16 then addI n (c - 1) else -1
def followsB (l f : Int) : Bool := if l = -1 then decide (f = 0) else rightB l && decide (f = addI l 1)
theorem right_yes {n : Int} (h0 : 0 ≤ n) (h1 : n ≤ 2147483647) : rightB n = true := by unfold rightB; simp [h0, h1]
theorem right_no {n : Int} (h : n < 0 ∨ 2147483647 < n) : rightB n = false := by
  unfold rightB
  rcases h with h | h
  · rw [decide_eq_false (by omega)]; rfl
  · rw [decide_eq_false (p := n ≤ 2147483647) (by omega), Bool.and_false]
theorem of_right {n : Int} (h : rightB n = true) : 0 ≤ n ∧ n ≤ 2147483647 := by unfold rightB at h; simpa using h
theorem add_yes {n : Int} (h0 : 0 ≤ n) (h1 : n ≤ 2147483647) (k : Int) : addI n k = (n + k) % 2147483648 := by unfold addI; rw [if_pos (right_yes h0 h1)]
theorem add_no {n : Int} (h : rightB n = false) (k : Int) : addI n k = -1 := by unfold addI; rw [if_neg (by rw [h]; decide)]
theorem last_yes {c : Int} (h0 : 1 ≤ c) (h1 : c ≤ 16) (n : Int) : lastI n c = addI n (c - 1) := by unfold lastI; rw [if_pos ⟨h0, h1⟩]
theorem last_no {c : Int} (h : c < 1 ∨ 16 < c) (n : Int) : lastI n c = -1 := by unfold lastI; rw [if_neg (by omega)]
theorem follows_none (f : Int) : followsB (-1) f = decide (f = 0) := by unfold followsB; rw [if_pos rfl]
theorem follows_yes {l : Int} (h0 : 0 ≤ l) (h1 : l ≤ 2147483647) (f : Int) : followsB l f = decide (f = addI l 1) := by
  unfold followsB; rw [if_neg (by omega), right_yes h0 h1, Bool.true_and]
theorem follows_no {l : Int} (h : l ≠ -1) (h2 : rightB l = false) (f : Int) : followsB l f = false := by
  unfold followsB; rw [if_neg h, h2, Bool.false_and]
/- What the two laws say, of the plain functions. -/
end Go.SeqMath
namespace Go.BatMath
open Go.SeqMath
open Go.VarMath (textB encU longB beB unbe low64)
open Go.CrcMath (sealB)

abbrev AllB (bs : List Nat) : Prop := ∀ x ∈ bs, x < 256
def bl (s : ByteArray) : List Nat := s.data.toList.map UInt8.toNat
theorem bl_len (s : ByteArray) : (bl s).length = s.size := by simp [bl]
theorem bl_all (s : ByteArray) : AllB (bl s) := by
  intro x hx
  obtain ⟨c, _, rfl⟩ := List.mem_map.1 hx
  exact c.toNat_lt
/-- A record, and a batch. -/
structure Rc where
  key : ByteArray
  val : ByteArray
structure Bat where
  base : Int
  prod : Int
  epoch : Int
  seq : Int
  txn : Bool
  marker : Int
  recs : List Rc
def Bat.zero : Bat := ⟨0, 0, 0, 0, false, 0, []⟩
def Bat.at (b : Bat) (n : Int) : Bat := { b with base := n }
abbrev In64 (n : Int) : Prop := -9223372036854775808 ≤ n ∧ n ≤ 9223372036854775807
/-- Its numbers are such. -/
structure Bat.wf (b : Bat) : Prop where
  base : In64 b.base
  prod : In64 b.prod
  epoch : In64 b.epoch
  seq : In64 b.seq
  marker : In64 b.marker
/-! which errors it has -/
def headB (b : Bat) : Bool := decide (0 ≤ b.prod) && (decide (0 ≤ b.epoch) && decide (b.epoch ≤ 32767))
def noneB (b : Bat) : Bool := decide (b.prod = -1) && (decide (b.epoch = -1) && (decide (b.seq = -1) && !b.txn))
def longRec (r : Rc) : Prop := 64 < r.key.size ∨ 64 < r.val.size
noncomputable def rightE (b : Bat) : Int :=
  if b.base < 0 ∨ 1099511627776 < b.base then 18
  else if b.marker ≠ 0 then
    if (b.marker = 1 ∨ b.marker = 2) ∧ headB b = true ∧ b.seq = -1 ∧ b.txn = true ∧ b.recs = [] then 0 else 12
  else if (noneB b = true ∨ headB b = true ∧ rightB b.seq = true) ∧ b.recs ≠ [] then
    open Classical in if 16 < b.recs.length ∨ ∃ r ∈ b.recs, longRec r then 13 else 0
  else 12
theorem head_of {b : Bat} (h : headB b = true) : 0 ≤ b.prod ∧ 0 ≤ b.epoch ∧ b.epoch ≤ 32767 := by unfold headB at h; simpa using h
theorem none_of {b : Bat} (h : noneB b = true) : b.prod = -1 ∧ b.epoch = -1 ∧ b.seq = -1 ∧ b.txn = false := by unfold noneB at h; simpa using h
/-- What a batch that is right is. -/
structure Ok (b : Bat) : Prop where
  base0 : 0 ≤ b.base
  base1 : b.base ≤ 1099511627776
  prod : -1 ≤ b.prod
  epoch0 : -1 ≤ b.epoch
  epoch1 : b.epoch ≤ 32767
  seq0 : -1 ≤ b.seq
  seq1 : b.seq ≤ 2147483647
  marker0 : 0 ≤ b.marker
  marker1 : b.marker ≤ 2
  recs : b.recs.length ≤ 16
  texts : ∀ r ∈ b.recs, r.key.size ≤ 64 ∧ r.val.size ≤ 64
theorem ok_of {b : Bat} (h : rightE b = 0) : Ok b := by
  unfold rightE at h
  split at h
  · omega
  rename_i hb
  split at h
  · split at h
    · rename_i hm hh
      obtain ⟨h1, h2, h3, h4, h5⟩ := hh
      obtain ⟨p0, p1, p2⟩ := head_of h2
      exact ⟨by omega, by omega, by omega, by omega, by omega, by omega, by omega, by omega, by omega, by rw [h5]; simp, by rw [h5]; intro r hr; cases hr⟩
    · omega
  rename_i hm
  split at h
  · rename_i hh
    split at h
    · omega
    rename_i hl
    have hl1 : b.recs.length ≤ 16 := by
      by_cases h16 : 16 < b.recs.length
      · exact absurd (.inl h16) hl
      · omega
    have hl2 : ∀ r ∈ b.recs, r.key.size ≤ 64 ∧ r.val.size ≤ 64 := by
      intro r hr
      refine ⟨?_, ?_⟩
      · by_cases h64 : 64 < r.key.size
        · exact absurd (.inr ⟨r, hr, .inl h64⟩) hl
        · omega
      · by_cases h64 : 64 < r.val.size
        · exact absurd (.inr ⟨r, hr, .inr h64⟩) hl
        · omega
    rcases hh.1 with h1 | ⟨h1, h2⟩
    · obtain ⟨q1, q2, q3, q4⟩ := none_of h1
      exact ⟨by omega, by omega, by omega, by omega, by omega, by omega, by omega, by omega, by omega, hl1, hl2⟩
    · obtain ⟨p0, p1, p2⟩ := head_of h1
      obtain ⟨s0, s1⟩ := of_right h2
      exact ⟨by omega, by omega, by omega, by omega, by omega, by omega, by omega, by omega, by omega, hl1, hl2⟩
  · omega

/-! bytes -/
def flagN (b : Bat) : Nat := (2 * b.marker + (if b.txn = true then 1 else 0)).toNat % 256
def epochN (b : Bat) : Nat := (b.epoch % 65536).toNat
def recB (r : Rc) : List Nat := textB (bl r.key) ++ textB (bl r.val)
def recsB (l : List Rc) : List Nat := l.flatMap recB
def frontB (b : Bat) : List Nat := flagN b :: (longB b.prod ++ (epochN b / 256 :: epochN b % 256 :: (longB b.seq ++ [b.recs.length % 256])))
def bodyB (b : Bat) : List Nat := frontB b ++ recsB b.recs
def bytesB (b : Bat) : List Nat := longB b.base ++ (beB 4 (sealB (bodyB b)).length ++ sealB (bodyB b))
theorem recsB_cons (r : Rc) (l : List Rc) : recsB (r :: l) = recB r ++ recsB l := rfl
theorem recsB_snoc (l : List Rc) (r : Rc) : recsB (l ++ [r]) = recsB l ++ recB r := by simp [recsB]
theorem front_len (b : Bat) : (frontB b).length = 20 := by simp [frontB, VarMath.length_longB]
theorem text_len {s : List Nat} (hl : s.length < 9223372036854775808) : s.length + 1 ≤ (textB s).length ∧ (textB s).length ≤ s.length + 10 := by
  have := VarMath.enc_len (u := 2 * s.length) (by omega)
  unfold textB
  rw [List.length_append]
  omega
theorem rec_len {r : Rc} (h : r.key.size ≤ 64 ∧ r.val.size ≤ 64) : 2 ≤ (recB r).length ∧ (recB r).length ≤ 148 := by
  have h1 := text_len (s := bl r.key) (by rw [bl_len]; omega)
  have h2 := text_len (s := bl r.val) (by rw [bl_len]; omega)
  rw [bl_len] at h1 h2
  unfold recB
  rw [List.length_append]
  omega
theorem recs_len : ∀ {l : List Rc}, (∀ r ∈ l, r.key.size ≤ 64 ∧ r.val.size ≤ 64) → 2 * l.length ≤ (recsB l).length ∧ (recsB l).length ≤ 148 * l.length
  | [], _ => by simp [recsB]
  | r :: l, h => by
    have h1 := rec_len (h r (by simp))
    have h2 := recs_len (l := l) fun x hx => h x (by simp [hx])
    rw [recsB_cons, List.length_append, List.length_cons]
    omega
theorem body_len (b : Bat) : (bodyB b).length = 20 + (recsB b.recs).length := by unfold bodyB; rw [List.length_append, front_len]
theorem bytes_len (b : Bat) : (bytesB b).length = 36 + (recsB b.recs).length := by
  unfold bytesB
  rw [List.length_append, List.length_append, VarMath.length_longB, VarMath.length_beB, CrcMath.length_sealB, body_len]
  omega
theorem ok_len {b : Bat} (h : Ok b) : (bytesB b).length ≤ 2404 ∧ 36 ≤ (bytesB b).length := by
  have h1 := (recs_len h.texts).2
  have h2 := h.recs
  rw [bytes_len]
  omega
theorem text_all {s : List Nat} (h : AllB s) (hl : s.length < 9223372036854775808) : AllB (textB s) := by
  unfold textB
  intro x hx
  rcases List.mem_append.1 hx with h1 | h1
  · exact VarMath.enc_all (by omega) x h1
  · exact h x h1
theorem all_app {a b : List Nat} (ha : AllB a) (hb : AllB b) : AllB (a ++ b) := by
  intro x hx
  rcases List.mem_append.1 hx with h | h
  · exact ha x h
  · exact hb x h
theorem all_cons {a : Nat} {b : List Nat} (ha : a < 256) (hb : AllB b) : AllB (a :: b) := by
  intro x hx
  rcases List.mem_cons.1 hx with h | h
  · rw [h]; exact ha
  · exact hb x h
theorem all_nil : AllB [] := fun x h => by cases h
theorem rec_all {r : Rc} (h : r.key.size < 9223372036854775808 ∧ r.val.size < 9223372036854775808) : AllB (recB r) :=
  all_app (text_all (bl_all _) (by rw [bl_len]; exact h.1)) (text_all (bl_all _) (by rw [bl_len]; exact h.2))
theorem recs_all : ∀ {l : List Rc}, (∀ r ∈ l, r.key.size < 9223372036854775808 ∧ r.val.size < 9223372036854775808) → AllB (recsB l)
  | [], _ => all_nil
  | r :: l, h => by
    rw [recsB_cons]
    exact all_app (rec_all (h r (by simp))) (recs_all fun x hx => h x (by simp [hx]))
theorem flag_lt (b : Bat) : flagN b < 256 := Nat.mod_lt _ (by omega)
theorem epoch_lt (b : Bat) : epochN b < 65536 := by unfold epochN; omega
/-! reading -/
/-- p begins with what Bytes gives of b. -/
structure Good (p : List Nat) (b : Bat) : Prop where
  right : rightE b = 0
  wf : b.wf
  pre : bytesB b <+: p
/-- What a reader gives: a batch, how many bytes it takes, an error. -/
structure Out where
  b : Bat
  n : Nat
  e : Int
def lenD (p : List Nat) : Nat := unbe ((p.drop 8).take 4)
def fellD (p : List Nat) : Int := if p.length < 12 then 12 else if 4096 < lenD p + 12 then 13 else 12
/-- What is asked of a reader. -/
structure Reads (p : List Nat) (o : Out) : Prop where
  fine : o.e = 0 → Good p o.b ∧ o.n = (bytesB o.b).length
  fell : o.e ≠ 0 → o.b = Bat.zero ∧ o.n = 0 ∧ o.e = fellD p
  all : ∀ b, Good p b → o.e = 0 ∧ o.b = b
noncomputable def sizeB (b : Bat) : Int := if rightE b = 0 then ((bytesB b).length : Int) else 0
theorem getD_lt {p : List Nat} (h : AllB p) (k : Nat) : p.getD k 0 < 256 := by
  rw [List.getD_eq_getElem?_getD]
  rcases hk : p[k]? with _ | x
  · decide
  · exact h x (List.mem_of_getElem? hk)
theorem take_all {p : List Nat} (h : AllB p) (k : Nat) : AllB (p.take k) := fun x hx => h x (List.mem_of_mem_take hx)
end Go.BatMath
namespace Go.ProdMath
open Go.SeqMath
open Go.BatMath
set_option linter.unusedVariables false

structure Tr where
  f : Int
  l : Int
  b : Int
structure Pd where
  id : Int
  epoch : Int
  last : List Tr
  opn : Int
def Pd.zero : Pd := ⟨0, 0, [], 0⟩
structure Dr where
  prod : Int
  first : Int
  last : Int
def Dr.zero : Dr := ⟨0, 0, 0⟩
/-- This element is the batch of these numbers. -/
def hitB (x : Tr) (s : Int) (n : Nat) : Bool := decide (x.f = s) && decide (x.l = lastI s n)
def dupL (l : List Tr) (s : Int) (n : Nat) : Option Int := (l.find? fun x => hitB x s n).map (·.b)
theorem dup_none (s : Int) (n : Nat) : dupL [] s n = none := rfl
theorem dup_hit {x : Tr} {l : List Tr} {s : Int} {n : Nat} (h : hitB x s n = true) : dupL (x :: l) s n = some x.b := by simp [dupL, h]
theorem dup_miss {x : Tr} {l : List Tr} {s : Int} {n : Nat} (h : hitB x s n = false) : dupL (x :: l) s n = dupL l s n := by simp [dupL, h]
def lastSeq (l : List Tr) : Int := match l.getLast? with | some x => x.l | none => 0
def checkD (p : Pd) (known : Bool) (b : Bat) : Int × Int :=
  if b.marker ≠ 0 then
    if known = false then (-1, 16) else if b.epoch < p.epoch then (-1, 14) else if p.opn < 0 then (-1, 16) else (-1, 0)
  else if known = false then (-1, 0)
  else if b.epoch < p.epoch then (-1, 14)
  else if p.epoch < b.epoch then
    if 0 ≤ p.opn then (-1, 16) else if b.seq ≠ 0 then (-1, 15) else (-1, 0)
  else match dupL p.last b.seq b.recs.length with
    | some n => (n, 0)
    | none =>
      if p.last ≠ [] ∧ followsB (lastSeq p.last) b.seq = false then (-1, 15)
      else if 0 ≤ p.opn ∧ b.txn = false then (-1, 16) else (-1, 0)
def oldLast (p : Pd) (known : Bool) (b : Bat) : List Tr := if known = true ∧ p.epoch = b.epoch then p.last else []
def oldOpen (p : Pd) (known : Bool) : Int := if known = true then p.opn else -1
def newLast (l : List Tr) (x : Tr) : List Tr := (l ++ [x]).drop (l.length + 1 - 5)
def applyD (p : Pd) (known : Bool) (b : Bat) : Pd :=
  if b.marker ≠ 0 then ⟨b.prod, b.epoch, oldLast p known b, -1⟩
  else ⟨b.prod, b.epoch, newLast (oldLast p known b) ⟨b.seq, lastI b.seq b.recs.length, b.base⟩, if b.txn = true ∧ oldOpen p known < 0 then b.base else oldOpen p known⟩
/-! tables -/
def atD : List Pd → Int → Nat
  | [], _ => 0
  | p :: l, id => if p.id < id then atD l id + 1 else 0
theorem atD_le : ∀ (l : List Pd) (id : Int), atD l id ≤ l.length
  | [], _ => Nat.le_refl _
  | p :: l, id => by
    unfold atD
    split
    · have := atD_le l id; simp; omega
    · exact Nat.zero_le _
theorem atD_step : ∀ (l : List Pd) (id : Int) (i : Nat) (p : Pd), i ≤ atD l id → l[i]? = some p → (p.id < id ↔ i + 1 ≤ atD l id)
  | q :: l, id, 0, p, _, h => by
    cases h
    unfold atD
    split <;> simp_all
  | q :: l, id, i + 1, p, hi, h => by
    unfold atD at hi ⊢
    split at hi
    · rename_i hq
      rw [if_pos hq]
      have := atD_step l id i p (by omega) h
      omega
    · omega
  | [], id, i, p, _, h => by cases h
def hasD (l : List Pd) (id : Int) : Bool := match l[atD l id]? with | some p => decide (p.id = id) | none => false
def getD (l : List Pd) (id : Int) : Pd := if hasD l id = true then (match l[atD l id]? with | some p => p | none => Pd.zero) else Pd.zero
noncomputable def tcheckD (l : List Pd) (b : Bat) : Int × Int :=
  if rightE b ≠ 0 then (-1, rightE b) else if b.prod < 0 then (-1, 0) else checkD (getD l b.prod) (hasD l b.prod) b
noncomputable def tapplyD (l : List Pd) (b : Bat) : List Pd :=
  if rightE b ≠ 0 ∨ b.prod < 0 then l
  else if hasD l b.prod = true then l.set (atD l b.prod) (applyD (getD l b.prod) true b)
  else l.take (atD l b.prod) ++ applyD Pd.zero false b :: l.drop (atD l b.prod)
def dropsB (l : List Pd) (b : Bat) : Bool := hasD l b.prod && (decide (b.marker = 2) && decide (0 ≤ (getD l b.prod).opn))
noncomputable def tdropD (l : List Pd) (b : Bat) : Option Dr :=
  if rightE b ≠ 0 ∨ b.prod < 0 then none
  else if dropsB l b = true then some ⟨b.prod, (getD l b.prod).opn, b.base⟩ else none
noncomputable def foldP : List Pd → List Bat → List Pd
  | l, [] => l
  | l, b :: bs => foldP (tapplyD l b) bs
noncomputable def foldR : List Pd → List Bat → List Dr
  | _, [] => []
  | l, b :: bs => (tdropD l b).toList ++ foldR (tapplyD l b) bs
theorem foldP_snoc : ∀ (l : List Pd) (bs : List Bat) (b : Bat), foldP l (bs ++ [b]) = tapplyD (foldP l bs) b
  | l, [], b => rfl
  | l, a :: bs, b => foldP_snoc (tapplyD l a) bs b
theorem foldR_snoc : ∀ (l : List Pd) (bs : List Bat) (b : Bat), foldR l (bs ++ [b]) = foldR l bs ++ (tdropD (foldP l bs) b).toList
  | l, [], b => by simp [foldR, foldP]
  | l, a :: bs, b => by
    show (tdropD l a).toList ++ foldR (tapplyD l a) (bs ++ [b]) = _
    rw [foldR_snoc (tapplyD l a) bs b, ← List.append_assoc]; rfl
/-! rows -/
def countD (b : Bat) : Int := if b.marker ≠ 0 then 1 else (b.recs.length : Int)
def endD (start : Int) (l : List Bat) : Int := match l.getLast? with | some b => b.base + countD b | none => start
noncomputable def bytesD : List Bat → Int
  | [] => 0
  | b :: l => sizeB b + bytesD l
/-- Its lengths are such that nothing is too long. -/
def fewP (l : List Pd) : Prop := ∀ p ∈ l, p.last.length ≤ 5
theorem newLast_few (l : List Tr) (x : Tr) : (newLast l x).length ≤ 5 := by unfold newLast; rw [List.length_drop, List.length_append]; simp; omega
theorem get_few {l : List Pd} (h : fewP l) (id : Int) : (getD l id).last.length ≤ 5 := by
  unfold getD
  split
  · split
    · rename_i p hp; exact h p (List.mem_of_getElem? hp)
    · exact Nat.zero_le _
  · exact Nat.zero_le _
theorem apply_few {p : Pd} (h : p.last.length ≤ 5) (k : Bool) (b : Bat) : (applyD p k b).last.length ≤ 5 := by
  unfold applyD
  split
  · unfold oldLast; split
    · exact h
    · exact Nat.zero_le _
  · exact newLast_few _ _
theorem tapply_few {l : List Pd} (h : fewP l) (b : Bat) : fewP (tapplyD l b) := by
  unfold tapplyD
  split
  · exact h
  · split
    · intro p hp
      rcases List.mem_or_eq_of_mem_set hp with h1 | h1
      · exact h p h1
      · rw [h1]; exact apply_few (get_few h _) _ _
    · intro p hp
      rcases List.mem_append.1 hp with h1 | h1
      · exact h p (List.mem_of_mem_take h1)
      · rcases List.mem_cons.1 h1 with h1 | h1
        · rw [h1]; exact apply_few (Nat.zero_le _) _ _
        · exact h p (List.mem_of_mem_drop h1)
theorem foldP_few : ∀ {l : List Pd} (bs : List Bat), fewP l → fewP (foldP l bs)
  | l, [], h => h
  | l, b :: bs, h => foldP_few bs (tapply_few h b)
theorem tapply_len (l : List Pd) (b : Bat) : (tapplyD l b).length ≤ l.length + 1 := by
  unfold tapplyD
  split
  · omega
  · split
    · simp
    · simp; have := atD_le l b.prod; omega
theorem foldP_len : ∀ (l : List Pd) (bs : List Bat), (foldP l bs).length ≤ l.length + bs.length
  | l, [] => by simp [foldP]
  | l, b :: bs => by
    have h1 := foldP_len (tapplyD l b) bs
    have h2 := tapply_len l b
    show (foldP (tapplyD l b) bs).length ≤ _
    simp; omega
end Go.ProdMath
namespace Go.Proofs.YtmnjobiipfgpoaaGreat
open Go.RowKit Go.OpenShut
set_option linter.unusedVariables false

/-- How things of one kind lie in memory. -/
structure Kind (α : Type) where
  enc : α → List Value
  size : Nat
  ty : TypeId
  sl : TypeId
structure Kind.Ok {α : Type} (K : Kind α) (bytes : Nat) : Prop where
  und : Tryz.prog.underlying K.sl = some (.slice K.ty)
  info : ∃ i z, Tryz.prog.info? K.ty = some i ∧ i.zero = some z ∧ i.size = K.size ∧ i.bytes = bytes ∧ z.cells.size = K.size
  len : ∀ x, (K.enc x).length = K.size
  pos : 0 < K.size
  one : ∀ x, ∀ u ∈ K.enc x, u.oneCell' = true
  few : bytes ≤ 1000
variable {α : Type} {K : Kind α} {bytes : Nat} {w w' : World}
def Kind.all (K : Kind α) (l : List α) : List Value := l.flatMap K.enc
theorem Kind.Ok.all_len (hK : K.Ok bytes) : ∀ l : List α, (K.all l).length = l.length * K.size
  | [] => by simp [Kind.all]
  | x :: l => by
    have := Kind.Ok.all_len hK l
    unfold Kind.all at *
    rw [List.flatMap_cons, List.length_append, this, hK.len, List.length_cons, Nat.succ_mul, Nat.add_comm]
theorem Kind.all_app (K : Kind α) (a b : List α) : K.all (a ++ b) = K.all a ++ K.all b := by simp [Kind.all]
theorem Kind.Ok.all_one (hK : K.Ok bytes) (l : List α) : ∀ u ∈ K.all l, u.oneCell' = true := by
  intro u hu
  obtain ⟨x, _, hx⟩ := List.mem_flatMap.1 hu
  exact hK.one x u hx
theorem Kind.Ok.all_at (hK : K.Ok bytes) : ∀ (l : List α) (i : Nat) (x : α), l[i]? = some x → ∀ j, j < K.size → (K.all l)[i * K.size + j]? = (K.enc x)[j]?
  | [], i, x, h, j, hj => by cases h
  | y :: l, 0, x, h, j, hj => by
    cases h
    show ((y :: l).flatMap K.enc)[0 * K.size + j]? = _
    rw [List.flatMap_cons, Nat.zero_mul, Nat.zero_add, List.getElem?_append_left (by rw [hK.len]; exact hj)]
  | y :: l, i + 1, x, h, j, hj => by
    have ih := Kind.Ok.all_at hK l i x h j hj
    show ((y :: l).flatMap K.enc)[(i + 1) * K.size + j]? = _
    rw [List.flatMap_cons, List.getElem?_append_right (by rw [hK.len, Nat.succ_mul]; omega), hK.len, show (i + 1) * K.size + j - K.size = i * K.size + j by rw [Nat.succ_mul]; omega]
    exact ih
/-- A slice reads as l. -/
structure RowAt (K : Kind α) (w : World) (ad : Option Addr) (len cap : Nat) (l : List α) : Prop where
  length : l.length = len
  fits : len ≤ cap
  room : ad = none → cap = 0
  cells : len = 0 ∨ ∃ b off, ad = some ⟨b, off, none⟩ ∧ b < w.heap.size ∧ ∀ i x, l[i]? = some x → ∀ j u, (K.enc x)[j]? = some u → w.cell? ⟨b, off + (i * K.size + j), none⟩ = some u
theorem RowAt.keep {ad : Option Addr} {len cap : Nat} {l : List α} (h : RowAt K w ad len cap l) (hb : Below w.heap.size w w') : RowAt K w' ad len cap l := by
  refine ⟨h.length, h.fits, h.room, ?_⟩
  rcases h.cells with h0 | ⟨b, off, e, hlt, hc⟩
  · exact .inl h0
  · refine .inr ⟨b, off, e, Nat.lt_of_lt_of_le hlt hb.size, fun i x hi j u hj => ?_⟩
    rw [hb.cell (p := ⟨b, off + (i * K.size + j), none⟩) hlt]
    exact hc i x hi j u hj
/-- Every block but one is as it was, and the row does not lie in that one. -/
theorem RowAt.grown {ad : Option Addr} {len cap : Nat} {l : List α} {r : Option Nat} (h : RowAt K w ad len cap l) (hg : w.grownBy w' r) (hr : ∀ a, ad = some a → some a.block ≠ r) : RowAt K w' ad len cap l := by
  refine ⟨h.length, h.fits, h.room, ?_⟩
  rcases h.cells with h0 | ⟨b, off, e, hlt, hc⟩
  · exact .inl h0
  · exact .inr ⟨b, off, e, Nat.lt_of_lt_of_le hlt hg.size, fun i x hi j u hj => hg.cell (hc i x hi j u hj) (show some b ≠ r from hr _ e)⟩
theorem rowAt_nil (w : World) : RowAt K w none 0 0 ([] : List α) := ⟨rfl, Nat.le_refl _, fun _ => rfl, .inl rfl⟩
theorem RowAt.zero (w : World) {ad : Option Addr} {cap : Nat} (h : ad = none → cap = 0) : RowAt K w ad 0 cap ([] : List α) := ⟨rfl, Nat.zero_le _, h, .inl rfl⟩
/-- The thing at i. -/
theorem RowAt.get {ad : Option Addr} {len cap : Nat} {l : List α} (h : RowAt K w ad len cap l) {i : Nat} (hi : i < len) :
    ∃ b off x, ad = some ⟨b, off, none⟩ ∧ b < w.heap.size ∧ l[i]? = some x ∧ ∀ j u, (K.enc x)[j]? = some u → w.cell? ⟨b, off + (i * K.size + j), none⟩ = some u := by
  have hl := h.length
  rcases h.cells with h0 | ⟨b, off, e, hlt, hc⟩
  · omega
  · have hx : l[i]? = some (l[i]'(by omega)) := List.getElem?_eq_getElem (by omega)
    exact ⟨b, off, _, e, hlt, hx, hc i _ hx⟩
theorem RowAt.news (hK : K.Ok bytes) {b off len cap : Nat} {l : List α} (h : RowAt K w (some ⟨b, off, none⟩) len cap l) : ∀ j u, (K.all l)[j]? = some u → w.cell? ((⟨b, off, none⟩ : Addr).add j) = some u := by
  intro j u hj
  have hjl : j < l.length * K.size := by
    have := (List.getElem?_eq_some_iff.1 hj).1
    rwa [hK.all_len] at this
  have hp := hK.pos
  have hil : j / K.size < l.length := Nat.div_lt_of_lt_mul (by rwa [Nat.mul_comm])
  have hx : l[j / K.size]? = some (l[j / K.size]'hil) := List.getElem?_eq_getElem hil
  have hm := Nat.mod_lt j hp
  have he : j / K.size * K.size + j % K.size = j := by rw [Nat.mul_comm]; exact Nat.div_add_mod j K.size
  have h1 := hK.all_at l _ _ hx _ hm
  rw [he] at h1
  rw [add_at]
  rcases h.cells with h0 | ⟨b', off', e, _, hc⟩
  · have hl0 : l.length = 0 := by have := h.length; omega
    exact absurd hil (by rw [hl0]; exact Nat.not_lt_zero _)
  · cases e
    have h2 := hc _ _ hx _ u (by rw [← h1]; exact hj)
    rwa [he] at h2
/-- A row that is the call's own. -/
def OwnRow (K : Kind α) (w : World) (base : Nat) (v : Value) (l : List α) : Prop := w.ownsRow base K.ty K.size v l.length (K.all l)
theorem ownRow_nil (K : Kind α) (w : World) (base : Nat) : OwnRow K w base (.slice none 0 0) [] := World.ownsRow_nil w base K.ty K.size
theorem OwnRow.on {base : Nat} {v : Value} {l : List α} (h : OwnRow K w base v l) (hb : Below w.heap.size w w') : OwnRow K w' base v l := owns_keep h hb (Nat.le_refl _)
theorem OwnRow.alloc {base : Nat} {v : Value} {l : List α} (h : OwnRow K w base v l) (o : Obj) : OwnRow K (w.alloc o) base v l := World.ownsRow.alloc h o
theorem OwnRow.lt {base : Nat} {v : Value} {l : List α} (h : OwnRow K w base v l) : ∀ k, v.ownBlock = some k → base ≤ k ∧ k < w.heap.size := World.ownsRow.lt h
theorem OwnRow.grown {base : Nat} {v : Value} {l : List α} {r : Option Nat} (h : OwnRow K w base v l) (hg : w.grownBy w' r) (hr : ∀ k, v.ownBlock = some k → some k ≠ r) : OwnRow K w' base v l := by
  refine World.ownsRow.kept h hg ?_
  cases hv : v.ownBlock with
  | none => exact .inl rfl
  | some k => exact .inr (hr k hv)
theorem OwnRow.at (hK : K.Ok bytes) {base : Nat} {v : Value} {l : List α} (h : OwnRow K w base v l) : ∃ ad cap, v = .slice ad l.length cap ∧ RowAt K w ad l.length cap l ∧ (∀ a, ad = some a → base ≤ a.block ∧ a.block < w.heap.size) := by
  rcases h.2 with ⟨rfl, h0⟩ | ⟨g, cap, cur, rfl, hb, hh, hc, _, hs, ht⟩
  · refine ⟨none, 0, by rw [h0], ?_, fun a ha => by cases ha⟩
    obtain rfl := List.eq_nil_of_length_eq_zero h0
    exact rowAt_nil w
  · refine ⟨_, cap, rfl, ⟨rfl, hc, (fun e => by cases e), .inr ⟨g, 0, rfl, (Array.getElem?_eq_some_iff.1 hh).1, fun i x hi j u hj => ?_⟩⟩, fun a ha => by cases ha; exact ⟨hb, (Array.getElem?_eq_some_iff.1 hh).1⟩⟩
    have hjs : j < K.size := by have := (List.getElem?_eq_some_iff.1 hj).1; rwa [hK.len] at this
    have h1 := hK.all_at l i x hi j hjs
    rw [hj, ← ht, List.getElem?_take] at h1
    rw [Nat.zero_add, cell_of_row w g _ _ _ _ hh]
    split at h1
    · simpa using h1
    · cases h1
/-- A block that was laid whole. -/
theorem ownRow_lit (hK : K.Ok bytes) (w : World) (base : Nat) (l : List α) (hb : base ≤ w.heap.size) (hm : l.length ≤ 1000000) (cs : Array Value) (hcs : cs = (K.all l).toArray) (n : Nat) (hn : l.length = n) : OwnRow K (w.alloc (.cells cs K.ty)) base (.slice (some ⟨w.heap.size, 0, none⟩) n n) l := by
  subst hcs hn
  have := World.ownsRow_lit (e := K.ty) (size := K.size) (base := base) w (K.all l).toArray l.length hb (by unfold maxLen; omega) (by rw [List.size_toArray, hK.all_len])
  unfold OwnRow
  simpa using this
theorem rowAt_lit (hK : K.Ok bytes) (w : World) (l : List α) (hm : l.length ≤ 1000000) (cs : Array Value) (hcs : cs = (K.all l).toArray) (n : Nat) (hn : l.length = n) : RowAt K (w.alloc (.cells cs K.ty)) (some ⟨w.heap.size, 0, none⟩) n n l := by
  obtain ⟨ad, cap, e, h, _⟩ := (ownRow_lit hK w 0 l (Nat.zero_le _) hm cs hcs n hn).at hK
  cases e
  exact h
theorem append_block (hK : K.Ok bytes) (w w' : World) (base : Nat) (v v' : Value) (l m : List α) (ty : Nat) (hown : OwnRow K w base v l) (a : Addr) (cap : Nat) (hnews : ∀ j u, (K.all m)[j]? = some u → w.cell? (a.add j) = some u) (hn : (l.length + m.length) * bytes ≤ 140737488355328) (hn2 : l.length + m.length ≤ 140737488355328)
    (hrun : (Builtin.append_ #[K.sl, K.sl] ty #[v, .slice (some a) m.length cap]).run Tryz.prog w = .ok v' w') : ∀ k, v'.ownBlock = some k → v.ownBlock = some k ∨ k = w.heap.size := by
  obtain ⟨i, z, hi, hz, hs, hby, hzs⟩ := hK.info
  have hu := hK.und
  have hml := hK.all_len m
  rw [← hs] at hml
  intro k hk
  rcases hown.2 with ⟨rfl, h0⟩ | ⟨g, cp, cur, rfl, hbg, hg, hnc, hcm, hcs, htake⟩
  · by_cases hm : m.length = 0
    · have : m = [] := List.eq_nil_of_length_eq_zero hm
      subst this
      have hrun2 : (Builtin.append_ #[K.sl, K.sl] ty #[.slice none 0 0, .slice (some a) 0 cap]).run Tryz.prog w = .ok (.slice none 0 0) w := by
        simp [Builtin.append_, run_underlying hu, sizeOf, typeInfo, hi, Builtin.lenOf, Builtin.firstCells, loadCells, loadCellsFrom]
      rw [List.length_nil, hrun2] at hrun
      injection hrun with e1 e2
      subst e1
      cases hk
    · rw [run_append_nil (P := Tryz.prog) w K.sl ty K.ty i z hu hi hz a m.length cap (K.all m) hml hnews (by omega) (by omega) (by rw [hby]; have : m.length * bytes ≤ (l.length + m.length) * bytes := Nat.mul_le_mul_right _ (by omega); omega)] at hrun
      injection hrun with e1 e2
      subst e1
      cases hk
      exact .inr rfl
  · by_cases hroom : l.length + m.length ≤ cp
    · rw [run_append_room (P := Tryz.prog) w K.sl ty K.ty i hu hi g l.length cp cur hg a m.length cap (K.all m) hml hnews (hK.all_one m) hroom (by rw [hml, hcs, ← hs, ← Nat.add_mul]; exact Nat.mul_le_mul_right _ hroom)] at hrun
      injection hrun with e1 e2
      subst e1
      exact .inl hk
    · have hlo : (K.all l).length = l.length * i.size := by rw [hs]; exact hK.all_len l
      rw [run_append_grow (P := Tryz.prog) w K.sl ty K.ty i z hu hi hz ⟨g, 0, none⟩ l.length cp (K.all l) hlo (World.ownsRow.cells hown (g := g) rfl) a m.length cap (K.all m) hml hnews (by omega) (by omega) (growslice_fits (by omega) (by rw [hby]; exact hn))] at hrun
      injection hrun with e1 e2
      subst e1
      cases hk
      exact .inr rfl
/-- append(v, m...), v the call's own, m any row, nil too. -/
theorem run_row_append (hK : K.Ok bytes) (w : World) (base : Nat) (v : Value) (l m : List α) (ty : Nat) (hown : OwnRow K w base v l) (ad : Option Addr) (n cap : Nat) (hr : RowAt K w ad n cap m) (hn : (l.length + n) * bytes ≤ 140737488355328) (hn2 : l.length + n ≤ 140737488355328) (hbase : base ≤ w.heap.size) :
    ∃ v' w', (Builtin.append_ #[K.sl, K.sl] ty #[v, .slice ad n cap]).run Tryz.prog w = .ok v' w' ∧ OwnRow K w' base v' (l ++ m) ∧ w.grownBy w' v.ownBlock ∧ (v ≠ .slice none 0 0 → v' ≠ .slice none 0 0) ∧ (∀ k, v'.ownBlock = some k → v.ownBlock = some k ∨ w.heap.size ≤ k) := by
  obtain ⟨i, z, hi, hz, hs, hby, hzs⟩ := hK.info
  obtain rfl := hr.length
  have hu := hK.und
  rcases ad with _ | ⟨b, off, x⟩
  · have hc := hr.room rfl
    have hf := hr.fits
    obtain rfl : m = [] := List.eq_nil_of_length_eq_zero (by omega)
    subst hc
    refine ⟨v, w, ?_, by rw [List.append_nil]; exact hown, ⟨rfl, rfl, rfl, Nat.le_refl _, fun _ _ _ => rfl⟩, fun h => h, fun k hk => .inl hk⟩
    exact run_append_owned_none (P := Tryz.prog) (w := w) base K.sl ty K.ty i K.size hu hi v _ _ hown
  · have hx : x = none ∨ m.length = 0 := by
      rcases hr.cells with h0 | ⟨_, _, e, _⟩
      · exact .inr h0
      · cases e; exact .inl rfl
    have hnews : ∀ j u, (K.all m)[j]? = some u → w.cell? ((⟨b, off, x⟩ : Addr).add j) = some u := by
      intro j u hj
      rcases hx with rfl | h0
      · exact hr.news hK j u hj
      · obtain rfl := List.eq_nil_of_length_eq_zero h0
        simp [Kind.all] at hj
    obtain ⟨v', w', hrun, h2, h3, h4⟩ := run_append_own (P := Tryz.prog) w base K.sl ty K.ty i z K.size bytes hu hi hz hs hby hzs hK.pos v l.length (K.all l) hown ⟨b, off, x⟩ m.length cap (K.all m) (hK.all_len m) hnews (hK.all_one m) (by unfold maxLen; omega) hn hbase
    refine ⟨v', w', hrun, ?_, h3, fun hne h => hne (h4.1 h).1, ?_⟩
    · unfold OwnRow
      rw [K.all_app, List.length_append]
      exact h2
    · intro k hk
      rcases append_block hK w w' base v v' l m ty hown _ cap hnews hn hn2 hrun k hk with h | h
      · exact .inl h
      · exact .inr (by omega)
/-- What an append leaves. -/
def Appended (K : Kind α) (w : World) (base : Nat) (v : Value) (l : List α) (v' : Value) (w' : World) : Prop :=
  OwnRow K w' base v' l ∧ w.grownBy w' v.ownBlock ∧ (v ≠ .slice none 0 0 → v' ≠ .slice none 0 0) ∧ (∀ k, v'.ownBlock = some k → v.ownBlock = some k ∨ w.heap.size ≤ k)
/-- The operation in a plain list of operations, behind a guard that says yes or with none. -/
theorem list_row {w : World} {ops : Array Oper} {rest : List Oper} {o : Oper} {a : Act} {Q : Exit → Act → World → Prop} (hw : Region.wanted o (yielded ops a.tmps) = true) (hK : K.Ok bytes) (s x : Operand)
    (ho : o.op = .call { callee := .builtin .append, args := #[s, x], argTypes := #[K.sl, K.sl] })
    (base : Nat) (l m : List α) (v : Value) (hs : a.eval s = v) (hown : OwnRow K w base v l) (hbase : base ≤ w.heap.size)
    (ad : Option Addr) (n cap : Nat) (hx : a.eval x = .slice ad n cap) (hr : RowAt K w ad n cap m) (hn : l.length + n ≤ 100000000000)
    (h : ∀ v' w', Appended K w base v (l ++ m) v' w' → wpList Tryz.prog ops Q rest (a.put o.dst v') w') :
    wpList Tryz.prog ops Q (o :: rest) a w := by
  refine BigFrame.wpList_want hw fun C hC => ?_
  have hf := hK.few
  obtain ⟨v', w', hrun, h2⟩ := run_row_append hK w base v l m o.type hown ad n cap hr (Nat.le_trans (Nat.mul_le_mul hn hf) (by omega)) (by omega) hbase
  unfold Oper.wp execOp
  simp only [ho, resolve, invoke, builtin, Sem.run_bind, Sem.run_pure, Result.andThen_ok, List.map_toArray, List.map_cons, List.map_nil, hs, hx, hrun]
  exact hC _ _ (h v' w' h2)
/-- The operation in a region that draws its order. -/
theorem held_row {w : World} {ops : Array Oper} {o : Oper} {a : Act} {C : Act → World → Prop} {Q : Exit → Act → World → Prop} {Z : Prop} [Decidable (Region.wanted o (yielded ops a.tmps) = true)] (hw : Region.wanted o (yielded ops a.tmps) = true) (hK : K.Ok bytes) (s x : Operand)
    (ho : o.op = .call { callee := .builtin .append, args := #[s, x], argTypes := #[K.sl, K.sl] })
    (base : Nat) (l m : List α) (v : Value) (hs : a.eval s = v) (hown : OwnRow K w base v l) (hbase : base ≤ w.heap.size)
    (ad : Option Addr) (n cap : Nat) (hx : a.eval x = .slice ad n cap) (hr : RowAt K w ad n cap m) (hn : l.length + n ≤ 100000000000)
    (h : ∀ v' w', Appended K w base v (l ++ m) v' w' → C (a.put o.dst v') w') :
    if Region.wanted o (yielded ops a.tmps) = true then Oper.wp Tryz.prog o a w C Q else Z := by
  rw [if_pos hw]
  have hf := hK.few
  obtain ⟨v', w', hrun, h2⟩ := run_row_append hK w base v l m o.type hown ad n cap hr (Nat.le_trans (Nat.mul_le_mul hn hf) (by omega)) (by omega) hbase
  unfold Oper.wp execOp
  simp only [ho, resolve, invoke, builtin, Sem.run_bind, Sem.run_pure, Result.andThen_ok, List.map_toArray, List.map_cons, List.map_nil, hs, hx, hrun]
  exact h v' w' h2
end Go.Proofs.YtmnjobiipfgpoaaGreat
