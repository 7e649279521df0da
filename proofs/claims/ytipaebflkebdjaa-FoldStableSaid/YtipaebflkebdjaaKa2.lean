/- Parts of a proof, merged: Bytes, Rows2, KindBytes, Bats, BatPlain, BatPlain2, VarBase, VarSmall, VarRoomy, VarPut, VarScan, VarGet, VarRefPut, VarBack, VarRefGet, VarCut, VarLong. -/
import Derived.Test.YtipaebflkebdjaaRows
import Derived.WalkKit
import Derived.IntWalk
import Derived.Lib.Hide
import Derived.Lib.SlBytesConst
import Derived.Laws.BitsAllLaws
import Derived.Laws.CopyOwn
import Derived.Laws.AppendOwnNone
import Derived.Laws.BytesString
import Derived.BigFrame
import Derived.OpenShut
import Derived.WalkSmall
import Derived.Deep.RegionHeld3
import Derived.OwnWalk
import Derived.BigQuiet
import Derived.Deep.QuietTactic
import Derived.Outline
import Derived.Deep.Cut
import Derived.Deep.CutRange
import Derived.Lib.AppendStr
import Derived.Deep.RegionWith
import Derived.Test.YtipaebflkebdjaaKa1
namespace Go.Proofs.Ytipaebflkebdjaa
open Go.RowKit Go.OpenShut
set_option linter.unusedVariables false

abbrev AllB (bs : List Nat) : Prop := ∀ x ∈ bs, x < 256
/-- A slice of bytes reads as bs: it is empty, or its cells lie in one block, one behind the other. -/
structure Byt (w : World) (ad : Option Addr) (len cap : Nat) (bs : List Nat) : Prop where
 length : bs.length = len
 fits : len ≤ cap
 all : AllB bs
 cells : len = 0 ∨ ∃ b off, ad = some ⟨b, off, none⟩ ∧ ∀ i, i < len → w.cell? ⟨b, off + i, none⟩ = some (.int .u8 (bs.getD i 0 : Nat))

theorem getD_all {bs : List Nat} (h : AllB bs) (k : Nat) : bs.getD k 0 < 256 := by
 rw [List.getD_eq_getElem?_getD]
 rcases hk : bs[k]? with _ | x
 · decide
 · exact h x (List.mem_of_getElem? hk)
theorem take_all {bs : List Nat} (h : AllB bs) (k : Nat) : AllB (bs.take k) := fun x hx => h x (List.mem_of_mem_take hx)

def byte (b : Nat) : Value := .int .u8 (b : Int)
def vals (bs : List Nat) : List Value := bs.map byte
/-- Block g is known whole: the bytes bs. -/
def Own (w : World) (g : Nat) (bs : List Nat) : Prop := w.heap[g]? = some (.cells (vals bs).toArray 5 (0, 0))
theorem length_vals (bs : List Nat) : (vals bs).length = bs.length := by simp [vals]
theorem vals_append (a b : List Nat) : vals (a ++ b) = vals a ++ vals b := by simp [vals]
theorem Own.cell {w : World} {g : Nat} {bs : List Nat} (h : Own w g bs) (i : Nat) (hi : i < bs.length) : w.cell? ⟨g, i, none⟩ = some (.int .u8 (bs.getD i 0 : Nat)) := by
 rw [cell_of_row w g i _ _ _ h]
 simp [vals, hi, byte]
theorem Own.free {w : World} {g : Nat} {bs : List Nat} (h : Own w g bs) (i : Nat) : w.frozen? ⟨g, i, none⟩ = false := frozen_of_row w g i _ _ h
theorem Own.byt {w : World} {g : Nat} {bs : List Nat} (h : Own w g bs) (ha : AllB bs) (cap : Nat) (hc : bs.length ≤ cap) : Byt w (some ⟨g, 0, none⟩) bs.length cap bs :=
 ⟨rfl, hc, ha, .inr ⟨g, 0, rfl, fun i hi => by rw [Nat.zero_add]; exact h.cell i hi⟩⟩
theorem Own.keep {w w' : World} {g : Nat} {bs : List Nat} (h : Own w g bs) {B : Nat} (hb : Below B w w') (hg : g < B) : Own w' g bs := by
 show w'.heap[g]? = _
 rw [hb.block g hg]; exact h
theorem Own.lt {w : World} {g : Nat} {bs : List Nat} (h : Own w g bs) : g < w.heap.size := (Array.getElem?_eq_some_iff.1 h).1
theorem Own.set {w : World} {g : Nat} {bs : List Nat} (h : Own w g bs) (i : Nat) (x : Nat) : Own (w.setCell ⟨g, i, none⟩ (.int .u8 x)) g (bs.set i x) := by
 have := heap_setCell_same w g i _ _ (.int .u8 x) h
 show (w.setCell ⟨g, i, none⟩ (.int .u8 x)).heap[g]? = some (.cells (vals (bs.set i x)).toArray 5 (0, 0))
 rw [this]
 congr 2
 simp [vals, byte]
theorem Byt.keep {w w' : World} {ad : Option Addr} {len cap : Nat} {bs : List Nat} (h : Byt w ad len cap bs) {B : Nat} (hb : Below B w w') (hB : w.heap.size ≤ B) : Byt w' ad len cap bs := by
 refine ⟨h.length, h.fits, h.all, ?_⟩
 rcases h.cells with h0 | ⟨b, off, e, hc⟩
 · exact .inl h0
 · refine .inr ⟨b, off, e, fun i hi => ?_⟩
   have := hc i hi
   rw [hb.cell (p := ⟨b, off + i, none⟩) (by have := World.block_lt_of_cell? w _ this; exact Nat.lt_of_lt_of_le this hB)]
   exact this
theorem info5 : (Try.prog.info? 5).map (fun i => (i.zero, i.size, i.bytes)) = some (some (.int .u8 0), 1, 1) := by kernel_rfl

theorem size5 : (Try.prog.info? 5).map (·.size) = some 1 := by kernel_rfl
theorem vals_one (bs : List Nat) : ∀ v ∈ vals bs, v.oneCell' = true := by
 intro v hv
 obtain ⟨b, _, rfl⟩ := List.mem_map.1 hv
 rfl
theorem Byt.source {w : World} {ad : Option Addr} {len cap : Nat} {bs : List Nat} (h : Byt w ad len cap bs) (hp : 0 < len) : ∃ a, ad = some a ∧ ∀ j v, (vals bs)[j]? = some v → w.cell? (a.add j) = some v := by
 rcases h.cells with h0 | ⟨b, off, e, hc⟩
 · omega
 · refine ⟨_, e, fun j v hj => ?_⟩
   have hjl : j < bs.length := by
    have := (List.getElem?_eq_some_iff.1 hj).1
    simpa [vals] using this
   have h1 := hc j (by rw [h.length] at hjl; exact hjl)
   have h2 : (⟨b, off, none⟩ : Addr).add j = ⟨b, off + j, none⟩ := by
    unfold Addr.add
    split
    · rename_i h3; subst h3; rfl
    · rfl
   rw [h2, h1]
   rw [← hj]
   simp [vals, byte, hjl]
theorem Byt.alike {w w' : World} {ad : Option Addr} {len cap : Nat} {bs : List Nat} (h : Byt w ad len cap bs) (hc : ∀ a, w'.cell? a = w.cell? a) : Byt w' ad len cap bs := by
 refine ⟨h.length, h.fits, h.all, ?_⟩
 rcases h.cells with h0 | ⟨b, off, e, hc'⟩
 · exact .inl h0
 · exact .inr ⟨b, off, e, fun i hi => (hc _).trans (hc' i hi)⟩
theorem Byt.drewN {w : World} {ad : Option Addr} {len cap : Nat} {bs : List Nat} (h : Byt w ad len cap bs) (n : Nat) : Byt (w.drewN n) ad len cap bs := h.alike fun a => by simp

theorem add_at (b o j : Nat) : (⟨b, o, none⟩ : Addr).add j = ⟨b, o + j, none⟩ := by
 unfold Addr.add
 split
 · rename_i h; subst h; rfl
 · rfl
/-- Block g begins with the bytes bs. -/
def Pre (w : World) (g : Nat) (bs : List Nat) : Prop := ∃ cur : Array Value, w.heap[g]? = some (.cells cur 5 (0, 0)) ∧ cur.toList.take bs.length = vals bs
theorem Own.pre {w : World} {g : Nat} {bs : List Nat} (h : Own w g bs) : Pre w g bs := ⟨_, h, by rw [← length_vals]; simp⟩
theorem Pre.cell {w : World} {g : Nat} {bs : List Nat} (h : Pre w g bs) (i : Nat) (hi : i < bs.length) : w.cell? ⟨g, i, none⟩ = some (.int .u8 (bs.getD i 0 : Nat)) := by
 obtain ⟨cur, hg, ht⟩ := h
 rw [cell_of_row w g i _ _ _ hg]
 have h1 : (cur.toList.take bs.length)[i]? = cur[i]? := by rw [List.getElem?_take, if_pos hi]; simp
 rw [← h1, ht]
 simp [vals, hi, byte]
theorem Pre.free {w : World} {g : Nat} {bs : List Nat} (h : Pre w g bs) (i : Nat) : w.frozen? ⟨g, i, none⟩ = false := by
 obtain ⟨cur, hg, _⟩ := h
 exact frozen_of_row w g i _ _ hg
theorem Pre.byt {w : World} {g : Nat} {bs : List Nat} (h : Pre w g bs) (ha : AllB bs) (cap : Nat) (hc : bs.length ≤ cap) : Byt w (some ⟨g, 0, none⟩) bs.length cap bs :=
 ⟨rfl, hc, ha, .inr ⟨g, 0, rfl, fun i hi => by rw [Nat.zero_add]; exact h.cell i hi⟩⟩
theorem Pre.keep {w w' : World} {g : Nat} {bs : List Nat} (h : Pre w g bs) {B : Nat} (hb : Below B w w') (hg : g < B) : Pre w' g bs := by
 obtain ⟨cur, h1, h2⟩ := h
 exact ⟨cur, by rw [hb.block g hg]; exact h1, h2⟩
theorem Pre.lt {w : World} {g : Nat} {bs : List Nat} (h : Pre w g bs) : g < w.heap.size := by
 obtain ⟨cur, hg, _⟩ := h
 exact (Array.getElem?_eq_some_iff.1 hg).1
theorem Pre.set {w : World} {g : Nat} {bs : List Nat} (h : Pre w g bs) (i : Nat) (x : Nat) : Pre (w.setCell ⟨g, i, none⟩ (.int .u8 x)) g (bs.set i x) := by
 obtain ⟨cur, h1, h2⟩ := h
 refine ⟨_, heap_setCell_same w g i _ _ (.int .u8 x) h1, ?_⟩
 rw [List.length_set, Array.toList_setIfInBounds, List.take_set, h2]
 simp [vals, byte]
theorem pre_owns {w : World} {base g n cap : Nat} {bs : List Nat} (h : w.ownsRow base 5 1 (.slice (some ⟨g, 0, none⟩) n cap) n (vals bs)) : Pre w g bs ∧ bs.length = n ∧ n ≤ cap ∧ base ≤ g ∧ cap ≤ maxLen := by
 have hl := h.1
 rcases h.2 with ⟨h', _⟩ | ⟨g', cap', cur, h', hb, hg, hc, hm, hs, htake⟩
 · simp at h'
 · simp only [Value.slice.injEq, Option.some.injEq, Addr.mk.injEq, and_true, true_and] at h'
   obtain ⟨rfl, rfl⟩ := h'
   have hn : bs.length = n := by simpa [length_vals] using hl
   exact ⟨⟨cur, hg, by rw [hn]; simpa using htake⟩, hn, hc, hb, hm⟩
/-- What 'Sealed' and its like give: a slice at the head of a new block, which begins with bs. -/
def Made (w : World) (bs : List Nat) (v : Value) (w' : World) : Prop := ∃ g cap, v = .slice (some ⟨g, 0, none⟩) bs.length cap ∧ bs.length ≤ cap ∧ w.heap.size ≤ g ∧ Pre w' g bs ∧ Below w.heap.size w w'
def GivesMade (w : World) (bs : List Nat) (e : Ending) (w' : World) : Prop := ∃ v, e = .returned v ∧ Made w bs v w'
theorem made_of {w w' : World} {bs : List Nat} {v' : Value} (h : w'.ownsRow w.heap.size 5 1 v' bs.length (vals bs)) (hn : 0 < bs.length) (hb : Below w.heap.size w w') : Made w bs v' w' := by
 rcases h.2 with ⟨h', h0⟩ | ⟨g', cap', cur, rfl, _⟩
 · omega
 · obtain ⟨h1, h2, h3, h4, h5⟩ := pre_owns h
   exact ⟨g', cap', rfl, h3, h4, h1, hb⟩

def str (bs : List Nat) : ByteArray := ⟨(bs.map UInt8.ofNat).toArray⟩
theorem foldl_push (bs : List Int) (s : ByteArray) : (bs.foldl (fun r n => r.push (UInt8.ofNat n.toNat)) s).data.toList = s.data.toList ++ bs.map (fun n => UInt8.ofNat n.toNat) := by
 induction bs generalizing s with
 | nil => simp
 | cons b bs ih => rw [List.foldl_cons, ih]; simp [ByteArray.push]
theorem str_eq (bs : List Nat) : ((bs.map Int.ofNat).foldl (fun r n => r.push (UInt8.ofNat n.toNat)) ByteArray.empty) = str bs := by
 apply ByteArray.ext
 apply Array.toList_inj.1
 rw [foldl_push]
 have e : (ByteArray.empty : ByteArray).data.toList = [] := rfl
 rw [e]
 simp [str, Function.comp_def]
theorem ints_vals (bs : List Nat) : (bs.map Int.ofNat).map (Value.int .u8) = vals bs := by simp only [vals, List.map_map]; rfl
theorem run_str {w : World} {ad : Option Addr} {len cap : Nat} {bs : List Nat} (h : Byt w ad len cap bs) : (convert 116 9 (.slice ad len cap)).run Try.prog w = .ok (.string (str bs)) w := by
 rw [run_convert_bytes_string w 116 9 5 ad len cap Try.underlying116 Try.underlying5 Try.underlying9]
 rcases ad with _ | a
 · have : len = 0 := by
    rcases h.cells with h0 | ⟨b, off, e, _⟩
    · exact h0
    · cases e
   subst this
   obtain rfl : bs = [] := List.eq_nil_of_length_eq_zero h.length
   simp [Conv.bytesToString, Sem.run_pure, str]; rfl
 · have hl := h.length
   have hc : ∀ j v, (vals bs)[j]? = some v → w.cell? (a.add j) = some v := by
    intro j v hj
    have hjl : j < bs.length := by
     have := (List.getElem?_eq_some_iff.1 hj).1
     rwa [length_vals] at this
    obtain ⟨a', ha', hs⟩ := h.source (by omega)
    obtain rfl := Option.some.inj ha'
    exact hs j v hj
   have h1 := run_loadCells_list (P := Try.prog) (w := w) a (vals bs) hc
   rw [length_vals, hl, ← ints_vals] at h1
   rw [run_bytesToString w a len cap _ h1, str_eq]
theorem own_new (w : World) (bs : List Nat) : Own (w.alloc (.cells (vals bs).toArray 5)) w.heap.size bs := heap_alloc_new w _
theorem Byt.nil (w : World) : Byt w none 0 0 [] := ⟨rfl, Nat.le_refl _, (fun x hx => by cases hx), .inl rfl⟩

theorem all_small {bs : List Nat} (h : bs.all (· < 256) = true) : AllB bs := by
 intro x hx
 have := List.all_eq_true.1 h x hx
 simpa using this
def IsRow (k : IntKind) (w : World) (a : Option Addr) (len cap : Nat) (zs : List Int) : Prop :=
 (a = none ∧ len = 0 ∧ cap = 0 ∧ zs = []) ∨
 ∃ x, a = some x ∧ len ≤ cap ∧ cap ≤ maxLen ∧ zs.length = cap ∧ (∀ i, i < zs.length → w.cell? (x.add i) = some (.int k (zs.getD i 0))) ∧ ∀ n ∈ zs, (Lit.int k n).wf = true

/-- The bytes of a slice that came in, as numbers. -/
def bytesOf (len : Nat) (zs : List Int) : List Nat := (zs.take len).map Int.toNat
theorem wf_byte {n : Int} (h : (Lit.int .u8 n).wf = true) : 0 ≤ n ∧ n < 256 := by
 have := bounds_u8 h
 omega
theorem IsRow.byt {w : World} {a : Option Addr} {len cap : Nat} {zs : List Int} (h : IsRow .u8 w a len cap zs) : Byt w a len cap (bytesOf len zs) ∧ (a = none → cap = 0) := by
 rcases h with ⟨rfl, rfl, rfl, rfl⟩ | ⟨x, rfl, hl, hm, hz, hc, hw⟩
 · exact ⟨Byt.nil w, fun _ => rfl⟩
 · refine ⟨⟨by simp [bytesOf]; omega, hl, ?_, ?_⟩, fun e => by cases e⟩
   · intro y hy
     obtain ⟨n, hn, rfl⟩ := List.mem_map.1 hy
     have := wf_byte (hw n (List.mem_of_mem_take hn))
     omega
   · by_cases h0 : len = 0
     · exact .inl h0
     · obtain ⟨b, off, spot⟩ := x
       have h1 := hc 0 (by omega)
       have hs : spot = none := by simpa [Addr.add] using World.cell?_spot h1
       subst hs
       refine .inr ⟨b, off, rfl, fun i hi => ?_⟩
       have h2 := hc i (by omega)
       rw [add_at] at h2
       rw [h2]
       have hi2 : i < zs.length := by omega
       have h3 := wf_byte (hw (zs.getD i 0) (by rw [List.getD_eq_getElem?_getD, List.getElem?_eq_getElem hi2]; simp))
       have h4 : ((bytesOf len zs).getD i 0 : Nat) = (zs.getD i 0).toNat := by
        simp [bytesOf, List.getD_eq_getElem?_getD, hi, hi2]
       rw [h4, Int.toNat_of_nonneg h3.1]
/-- A slice of bytes, and, if it is nil, it has no room. -/
def Row (w : World) (ad : Option Addr) (len cap : Nat) (bs : List Nat) : Prop := Byt w ad len cap bs ∧ (ad = none → cap = 0)
theorem Row.keep {w w' : World} {ad : Option Addr} {len cap : Nat} {bs : List Nat} (h : Row w ad len cap bs) {B : Nat} (hb : Below B w w') (hB : w.heap.size ≤ B) : Row w' ad len cap bs := ⟨h.1.keep hb hB, h.2⟩
theorem Row.all {w : World} {ad : Option Addr} {len cap : Nat} {bs : List Nat} (h : Row w ad len cap bs) : AllB bs := h.1.all
theorem Row.len {w : World} {ad : Option Addr} {len cap : Nat} {bs : List Nat} (h : Row w ad len cap bs) : bs.length = len := h.1.length

/-- 'append(v, xs...)', v the call's own, xs any slice of bytes, nil too. -/
theorem append_row {w : World} {ops : Array Oper} {rest : List Oper} {o : Oper} {a : Act} {Q : Exit → Act → World → Prop} (hgd : o.guard = none) (s x : Operand)
 (ho : o.op = .call { callee := .builtin .append, args := #[s, x], argTypes := #[116, 116] })
 (base n : Nat) (xs ys : List Nat) (v : Value) (hs : a.eval s = v) (hown : w.ownsRow base 5 1 v n (vals xs)) (hv : v ≠ .slice none 0 0) (hbase : base ≤ w.heap.size)
 (ad : Option Addr) (len cap : Nat) (hx : a.eval x = .slice ad len cap) (hr : Row w ad len cap ys) (hn : n + len ≤ 140737488355328)
 (w0 : World) (hb0 : Below base w0 w)
 (h : ∀ g cp w', w'.ownsRow base 5 1 (.slice (some ⟨g, 0, none⟩) (n + len) cp) (n + len) (vals (xs ++ ys)) → Below base w0 w' → wpList Try.prog ops Q rest (a.put o.dst (.slice (some ⟨g, 0, none⟩) (n + len) cp)) w') :
 wpList Try.prog ops Q (o :: rest) a w := by
 obtain ⟨i0, hi, hz0, hz1, hz2⟩ := info_parts info5
 rcases ad with _ | ad
 · have hcap := hr.2 rfl
   have hl := hr.1.fits
   have hyl := hr.1.length
   subst hcap
   obtain rfl : len = 0 := by omega
   obtain rfl : ys = [] := List.eq_nil_of_length_eq_zero hyl
   refine wpList_append_own_none hgd s x 116 ho base 5 i0 1 Try.underlying116 hi v n (vals xs) hs hown hx ?_
   rcases hown.2 with ⟨h', _⟩ | ⟨g, cp, cur, rfl, _⟩
   · exact absurd h' hv
   · exact h g cp w (by simpa using hown) hb0
 · refine wpList_append_own _ hgd s x 116 ho base 5 i0 (.int .u8 0) 1 1 Try.underlying116 hi hz0 hz1 hz2 rfl (by decide) v n (vals xs) hs hown ad len cap (vals ys) hx (by rw [length_vals, hr.1.length]; simp) (by
    intro j u hj
    have hjl : j < ys.length := by
     have := (List.getElem?_eq_some_iff.1 hj).1
     rwa [length_vals] at this
    obtain ⟨a', ha', hs'⟩ := hr.1.source (by have := hr.1.length; omega)
    obtain rfl := Option.some.inj ha'
    exact hs' j u hj) (vals_one ys) (by unfold maxLen; omega) (by omega) hbase ?_
   intro v' w' hown' hgrow hnn
   rw [← vals_append] at hown'
   have hb : Below base w0 w' := hb0.grown hgrow hbase (fun k hk => (hown.lt k hk).1)
   rcases hown'.2 with ⟨h', _⟩ | ⟨g, cp, cur, rfl, _⟩
   · exact absurd (hnn.1 h').1 hv
   · exact h g cp w' hown' hb
theorem own_empty (W : World) (base : Nat) (h : base ≤ W.heap.size) : (W.alloc (.cells #[] 5)).ownsRow base 5 1 (.slice (some ⟨W.heap.size, 0, none⟩) 0 0) 0 (vals []) := World.ownsRow_lit (e := 5) (size := 1) W #[] 0 h (by decide) rfl
theorem some_ne (a : Addr) (l c : Nat) : (Value.slice (some a) l c) ≠ .slice none 0 0 := by intro h; cases h
theorem owns_row {w : World} {base n g cp : Nat} {bs : List Nat} (h : w.ownsRow base 5 1 (.slice (some ⟨g, 0, none⟩) n cp) n (vals bs)) (ha : AllB bs) : Row w (some ⟨g, 0, none⟩) n cp bs := by
 obtain ⟨h1, h2, h3, h4, h5⟩ := pre_owns h
 have := h1.byt ha cp (by omega)
 rw [h2] at this
 exact ⟨this, fun h => by cases h⟩
theorem all_append {a b : List Nat} (ha : AllB a) (hb : AllB b) : AllB (a ++ b) := by
 intro x hx
 rcases List.mem_append.1 hx with h | h
 · exact ha x h
 · exact hb x h
theorem all_one : AllB [1] := all_small (by decide)

/-- A value that reads as the text t, in every world that has not turned since w. -/
def ReadsAs (w : World) (v : Value) (t : ByteArray) : Prop := ∀ W, Below w.heap.size w W → (convert 116 9 v).run Try.prog W = .ok (.string t) W
theorem ReadsAs.of {w : World} {a : Option Addr} {l c : Nat} {bs : List Nat} (h : Byt w a l c bs) : ReadsAs w (.slice a l c) (str bs) := fun W hW => run_str (h.keep hW (Nat.le_refl _))
theorem owns_keep {w w' : World} {base e size n : Nat} {v : Value} {xs : List Value} (h : w.ownsRow base e size v n xs) {B : Nat} (hb : Below B w w') (hB : w.heap.size ≤ B) : w'.ownsRow base e size v n xs := by
 refine ⟨h.1, ?_⟩
 rcases h.2 with h0 | ⟨g, cap, cur, hv, hg, hh, r⟩
 · exact .inl h0
 · refine .inr ⟨g, cap, cur, hv, hg, ?_, r⟩
   rw [hb.block g (Nat.lt_of_lt_of_le (Array.getElem?_eq_some_iff.1 hh).1 hB)]
   exact hh
/-- A value that reads as the text s, in every world that has not turned since w. -/
def Reads (w : World) (v : Value) (s : ByteArray) : Prop := ∀ W, Below w.heap.size w W → (convert 116 9 v).run Try.prog W = .ok (.string s) W
theorem Reads.of {w : World} {a : Option Addr} {l c : Nat} {bs : List Nat} (h : Byt w a l c bs) : Reads w (.slice a l c) (str bs) := fun W hW => run_str (h.keep hW (Nat.le_refl _))
theorem Reads.keep {w w' : World} {v : Value} {s : ByteArray} (h : Reads w v s) (hb : Below w.heap.size w w') : Reads w' v s := fun W hW => h W (hb.trans (hW.mono hb.size))
end Go.Proofs.Ytipaebflkebdjaa
namespace Go.Proofs.Ytipaebflkebdjaa
open Go.RowKit Go.OpenShut
set_option linter.unusedVariables false

/-- How things of one kind lie in memory. -/
structure Kind (α : Type) where
 enc : α → List Value
 size : Nat
 ty : TypeId
 sl : TypeId
structure Kind.Ok {α : Type} (K : Kind α) (bytes : Nat) : Prop where
 und : Try.prog.underlying K.sl = some (.slice K.ty)
 info : ∃ i z, Try.prog.info? K.ty = some i ∧ i.zero = some z ∧ i.size = K.size ∧ i.bytes = bytes ∧ z.cells.size = K.size
 len : ∀ x, (K.enc x).length = K.size
 pos : 0 < K.size
 one : ∀ x, ∀ u ∈ K.enc x, u.oneCell' = true
 few : bytes ≤ 1000
variable {α : Type} {K : Kind α} {bytes : Nat} {w w' : World}
def Kind.all (K : Kind α) (l : List α) : List Value := l.flatMap K.enc
theorem Kind.Ok.all_len (hK : K.Ok bytes) : ∀ l : List α, (K.all l).length = l.length * K.size
 | [] => by simp [Kind.all]
 | x :: l => by
   have := Kind.Ok.all_len hK l
   unfold Kind.all at *
   rw [List.flatMap_cons, List.length_append, this, hK.len, List.length_cons, Nat.succ_mul, Nat.add_comm]
theorem Kind.all_app (K : Kind α) (a b : List α) : K.all (a ++ b) = K.all a ++ K.all b := by simp [Kind.all]
theorem Kind.Ok.all_one (hK : K.Ok bytes) (l : List α) : ∀ u ∈ K.all l, u.oneCell' = true := by
 intro u hu
 obtain ⟨x, _, hx⟩ := List.mem_flatMap.1 hu
 exact hK.one x u hx
theorem Kind.Ok.all_at (hK : K.Ok bytes) : ∀ (l : List α) (i : Nat) (x : α), l[i]? = some x → ∀ j, j < K.size → (K.all l)[i * K.size + j]? = (K.enc x)[j]?
 | [], i, x, h, j, hj => by cases h
 | y :: l, 0, x, h, j, hj => by
   cases h
   show ((y :: l).flatMap K.enc)[0 * K.size + j]? = _
   rw [List.flatMap_cons, Nat.zero_mul, Nat.zero_add, List.getElem?_append_left (by rw [hK.len]; exact hj)]
 | y :: l, i + 1, x, h, j, hj => by
   have ih := Kind.Ok.all_at hK l i x h j hj
   show ((y :: l).flatMap K.enc)[(i + 1) * K.size + j]? = _
   rw [List.flatMap_cons, List.getElem?_append_right (by rw [hK.len, Nat.succ_mul]; omega), hK.len, show (i + 1) * K.size + j - K.size = i * K.size + j by rw [Nat.succ_mul]; omega]
   exact ih
/-- A slice reads as l. -/
structure RowAt (K : Kind α) (w : World) (ad : Option Addr) (len cap : Nat) (l : List α) : Prop where
 length : l.length = len
 fits : len ≤ cap
 room : ad = none → cap = 0
 cells : len = 0 ∨ ∃ b off, ad = some ⟨b, off, none⟩ ∧ b < w.heap.size ∧ ∀ i x, l[i]? = some x → ∀ j u, (K.enc x)[j]? = some u → w.cell? ⟨b, off + (i * K.size + j), none⟩ = some u
theorem RowAt.keep {ad : Option Addr} {len cap : Nat} {l : List α} (h : RowAt K w ad len cap l) (hb : Below w.heap.size w w') : RowAt K w' ad len cap l := by
 refine ⟨h.length, h.fits, h.room, ?_⟩
 rcases h.cells with h0 | ⟨b, off, e, hlt, hc⟩
 · exact .inl h0
 · refine .inr ⟨b, off, e, Nat.lt_of_lt_of_le hlt hb.size, fun i x hi j u hj => ?_⟩
   rw [hb.cell (p := ⟨b, off + (i * K.size + j), none⟩) hlt]
   exact hc i x hi j u hj
/-- Every block but one is as it was, and the row does not lie in that one. -/
theorem RowAt.grown {ad : Option Addr} {len cap : Nat} {l : List α} {r : Option Nat} (h : RowAt K w ad len cap l) (hg : w.grownBy w' r) (hr : ∀ a, ad = some a → some a.block ≠ r) : RowAt K w' ad len cap l := by
 refine ⟨h.length, h.fits, h.room, ?_⟩
 rcases h.cells with h0 | ⟨b, off, e, hlt, hc⟩
 · exact .inl h0
 · exact .inr ⟨b, off, e, Nat.lt_of_lt_of_le hlt hg.size, fun i x hi j u hj => hg.cell (hc i x hi j u hj) (show some b ≠ r from hr _ e)⟩
theorem rowAt_nil (w : World) : RowAt K w none 0 0 ([] : List α) := ⟨rfl, Nat.le_refl _, fun _ => rfl, .inl rfl⟩
theorem RowAt.zero (w : World) {ad : Option Addr} {cap : Nat} (h : ad = none → cap = 0) : RowAt K w ad 0 cap ([] : List α) := ⟨rfl, Nat.zero_le _, h, .inl rfl⟩
/-- The thing at i. -/
theorem RowAt.get {ad : Option Addr} {len cap : Nat} {l : List α} (h : RowAt K w ad len cap l) {i : Nat} (hi : i < len) :
 ∃ b off x, ad = some ⟨b, off, none⟩ ∧ b < w.heap.size ∧ l[i]? = some x ∧ ∀ j u, (K.enc x)[j]? = some u → w.cell? ⟨b, off + (i * K.size + j), none⟩ = some u := by
 have hl := h.length
 rcases h.cells with h0 | ⟨b, off, e, hlt, hc⟩
 · omega
 · have hx : l[i]? = some (l[i]'(by omega)) := List.getElem?_eq_getElem (by omega)
   exact ⟨b, off, _, e, hlt, hx, hc i _ hx⟩
theorem RowAt.news (hK : K.Ok bytes) {b off len cap : Nat} {l : List α} (h : RowAt K w (some ⟨b, off, none⟩) len cap l) : ∀ j u, (K.all l)[j]? = some u → w.cell? ((⟨b, off, none⟩ : Addr).add j) = some u := by
 intro j u hj
 have hjl : j < l.length * K.size := by
  have := (List.getElem?_eq_some_iff.1 hj).1
  rwa [hK.all_len] at this
 have hp := hK.pos
 have hil : j / K.size < l.length := Nat.div_lt_of_lt_mul (by rwa [Nat.mul_comm])
 have hx : l[j / K.size]? = some (l[j / K.size]'hil) := List.getElem?_eq_getElem hil
 have hm := Nat.mod_lt j hp
 have he : j / K.size * K.size + j % K.size = j := by rw [Nat.mul_comm]; exact Nat.div_add_mod j K.size
 have h1 := hK.all_at l _ _ hx _ hm
 rw [he] at h1
 rw [add_at]
 rcases h.cells with h0 | ⟨b', off', e, _, hc⟩
 · have hl0 : l.length = 0 := by have := h.length; omega
   exact absurd hil (by rw [hl0]; exact Nat.not_lt_zero _)
 · cases e
   have h2 := hc _ _ hx _ u (by rw [← h1]; exact hj)
   rwa [he] at h2
/-- A row that is the call's own. -/
def OwnRow (K : Kind α) (w : World) (base : Nat) (v : Value) (l : List α) : Prop := w.ownsRow base K.ty K.size v l.length (K.all l)
theorem ownRow_nil (K : Kind α) (w : World) (base : Nat) : OwnRow K w base (.slice none 0 0) [] := World.ownsRow_nil w base K.ty K.size
theorem OwnRow.on {base : Nat} {v : Value} {l : List α} (h : OwnRow K w base v l) (hb : Below w.heap.size w w') : OwnRow K w' base v l := owns_keep h hb (Nat.le_refl _)
theorem OwnRow.alloc {base : Nat} {v : Value} {l : List α} (h : OwnRow K w base v l) (o : Obj) : OwnRow K (w.alloc o) base v l := World.ownsRow.alloc h o
theorem OwnRow.lt {base : Nat} {v : Value} {l : List α} (h : OwnRow K w base v l) : ∀ k, v.ownBlock = some k → base ≤ k ∧ k < w.heap.size := World.ownsRow.lt h
theorem OwnRow.grown {base : Nat} {v : Value} {l : List α} {r : Option Nat} (h : OwnRow K w base v l) (hg : w.grownBy w' r) (hr : ∀ k, v.ownBlock = some k → some k ≠ r) : OwnRow K w' base v l := by
 refine World.ownsRow.kept h hg ?_
 cases hv : v.ownBlock with
 | none => exact .inl rfl
 | some k => exact .inr (hr k hv)
theorem OwnRow.at (hK : K.Ok bytes) {base : Nat} {v : Value} {l : List α} (h : OwnRow K w base v l) : ∃ ad cap, v = .slice ad l.length cap ∧ RowAt K w ad l.length cap l ∧ (∀ a, ad = some a → base ≤ a.block ∧ a.block < w.heap.size) := by
 rcases h.2 with ⟨rfl, h0⟩ | ⟨g, cap, cur, rfl, hb, hh, hc, _, hs, ht⟩
 · refine ⟨none, 0, by rw [h0], ?_, fun a ha => by cases ha⟩
   obtain rfl := List.eq_nil_of_length_eq_zero h0
   exact rowAt_nil w
 · refine ⟨_, cap, rfl, ⟨rfl, hc, (fun e => by cases e), .inr ⟨g, 0, rfl, (Array.getElem?_eq_some_iff.1 hh).1, fun i x hi j u hj => ?_⟩⟩, fun a ha => by cases ha; exact ⟨hb, (Array.getElem?_eq_some_iff.1 hh).1⟩⟩
   have hjs : j < K.size := by have := (List.getElem?_eq_some_iff.1 hj).1; rwa [hK.len] at this
   have h1 := hK.all_at l i x hi j hjs
   rw [hj, ← ht, List.getElem?_take] at h1
   rw [Nat.zero_add, cell_of_row w g _ _ _ _ hh]
   split at h1
   · simpa using h1
   · cases h1
/-- A block that was laid whole. -/
theorem ownRow_lit (hK : K.Ok bytes) (w : World) (base : Nat) (l : List α) (hb : base ≤ w.heap.size) (hm : l.length ≤ 1000000) (cs : Array Value) (hcs : cs = (K.all l).toArray) (n : Nat) (hn : l.length = n) : OwnRow K (w.alloc (.cells cs K.ty)) base (.slice (some ⟨w.heap.size, 0, none⟩) n n) l := by
 subst hcs hn
 have := World.ownsRow_lit (e := K.ty) (size := K.size) (base := base) w (K.all l).toArray l.length hb (by unfold maxLen; omega) (by rw [List.size_toArray, hK.all_len])
 unfold OwnRow
 simpa using this
theorem rowAt_lit (hK : K.Ok bytes) (w : World) (l : List α) (hm : l.length ≤ 1000000) (cs : Array Value) (hcs : cs = (K.all l).toArray) (n : Nat) (hn : l.length = n) : RowAt K (w.alloc (.cells cs K.ty)) (some ⟨w.heap.size, 0, none⟩) n n l := by
 obtain ⟨ad, cap, e, h, _⟩ := (ownRow_lit hK w 0 l (Nat.zero_le _) hm cs hcs n hn).at hK
 cases e
 exact h
theorem append_block (hK : K.Ok bytes) (w w' : World) (base : Nat) (v v' : Value) (l m : List α) (ty : Nat) (hown : OwnRow K w base v l) (a : Addr) (cap : Nat) (hnews : ∀ j u, (K.all m)[j]? = some u → w.cell? (a.add j) = some u) (hn : (l.length + m.length) * bytes ≤ 140737488355328) (hn2 : l.length + m.length ≤ 140737488355328)
 (hrun : (Builtin.append_ #[K.sl, K.sl] ty #[v, .slice (some a) m.length cap]).run Try.prog w = .ok v' w') : ∀ k, v'.ownBlock = some k → v.ownBlock = some k ∨ k = w.heap.size := by
 obtain ⟨i, z, hi, hz, hs, hby, hzs⟩ := hK.info
 have hu := hK.und
 have hml := hK.all_len m
 rw [← hs] at hml
 intro k hk
 rcases hown.2 with ⟨rfl, h0⟩ | ⟨g, cp, cur, rfl, hbg, hg, hnc, hcm, hcs, htake⟩
 · by_cases hm : m.length = 0
   · have : m = [] := List.eq_nil_of_length_eq_zero hm
     subst this
     have hrun2 : (Builtin.append_ #[K.sl, K.sl] ty #[.slice none 0 0, .slice (some a) 0 cap]).run Try.prog w = .ok (.slice none 0 0) w := by
      simp [Builtin.append_, run_underlying hu, sizeOf, typeInfo, hi, Builtin.lenOf, Builtin.firstCells, loadCells, loadCellsFrom]
     rw [List.length_nil, hrun2] at hrun
     injection hrun with e1 e2
     subst e1
     cases hk
   · rw [run_append_nil (P := Try.prog) w K.sl ty K.ty i z hu hi hz a m.length cap (K.all m) hml hnews (by omega) (by omega) (by rw [hby]; have : m.length * bytes ≤ (l.length + m.length) * bytes := Nat.mul_le_mul_right _ (by omega); omega)] at hrun
     injection hrun with e1 e2
     subst e1
     cases hk
     exact .inr rfl
 · by_cases hroom : l.length + m.length ≤ cp
   · rw [run_append_room (P := Try.prog) w K.sl ty K.ty i hu hi g l.length cp cur hg a m.length cap (K.all m) hml hnews (hK.all_one m) hroom (by rw [hml, hcs, ← hs, ← Nat.add_mul]; exact Nat.mul_le_mul_right _ hroom)] at hrun
     injection hrun with e1 e2
     subst e1
     exact .inl hk
   · have hlo : (K.all l).length = l.length * i.size := by rw [hs]; exact hK.all_len l
     rw [run_append_grow (P := Try.prog) w K.sl ty K.ty i z hu hi hz ⟨g, 0, none⟩ l.length cp (K.all l) hlo (World.ownsRow.cells hown (g := g) rfl) a m.length cap (K.all m) hml hnews (by omega) (by omega) (growslice_fits (by omega) (by rw [hby]; exact hn))] at hrun
     injection hrun with e1 e2
     subst e1
     cases hk
     exact .inr rfl
/-- append(v, m...), v the call's own, m any row, nil too. -/
theorem run_row_append (hK : K.Ok bytes) (w : World) (base : Nat) (v : Value) (l m : List α) (ty : Nat) (hown : OwnRow K w base v l) (ad : Option Addr) (n cap : Nat) (hr : RowAt K w ad n cap m) (hn : (l.length + n) * bytes ≤ 140737488355328) (hn2 : l.length + n ≤ 140737488355328) (hbase : base ≤ w.heap.size) :
 ∃ v' w', (Builtin.append_ #[K.sl, K.sl] ty #[v, .slice ad n cap]).run Try.prog w = .ok v' w' ∧ OwnRow K w' base v' (l ++ m) ∧ w.grownBy w' v.ownBlock ∧ (v ≠ .slice none 0 0 → v' ≠ .slice none 0 0) ∧ (∀ k, v'.ownBlock = some k → v.ownBlock = some k ∨ w.heap.size ≤ k) := by
 obtain ⟨i, z, hi, hz, hs, hby, hzs⟩ := hK.info
 obtain rfl := hr.length
 have hu := hK.und
 rcases ad with _ | ⟨b, off, x⟩
 · have hc := hr.room rfl
   have hf := hr.fits
   obtain rfl : m = [] := List.eq_nil_of_length_eq_zero (by omega)
   subst hc
   refine ⟨v, w, ?_, by rw [List.append_nil]; exact hown, ⟨rfl, rfl, rfl, Nat.le_refl _, fun _ _ _ => rfl⟩, fun h => h, fun k hk => .inl hk⟩
   exact run_append_owned_none (P := Try.prog) (w := w) base K.sl ty K.ty i K.size hu hi v _ _ hown
 · have hx : x = none ∨ m.length = 0 := by
    rcases hr.cells with h0 | ⟨_, _, e, _⟩
    · exact .inr h0
    · cases e; exact .inl rfl
   have hnews : ∀ j u, (K.all m)[j]? = some u → w.cell? ((⟨b, off, x⟩ : Addr).add j) = some u := by
    intro j u hj
    rcases hx with rfl | h0
    · exact hr.news hK j u hj
    · obtain rfl := List.eq_nil_of_length_eq_zero h0
      simp [Kind.all] at hj
   obtain ⟨v', w', hrun, h2, h3, h4⟩ := run_append_own (P := Try.prog) w base K.sl ty K.ty i z K.size bytes hu hi hz hs hby hzs hK.pos v l.length (K.all l) hown ⟨b, off, x⟩ m.length cap (K.all m) (hK.all_len m) hnews (hK.all_one m) (by unfold maxLen; omega) hn hbase
   refine ⟨v', w', hrun, ?_, h3, fun hne h => hne (h4.1 h).1, ?_⟩
   · unfold OwnRow
     rw [K.all_app, List.length_append]
     exact h2
   · intro k hk
     rcases append_block hK w w' base v v' l m ty hown _ cap hnews hn hn2 hrun k hk with h | h
     · exact .inl h
     · exact .inr (by omega)
/-- What an append leaves. -/
def Appended (K : Kind α) (w : World) (base : Nat) (v : Value) (l : List α) (v' : Value) (w' : World) : Prop :=
 OwnRow K w' base v' l ∧ w.grownBy w' v.ownBlock ∧ (v ≠ .slice none 0 0 → v' ≠ .slice none 0 0) ∧ (∀ k, v'.ownBlock = some k → v.ownBlock = some k ∨ w.heap.size ≤ k)
/-- The operation in a plain list of operations, behind a guard that says yes or with none. -/
theorem list_row {w : World} {ops : Array Oper} {rest : List Oper} {o : Oper} {a : Act} {Q : Exit → Act → World → Prop} (hw : Region.wanted o (yielded ops a.tmps) = true) (hK : K.Ok bytes) (s x : Operand)
 (ho : o.op = .call { callee := .builtin .append, args := #[s, x], argTypes := #[K.sl, K.sl] })
 (base : Nat) (l m : List α) (v : Value) (hs : a.eval s = v) (hown : OwnRow K w base v l) (hbase : base ≤ w.heap.size)
 (ad : Option Addr) (n cap : Nat) (hx : a.eval x = .slice ad n cap) (hr : RowAt K w ad n cap m) (hn : l.length + n ≤ 100000000000)
 (h : ∀ v' w', Appended K w base v (l ++ m) v' w' → wpList Try.prog ops Q rest (a.put o.dst v') w') :
 wpList Try.prog ops Q (o :: rest) a w := by
 refine BigFrame.wpList_want hw fun C hC => ?_
 have hf := hK.few
 obtain ⟨v', w', hrun, h2⟩ := run_row_append hK w base v l m o.type hown ad n cap hr (Nat.le_trans (Nat.mul_le_mul hn hf) (by omega)) (by omega) hbase
 unfold Oper.wp execOp
 simp only [ho, resolve, invoke, builtin, Sem.run_bind, Sem.run_pure, Result.andThen_ok, List.map_toArray, List.map_cons, List.map_nil, hs, hx, hrun]
 exact hC _ _ (h v' w' h2)
/-- The operation in a region that draws its order. -/
theorem held_row {w : World} {ops : Array Oper} {o : Oper} {a : Act} {C : Act → World → Prop} {Q : Exit → Act → World → Prop} {Z : Prop} [Decidable (Region.wanted o (yielded ops a.tmps) = true)] (hw : Region.wanted o (yielded ops a.tmps) = true) (hK : K.Ok bytes) (s x : Operand)
 (ho : o.op = .call { callee := .builtin .append, args := #[s, x], argTypes := #[K.sl, K.sl] })
 (base : Nat) (l m : List α) (v : Value) (hs : a.eval s = v) (hown : OwnRow K w base v l) (hbase : base ≤ w.heap.size)
 (ad : Option Addr) (n cap : Nat) (hx : a.eval x = .slice ad n cap) (hr : RowAt K w ad n cap m) (hn : l.length + n ≤ 100000000000)
 (h : ∀ v' w', Appended K w base v (l ++ m) v' w' → C (a.put o.dst v') w') :
 if Region.wanted o (yielded ops a.tmps) = true then Oper.wp Try.prog o a w C Q else Z := by
 rw [if_pos hw]
 have hf := hK.few
 obtain ⟨v', w', hrun, h2⟩ := run_row_append hK w base v l m o.type hown ad n cap hr (Nat.le_trans (Nat.mul_le_mul hn hf) (by omega)) (by omega) hbase
 unfold Oper.wp execOp
 simp only [ho, resolve, invoke, builtin, Sem.run_bind, Sem.run_pure, Result.andThen_ok, List.map_toArray, List.map_cons, List.map_nil, hs, hx, hrun]
 exact h v' w' h2
end Go.Proofs.Ytipaebflkebdjaa
namespace Go.Proofs.Ytipaebflkebdjaa
open Go.RowKit
open Go.SeqMath
open Go.BatMath
set_option linter.unusedVariables false

/-- A slice of records reads as l. -/
structure RecsAt (w : World) (ad : Option Addr) (len cap : Nat) (l : List Rc) : Prop where
 length : l.length = len
 fits : len ≤ cap
 room : ad = none → cap = 0
 cells : len = 0 ∨ ∃ b off, ad = some ⟨b, off, none⟩ ∧ b < w.heap.size ∧ ∀ i r, l[i]? = some r → w.cell? ⟨b, off + i * 2, none⟩ = some (.string r.key) ∧ w.cell? ⟨b, off + i * 2 + 1, none⟩ = some (.string r.val)
theorem RecsAt.keep {w w' : World} {ad : Option Addr} {len cap : Nat} {l : List Rc} (h : RecsAt w ad len cap l) (hb : Below w.heap.size w w') : RecsAt w' ad len cap l := by
 refine ⟨h.length, h.fits, h.room, ?_⟩
 rcases h.cells with h0 | ⟨b, off, e, hlt, hc⟩
 · exact .inl h0
 · refine .inr ⟨b, off, e, Nat.lt_of_lt_of_le hlt hb.size, fun i r hi => ?_⟩
   obtain ⟨h1, h2⟩ := hc i r hi
   exact ⟨(hb.cell (p := ⟨b, _, none⟩) hlt).trans h1, (hb.cell (p := ⟨b, _, none⟩) hlt).trans h2⟩
theorem recsAt_nil (w : World) : RecsAt w none 0 0 [] := ⟨rfl, Nat.le_refl _, fun _ => rfl, .inl rfl⟩
theorem refSeq_any (n : Int) (w : World) (r : Bool) (hr : rightB n = r) :
 Calls Try.prog 75 #[.int .i64 n] w fun e w' => e = .returned (.bool r) ∧ w = w' := by
 subst hr
 by_cases h0 : 0 ≤ n
 · by_cases h1 : n ≤ 2147483647
   · rw [right_yes h0 h1]
     go_enter Try.func75, Try.ntmps75
     go_wp2
     go_ret
     exact ⟨rfl, rfl⟩
   · have h1' : 2147483647 < n := by omega
     rw [right_no (.inr h1')]
     go_enter Try.func75, Try.ntmps75
     go_wp2
     go_ret
     exact ⟨rfl, rfl⟩
 · have h0' : n < 0 := by omega
   rw [right_no (.inl h0')]
   go_enter Try.func75, Try.ntmps75
   go_wp2
   go_ret
   exact ⟨rfl, rfl⟩
theorem refHead_any (w : World) (b0 b1 b2 b3 : Int) (b4 : Bool) (b5 : Int) (ad : Option Addr) (len cap : Nat) (r : Bool) (hr : (decide (0 ≤ b1) && (decide (0 ≤ b2) && decide (b2 ≤ 32767))) = r) :
 Calls Try.prog 74 #[.agg #[.int .i64 b0, .int .i64 b1, .int .i64 b2, .int .i64 b3, .bool b4, .int .i64 b5, .slice ad len cap]] w fun e w' => e = .returned (.bool r) ∧ Below w.heap.size w w' := by
 by_cases h0 : 0 ≤ b1
 · by_cases h1 : 0 ≤ b2
   · by_cases h2 : b2 ≤ 32767
     · obtain rfl : r = true := by rw [← hr]; simp [h0, h1, h2]
       clear hr
       go_enter Try.func74, Try.ntmps74
       go_wp2
       go_ret
       exact ⟨rfl, (Below.refl _ _).alloc (Nat.le_refl _) _⟩
     · obtain rfl : r = false := by rw [← hr]; simp [h2]
       have h2' : 32767 < b2 := by omega
       clear hr
       go_enter Try.func74, Try.ntmps74
       go_wp2
       go_ret
       exact ⟨rfl, (Below.refl _ _).alloc (Nat.le_refl _) _⟩
   · obtain rfl : r = false := by rw [← hr]; simp [h1]
     have h1' : b2 < 0 := by omega
     clear hr
     go_enter Try.func74, Try.ntmps74
     go_wp2
     go_ret
     exact ⟨rfl, (Below.refl _ _).alloc (Nat.le_refl _) _⟩
 · obtain rfl : r = false := by rw [← hr]; simp [h0]
   have h0' : b1 < 0 := by omega
   clear hr
   go_enter Try.func74, Try.ntmps74
   go_wp2
   go_ret
   exact ⟨rfl, (Below.refl _ _).alloc (Nat.le_refl _) _⟩
/-- A block that is one batch, field by field. -/
def BoxAt (w : World) (k : Nat) (b0 b1 b2 b3 : Int) (b4 : Bool) (b5 : Int) (v : Value) : Prop := w.heap[k]? = some (.cells #[.int .i64 b0, .int .i64 b1, .int .i64 b2, .int .i64 b3, .bool b4, .int .i64 b5, v] 52 (0, 0))
section
variable {w : World} {k : Nat} {b0 b1 b2 b3 : Int} {b4 : Bool} {b5 : Int} {v : Value}
theorem BoxAt.c0 (h : BoxAt w k b0 b1 b2 b3 b4 b5 v) : w.cell? ⟨k, 0, none⟩ = some (.int .i64 b0) := by rw [cell_of_row _ _ 0 _ _ _ h]; rfl
theorem BoxAt.c1 (h : BoxAt w k b0 b1 b2 b3 b4 b5 v) : w.cell? ⟨k, 1, none⟩ = some (.int .i64 b1) := by rw [cell_of_row _ _ 1 _ _ _ h]; rfl
theorem BoxAt.c2 (h : BoxAt w k b0 b1 b2 b3 b4 b5 v) : w.cell? ⟨k, 2, none⟩ = some (.int .i64 b2) := by rw [cell_of_row _ _ 2 _ _ _ h]; rfl
theorem BoxAt.c3 (h : BoxAt w k b0 b1 b2 b3 b4 b5 v) : w.cell? ⟨k, 3, none⟩ = some (.int .i64 b3) := by rw [cell_of_row _ _ 3 _ _ _ h]; rfl
theorem BoxAt.c4 (h : BoxAt w k b0 b1 b2 b3 b4 b5 v) : w.cell? ⟨k, 4, none⟩ = some (.bool b4) := by rw [cell_of_row _ _ 4 _ _ _ h]; rfl
theorem BoxAt.c5 (h : BoxAt w k b0 b1 b2 b3 b4 b5 v) : w.cell? ⟨k, 5, none⟩ = some (.int .i64 b5) := by rw [cell_of_row _ _ 5 _ _ _ h]; rfl
theorem BoxAt.c6 (h : BoxAt w k b0 b1 b2 b3 b4 b5 v) : w.cell? ⟨k, 6, none⟩ = some v := by rw [cell_of_row _ _ 6 _ _ _ h]; rfl
theorem BoxAt.free (h : BoxAt w k b0 b1 b2 b3 b4 b5 v) (j : Nat) : w.frozen? ⟨k, j, none⟩ = false := frozen_of_row w k j _ _ h
theorem BoxAt.lt (h : BoxAt w k b0 b1 b2 b3 b4 b5 v) : k < w.heap.size := lt_of_block h
theorem BoxAt.keep {w' : World} {B : Nat} (h : BoxAt w k b0 b1 b2 b3 b4 b5 v) (hb : Below B w w') (hk : k < B) : BoxAt w' k b0 b1 b2 b3 b4 b5 v := by
 unfold BoxAt at *
 rw [hb.block k hk]
 exact h
theorem BoxAt.on {w' : World} (h : BoxAt w k b0 b1 b2 b3 b4 b5 v) (hb : Below w.heap.size w w') : BoxAt w' k b0 b1 b2 b3 b4 b5 v := h.keep hb h.lt
theorem boxAt_new (w : World) (b0 b1 b2 b3 : Int) (b4 : Bool) (b5 : Int) (v : Value) : BoxAt (w.alloc (.cells #[.int .i64 b0, .int .i64 b1, .int .i64 b2, .int .i64 b3, .bool b4, .int .i64 b5, v] 52)) w.heap.size b0 b1 b2 b3 b4 b5 v := heap_alloc_new w _
end
end Go.Proofs.Ytipaebflkebdjaa
namespace Go.Proofs.Ytipaebflkebdjaa
open Go.RowKit
open Go.SeqMath
open Go.BatMath
set_option linter.unusedVariables false

theorem bcell {W w1 : World} (hb : Below W.heap.size W w1) : (∀ b o, b < W.heap.size → w1.cell? ⟨b, o, none⟩ = W.cell? ⟨b, o, none⟩) ∧ (∀ b o, b < W.heap.size → w1.frozen? ⟨b, o, none⟩ = W.frozen? ⟨b, o, none⟩) :=
 ⟨fun b o h => hb.cell (p := ⟨b, o, none⟩) h, fun b o h => hb.frozen (p := ⟨b, o, none⟩) h⟩
/- rightE, shape by shape -/
theorem e_low {b : Bat} (h : b.base < 0) : rightE b = 18 := by unfold rightE; rw [if_pos (.inl h)]
theorem e_high {b : Bat} (h : 1099511627776 < b.base) : rightE b = 18 := by unfold rightE; rw [if_pos (.inr h)]
theorem e_mark {b : Bat} (h0 : 0 ≤ b.base) (h1 : b.base ≤ 1099511627776) (hm : b.marker ≠ 0) : rightE b = if (b.marker = 1 ∨ b.marker = 2) ∧ headB b = true ∧ b.seq = -1 ∧ b.txn = true ∧ b.recs = [] then 0 else 12 := by
 unfold rightE; rw [if_neg (by omega), if_pos hm]
theorem e_data {b : Bat} (h0 : 0 ≤ b.base) (h1 : b.base ≤ 1099511627776) (hm : b.marker = 0) (h : ¬ ((noneB b = true ∨ headB b = true ∧ rightB b.seq = true) ∧ b.recs ≠ [])) : rightE b = 12 := by
 unfold rightE; rw [if_neg (by omega), if_neg (by omega), if_neg h]
theorem e_long {b : Bat} (h0 : 0 ≤ b.base) (h1 : b.base ≤ 1099511627776) (hm : b.marker = 0) (h : (noneB b = true ∨ headB b = true ∧ rightB b.seq = true) ∧ b.recs ≠ []) (hl : 16 < b.recs.length ∨ ∃ r ∈ b.recs, longRec r) : rightE b = 13 := by
 unfold rightE; rw [if_neg (by omega), if_neg (by omega), if_pos h, if_pos hl]
theorem e_fine {b : Bat} (h0 : 0 ≤ b.base) (h1 : b.base ≤ 1099511627776) (hm : b.marker = 0) (h : (noneB b = true ∨ headB b = true ∧ rightB b.seq = true) ∧ b.recs ≠ []) (hl : ¬ (16 < b.recs.length ∨ ∃ r ∈ b.recs, longRec r)) : rightE b = 0 := by
 unfold rightE; rw [if_neg (by omega), if_neg (by omega), if_pos h, if_neg hl]
def Says (n : Int) (w : World) (e : Ending) (w' : World) : Prop := e = .returned (.int .i64 n) ∧ Below w.heap.size w w'
theorem says_mk {n m : Int} {w w' : World} (h : m = n) (hb : Below w.heap.size w w') : Says n w (.returned (.int .i64 m)) w' := ⟨by rw [h], hb⟩
set_option maxRecDepth 100000 in
set_option maxHeartbeats 1000000 in
/-- Markers. -/
theorem plain_mark (w : World) (b : Bat) (ad : Option Addr) (cap : Nat) (hr : RecsAt w ad b.recs.length cap b.recs) (h0 : 0 ≤ b.base) (h1 : b.base ≤ 1099511627776) (hm : b.marker ≠ 0) :
 Calls Try.prog 65 #[.agg #[.int .i64 b.base, .int .i64 b.prod, .int .i64 b.epoch, .int .i64 b.seq, .bool b.txn, .int .i64 b.marker, .slice ad b.recs.length cap]] w (Says (rightE b) w) := by
 have he := e_mark h0 h1 hm
 have he0 : (b.marker = 1 ∨ b.marker = 2) ∧ headB b = true ∧ b.seq = -1 ∧ b.txn = true ∧ b.recs.length = 0 → rightE b = 0 := by
  rintro ⟨q1, q2, q3, q4, q5⟩
  rw [he, if_pos ⟨q1, q2, q3, q4, List.eq_nil_of_length_eq_zero q5⟩]
 have he1 : ¬ ((b.marker = 1 ∨ b.marker = 2) ∧ headB b = true ∧ b.seq = -1 ∧ b.txn = true ∧ b.recs.length = 0) → rightE b = 12 := by
  intro q
  rw [he, if_neg]
  rintro ⟨q1, q2, q3, q4, q5⟩
  exact q ⟨q1, q2, q3, q4, by rw [q5]; rfl⟩
 obtain ⟨ev, hev⟩ : ∃ ev, ev = rightE b := ⟨_, rfl⟩
 rw [← hev] at he0 he1 ⊢
 have hh : headB b = (decide (0 ≤ b.prod) && (decide (0 ≤ b.epoch) && decide (b.epoch ≤ 32767))) := rfl
 obtain ⟨hd, hdd⟩ : ∃ hd, hd = headB b := ⟨_, rfl⟩
 rw [← hdd] at he0 he1 hh
 clear he hev hdd
 obtain ⟨base, prod, epoch, seq, txn, marker, recs⟩ := b
 simp only at h0 h1 hm he0 he1 hh hr ⊢
 obtain ⟨len, hlen⟩ : ∃ len, len = recs.length := ⟨_, rfl⟩
 rw [← hlen] at he0 he1 hr ⊢
 have HH := Lib.hid hh.symm
 have HE0 := Lib.hid he0
 have HE1 := Lib.hid he1
 have HR := Lib.hid hr
 have hm0 : (marker == 0) = false := by simpa using hm
 have hm0' : (marker != 0) = true := by simpa using hm
 clear hh he0 he1 hr hlen
 by_cases hm12 : marker = 1 ∨ marker = 2
 · cases hd
   · rcases hm12 with rfl | rfl
     all_goals
      go_enter Try.func65, Try.ntmps65
      go_wp2_with (go_at_call 74; refine (refHead_any _ _ _ _ _ _ _ _ _ _ false HH.out).mono ?_; rintro e w1 ⟨rfl, hb⟩; obtain ⟨hc, hf⟩ := bcell hb; have HB := Lib.hid hb; clear hb)
      go_ret
      exact says_mk ((HE1.out (by simp)).symm) (((Below.refl _ _).alloc (Nat.le_refl _) _).trans (HB.out.mono (by simp)))
   · by_cases hs : seq = -1
     · subst hs
       cases txn
       · rcases hm12 with rfl | rfl
         all_goals
          go_enter Try.func65, Try.ntmps65
          go_wp2_with (go_at_call 74; refine (refHead_any _ _ _ _ _ _ _ _ _ _ true HH.out).mono ?_; rintro e w1 ⟨rfl, hb⟩; obtain ⟨hc, hf⟩ := bcell hb; have HB := Lib.hid hb; clear hb)
          go_ret
          exact says_mk ((HE1.out (by simp)).symm) (((Below.refl _ _).alloc (Nat.le_refl _) _).trans (HB.out.mono (by simp)))
       · by_cases hl : len = 0
         · subst hl
           rcases hm12 with rfl | rfl
           all_goals
            go_enter Try.func65, Try.ntmps65
            go_wp2_with (go_at_call 74; refine (refHead_any _ _ _ _ _ _ _ _ _ _ true HH.out).mono ?_; rintro e w1 ⟨rfl, hb⟩; obtain ⟨hc, hf⟩ := bcell hb; have HB := Lib.hid hb; clear hb)
            go_ret
            exact says_mk ((HE0.out (by simp)).symm) (((Below.refl _ _).alloc (Nat.le_refl _) _).trans (HB.out.mono (by simp)))
         · have hl' : 0 < len := by omega
           rcases hm12 with rfl | rfl
           all_goals
            go_enter Try.func65, Try.ntmps65
            go_wp2_with (go_at_call 74; refine (refHead_any _ _ _ _ _ _ _ _ _ _ true HH.out).mono ?_; rintro e w1 ⟨rfl, hb⟩; obtain ⟨hc, hf⟩ := bcell hb; have HB := Lib.hid hb; clear hb)
            go_ret
            exact says_mk ((HE1.out (by simp; omega)).symm) (((Below.refl _ _).alloc (Nat.le_refl _) _).trans (HB.out.mono (by simp)))
     · have hs1 : (seq == -1) = false := by simpa using hs
       have hs2 : (seq != -1) = true := by simpa using hs
       rcases hm12 with rfl | rfl
       all_goals
        go_enter Try.func65, Try.ntmps65
        go_wp2_with (go_at_call 74; refine (refHead_any _ _ _ _ _ _ _ _ _ _ true HH.out).mono ?_; rintro e w1 ⟨rfl, hb⟩; obtain ⟨hc, hf⟩ := bcell hb; have HB := Lib.hid hb; clear hb)
        go_ret
        exact says_mk ((HE1.out (by simp [hs])).symm) (((Below.refl _ _).alloc (Nat.le_refl _) _).trans (HB.out.mono (by simp)))
 · have hm1 : (marker != 1) = true := by simp; omega
   have hm2 : (marker != 2) = true := by simp; omega
   go_enter Try.func65, Try.ntmps65
   go_wp2
   go_ret
   exact says_mk ((HE1.out fun h => hm12 h.1).symm) ((Below.refl _ _).alloc (Nat.le_refl _) _)
end Go.Proofs.Ytipaebflkebdjaa
namespace Go.Proofs.Ytipaebflkebdjaa
open Go.RowKit
open Go.SeqMath
open Go.BatMath
set_option linter.unusedVariables false

def TextsOk (l : List Rc) : Prop := ∀ r ∈ l, r.key.size ≤ 140737488355328 ∧ r.val.size ≤ 140737488355328
/-- What stands before round j of the loop over the records. -/
def PlainAt (w : World) (l : List Rc) (v : Value) (wr : World) : Prop := ∃ j : Nat, j ≤ l.length ∧ v = .int .i64 j ∧ (∀ i r, i < j → l[i]? = some r → ¬ longRec r) ∧ Below w.heap.size w wr
theorem plainAt_start (w W : World) (l : List Rc) (h : Below w.heap.size w W) : PlainAt w l (.int .i64 0) W := ⟨0, Nat.zero_le _, rfl, fun i r hi => by omega, h⟩
theorem not_long {l : List Rc} (h : ∀ i r, i < l.length → l[i]? = some r → ¬ longRec r) : ¬ ∃ r ∈ l, longRec r := by
 rintro ⟨r, hr, hl⟩
 obtain ⟨i, hi, rfl⟩ := List.getElem_of_mem hr
 exact h i _ hi (List.getElem?_eq_getElem hi) hl
theorem none_no {b : Bat} (h : noneB b = false) : b.prod ≠ -1 ∨ b.epoch ≠ -1 ∨ b.seq ≠ -1 ∨ b.txn = true := by
 by_cases h1 : b.prod = -1
 · by_cases h2 : b.epoch = -1
   · by_cases h3 : b.seq = -1
     · cases h4 : b.txn
       · simp [noneB, h1, h2, h3, h4] at h
       · exact .inr (.inr (.inr rfl))
     · exact .inr (.inr (.inl h3))
   · exact .inr (.inl h2)
 · exact .inl h1
set_option maxRecDepth 100000 in
set_option maxHeartbeats 2000000 in
theorem plain_data (w : World) (b : Bat) (ad : Option Addr) (cap : Nat) (hr : RecsAt w ad b.recs.length cap b.recs) (ht : TextsOk b.recs) (h0 : 0 ≤ b.base) (h1 : b.base ≤ 1099511627776) (hm : b.marker = 0) (hL : b.recs.length ≤ 140737488355328) :
 Calls Try.prog 65 #[.agg #[.int .i64 b.base, .int .i64 b.prod, .int .i64 b.epoch, .int .i64 b.seq, .bool b.txn, .int .i64 b.marker, .slice ad b.recs.length cap]] w (Says (rightE b) w) := by
 have hne : (b.recs ≠ []) = (0 < b.recs.length) := propext List.length_pos_iff.symm
 have e12 := e_data h0 h1 hm
 have e13 := e_long h0 h1 hm
 have e0 := e_fine h0 h1 hm
 rw [hne] at e12 e13 e0
 obtain ⟨ev, hev⟩ : ∃ ev, ev = rightE b := ⟨_, rfl⟩
 rw [← hev] at e12 e13 e0 ⊢
 have hh : (decide (0 ≤ b.prod) && (decide (0 ≤ b.epoch) && decide (b.epoch ≤ 32767))) = headB b := rfl
 have hnn : noneB b = true → b.prod = -1 ∧ b.epoch = -1 ∧ b.seq = -1 ∧ b.txn = false := none_of
 have hnf : noneB b = false → b.prod ≠ -1 ∨ b.epoch ≠ -1 ∨ b.seq ≠ -1 ∨ b.txn = true := none_no
 obtain ⟨hd, hdd⟩ : ∃ hd, hd = headB b := ⟨_, rfl⟩
 obtain ⟨nn, hnd⟩ : ∃ nn, nn = noneB b := ⟨_, rfl⟩
 rw [← hdd] at e12 e13 e0 hh
 rw [← hnd] at e12 e13 e0 hnn hnf
 clear hev hdd hnd hne
 obtain ⟨base, prod, epoch, seq, txn, marker, recs⟩ := b
 simp only at h0 h1 hm e12 e13 e0 hh hr ht hL hnn hnf ⊢
 obtain ⟨rt, hrt⟩ : ∃ rt, rightB seq = rt := ⟨_, rfl⟩
 rw [hrt] at e12 e13 e0
 obtain ⟨len, hlen⟩ : ∃ len, len = recs.length := ⟨_, rfl⟩
 rw [← hlen] at e12 e13 e0 hr hL ⊢
 have HH := Lib.hid hh
 have HRT := Lib.hid hrt
 have HN := Lib.hid hnn
 have HF := Lib.hid hnf
 have E12 := Lib.hid e12
 have E13 := Lib.hid e13
 have E0 := Lib.hid e0
 have HR := Lib.hid hr
 have HT := Lib.hid ht
 have HLEN := Lib.hid hlen
 clear hh hrt hnn hnf e12 e13 e0 hr ht hlen
 subst hm
 go_enter Try.func65, Try.ntmps65
 go_upto_region 7 with fail
 go_cut [3] from 6 (fun s3 wx => s3 = .bool nn ∧ Hid (BoxAt wx w.heap.size base prod epoch seq txn 0 (.slice ad len cap)) ∧ Hid (Below w.heap.size w wx))
 case first =>
  cases h1 : (prod == -1)
  · obtain rfl : nn = false := by
     cases nn
     · rfl
     · have := (HN.out rfl).1; subst this; cases h1
    go_wp2
    go_meet
    case rel => exact ⟨rfl, boxAt_new w _ _ _ _ _ _ _, (Below.refl _ _).alloc (Nat.le_refl _) _⟩
  · cases h2 : (epoch == -1)
    · obtain rfl : nn = false := by
       cases nn
       · rfl
       · have := (HN.out rfl).2.1; subst this; cases h2
      go_wp2
      go_meet
      case rel => exact ⟨rfl, boxAt_new w _ _ _ _ _ _ _, (Below.refl _ _).alloc (Nat.le_refl _) _⟩
    · cases h3 : (seq == -1)
      · obtain rfl : nn = false := by
         cases nn
         · rfl
         · have := (HN.out rfl).2.2.1; subst this; cases h3
        go_wp2
        go_meet
        case rel => exact ⟨rfl, boxAt_new w _ _ _ _ _ _ _, (Below.refl _ _).alloc (Nat.le_refl _) _⟩
      · cases txn
        · obtain rfl : nn = true := by
           cases nn
           · rcases HF.out rfl with h | h | h | h
             · exact absurd (by simpa using h1) h
             · exact absurd (by simpa using h2) h
             · exact absurd (by simpa using h3) h
             · cases h
           · rfl
          go_wp2
          go_meet
          case rel => exact ⟨rfl, boxAt_new w _ _ _ _ _ _ _, (Below.refl _ _).alloc (Nat.le_refl _) _⟩
        · obtain rfl : nn = false := by
           cases nn
           · rfl
           · have := (HN.out rfl).2.2.2; cases this
          go_wp2
          go_meet
          case rel => exact ⟨rfl, boxAt_new w _ _ _ _ _ _ _, (Below.refl _ _).alloc (Nat.le_refl _) _⟩
 case rest =>
  obtain ⟨rfl, HBX, HBW⟩ := hcut
  have hblt := HBX.out.lt
  have hc0 := HBX.out.c0
  have hc1 := HBX.out.c1
  have hc2 := HBX.out.c2
  have hc3 := HBX.out.c3
  have hc4 := HBX.out.c4
  have hc5 := HBX.out.c5
  have hc6 := HBX.out.c6
  go_upto_region 8 with fail
  go_cut [82] from 64 (fun s82 wx => s82 = .bool (!((nn || (hd && rt)) && decide (0 < len))) ∧ Hid (BoxAt wx w.heap.size base prod epoch seq txn 0 (.slice ad len cap)) ∧ Hid (Below w.heap.size w wx))
  case first =>
   cases nn
   · cases hd
     · go_wp2_with (go_at_call 74; refine (refHead_any _ _ _ _ _ _ _ _ _ _ false HH.out).mono ?_; rintro e w1 ⟨rfl, hb⟩; obtain ⟨hc, hf⟩ := bcell hb; have HB := Lib.hid hb; clear hb)
       go_meet
       case rel => exact ⟨by simp, HBX.out.on HB.out, HBW.out.trans (HB.out.mono HBW.out.size)⟩
     · cases rt
       · go_wp2_with (first | (go_at_call 74; refine (refHead_any _ _ _ _ _ _ _ _ _ _ true HH.out).mono ?_; rintro e w1 ⟨rfl, hb⟩; obtain ⟨hc, hf⟩ := bcell hb; have HB := Lib.hid hb; clear hb) | (go_at_call 75; refine (refSeq_any _ _ false HRT.out).mono ?_; rintro e w' ⟨rfl, rfl⟩))
         go_meet
         case rel => exact ⟨by simp, HBX.out.on HB.out, HBW.out.trans (HB.out.mono HBW.out.size)⟩
       · by_cases hl : 0 < len
         · have hz : ((len : Int) == 0) = false := by simp; omega
           have hz2 : decide (0 < len) = true := by simp [hl]
           have HZ2 := Lib.hid hz2
           clear hz2
           go_wp2_with (first | (go_at_call 74; refine (refHead_any _ _ _ _ _ _ _ _ _ _ true HH.out).mono ?_; rintro e w1 ⟨rfl, hb⟩; obtain ⟨hc, hf⟩ := bcell hb; have HB := Lib.hid hb; clear hb) | (go_at_call 75; refine (refSeq_any _ _ true HRT.out).mono ?_; rintro e w' ⟨rfl, rfl⟩))
           go_meet
           case rel => exact ⟨by rw [HZ2.out]; simp, HBX.out.on HB.out, HBW.out.trans (HB.out.mono HBW.out.size)⟩
         · obtain rfl : len = 0 := by omega
           clear hl
           go_wp2_with (first | (go_at_call 74; refine (refHead_any _ _ _ _ _ _ _ _ _ _ true HH.out).mono ?_; rintro e w1 ⟨rfl, hb⟩; obtain ⟨hc, hf⟩ := bcell hb; have HB := Lib.hid hb; clear hb) | (go_at_call 75; refine (refSeq_any _ _ true HRT.out).mono ?_; rintro e w' ⟨rfl, rfl⟩))
           go_meet
           case rel => exact ⟨by simp, HBX.out.on HB.out, HBW.out.trans (HB.out.mono HBW.out.size)⟩
   · by_cases hl : 0 < len
     · have hz : ((len : Int) == 0) = false := by simp; omega
       have hz2 : decide (0 < len) = true := by simp [hl]
       have HZ2 := Lib.hid hz2
       clear hz2
       go_wp2
       go_meet
       case rel => exact ⟨by rw [HZ2.out]; simp, HBX, HBW⟩
     · obtain rfl : len = 0 := by omega
       clear hl
       go_wp2
       go_meet
       case rel => exact ⟨by simp, HBX, HBW⟩
  case rest =>
   clear hc0 hc1 hc2 hc3 hc4 hc5 hc6
   obtain ⟨rfl, HBX2, HBW2⟩ := hcut
   obtain ⟨cnd, hcn⟩ : ∃ cnd, cnd = ((nn || (hd && rt)) && decide (0 < len)) := ⟨_, rfl⟩
   rw [← hcn]
   cases cnd
   · have HC := Lib.hid hcn.symm
     clear hcn
     go_wp2
     go_ret
     refine says_mk (E12.out ?_).symm HBW2.out
     rintro ⟨q1, q2⟩
     have hx := HC.out
     rcases q1 with q1 | ⟨q1, q3⟩
     · rw [q1] at hx; simp at hx; omega
     · rw [q1, q3] at hx; simp at hx; omega
   · have hcn2 : (nn = true ∨ hd = true ∧ rt = true) ∧ 0 < len := by simpa using hcn.symm
     have HC := Lib.hid hcn2
     have hlen := hcn2.2
     clear hcn hcn2
     have hc6 := HBX2.out.c6
     by_cases h16 : 16 < len
     · go_wp2
       go_ret
       exact says_mk (E13.out HC.out (.inl h16)).symm HBW2.out
     · have h16' : len ≤ 16 := by omega
       go_wp2_with fail
       go_loopw [90] (fun v90 wr => PlainAt w recs v90 wr) (fun v90 _ => len - (intOf v90).toNat)
       case atStart => exact plainAt_start w _ recs HBW2.out
       case round =>
        obtain ⟨j, hj, rfl, hno, hbel⟩ := hrel
        have HNO := Lib.hid hno
        have HBEL := Lib.hid hbel
        rw [← HLEN.out] at hj
        clear hno hbel
        by_cases hlt : j < len
        · obtain ⟨r, hrj⟩ : ∃ r, recs[j]? = some r := by
           have hjl : j < recs.length := by rw [← HLEN.out]; exact hlt
           exact ⟨_, List.getElem?_eq_getElem hjl⟩
          obtain ⟨bk, off, rfl, hbk, hcell⟩ : ∃ bk off, ad = some ⟨bk, off, none⟩ ∧ bk < w.heap.size ∧ ∀ i r, recs[i]? = some r → wr.cell? ⟨bk, off + i * 2, none⟩ = some (.string r.key) ∧ wr.cell? ⟨bk, off + i * 2 + 1, none⟩ = some (.string r.val) := by
           rcases HR.out.cells with h | ⟨bk, off, e, hlt, hc⟩
           · omega
           · exact ⟨bk, off, e, hlt, fun i r hi => ⟨(HBEL.out.cell (p := ⟨bk, _, none⟩) hlt).trans (hc i r hi).1, (HBEL.out.cell (p := ⟨bk, _, none⟩) hlt).trans (hc i r hi).2⟩⟩
          obtain ⟨hk, hv⟩ := hcell j r hrj
          obtain ⟨hs1, hs2⟩ := HT.out r (List.mem_of_getElem? hrj)
          obtain ⟨ks, vs⟩ := r
          simp only at hk hv hs1 hs2
          have HRJ := Lib.hid hrj
          have HMEM : Hid ((⟨ks, vs⟩ : Rc) ∈ recs) := List.mem_of_getElem? hrj
          clear hcell hrj
          by_cases hk64 : 64 < ks.size
          · go_wp2
            go_ret
            exact says_mk (E13.out HC.out (.inr ⟨⟨ks, vs⟩, HMEM.out, .inl hk64⟩)).symm (HBEL.out.alloc HBEL.out.size _)
          · have hk64' : ks.size ≤ 64 := by omega
            by_cases hv64 : 64 < vs.size
            · go_wp2
              go_ret
              exact says_mk (E13.out HC.out (.inr ⟨⟨ks, vs⟩, HMEM.out, .inr hv64⟩)).symm (HBEL.out.alloc HBEL.out.size _)
            · have hv64' : vs.size ≤ 64 := by omega
              have HNO2 : Hid (∀ i r, i < j + 1 → recs[i]? = some r → ¬ longRec r) := by
               intro i r hi hir
               by_cases e : i = j
               · subst e
                 rw [HRJ.out] at hir
                 cases hir
                 rintro (h | h)
                 · exact hk64 h
                 · exact hv64 h
               · exact HNO.out i r (by omega) hir
              have HLE : Hid (j + 1 ≤ recs.length) := by show _ ≤ _; rw [← HLEN.out]; exact hlt
              go_wp2
              go_roundw
              case rel => (repeat apply Exists.intro); exact ⟨⟨j + 1, HLE.out, by go_num, HNO2.out, HBEL.out.alloc HBEL.out.size _⟩, rfl⟩
              case measure => simp [intOf]; omega
        · obtain rfl : j = len := by omega
          go_wp2
          go_ret
          refine says_mk (E0.out HC.out ?_).symm HBEL.out
          rintro (h | h)
          · omega
          · exact not_long (by rw [← HLEN.out]; exact HNO.out) h
/-- Any batch whose texts are such. -/
theorem plain_any (w : World) (b : Bat) (ad : Option Addr) (cap : Nat) (hr : RecsAt w ad b.recs.length cap b.recs) (ht : TextsOk b.recs) (hL : b.recs.length ≤ 140737488355328) :
 Calls Try.prog 65 #[.agg #[.int .i64 b.base, .int .i64 b.prod, .int .i64 b.epoch, .int .i64 b.seq, .bool b.txn, .int .i64 b.marker, .slice ad b.recs.length cap]] w (Says (rightE b) w) := by
 by_cases h0 : b.base < 0
 · rw [e_low h0]
   go_enter Try.func65, Try.ntmps65
   go_wp2
   go_ret
   exact says_mk rfl ((Below.refl _ _).alloc (Nat.le_refl _) _)
 · have h0' : 0 ≤ b.base := by omega
   by_cases h1 : 1099511627776 < b.base
   · rw [e_high h1]
     go_enter Try.func65, Try.ntmps65
     go_wp2
     go_ret
     exact says_mk rfl ((Below.refl _ _).alloc (Nat.le_refl _) _)
   · by_cases hm : b.marker = 0
     · have e : (.int .i64 b.marker : Value) = .int .i64 b.marker := rfl
       exact plain_data w b ad cap hr ht h0' (by omega) hm hL
     · exact plain_mark w b ad cap hr h0' (by omega) hm
end Go.Proofs.Ytipaebflkebdjaa
namespace Go.Proofs.Ytipaebflkebdjaa
open Go.RowKit
open Go.VarMath hiding AllB
set_option linter.unusedVariables false

theorem wrap_u64' (n : Int) : IntKind.u64.wrap n = n % 18446744073709551616 := by simp [IntKind.wrap, IntKind.bits, IntKind.signed]
theorem u64_keep (a : Nat) (ha : a < 18446744073709551616) : bits .xor .u64 (a : Int) 0 = (a : Int) := by
 have := u64_xor_nat a 0 ha (by decide)
 rw [Nat.xor_zero] at this
 exact this
theorem u64_flip (a : Nat) (ha : a < 18446744073709551616) : bits .xor .u64 (a : Int) 18446744073709551615 = 18446744073709551615 - (a : Int) := by
 show IntKind.u64.wrap ((BitVec.ofInt 64 (a : Int) ^^^ BitVec.ofInt 64 18446744073709551615).toNat : Int) = _
 have h1 : BitVec.ofInt 64 18446744073709551615 = BitVec.allOnes 64 := by decide
 rw [h1, BitVec.xor_allOnes, BitVec.toNat_not, ofInt_u64 a ha, wrap_u64']
 omega
theorem ret_u64 {a b : Int} (h : a = b) : Ending.returned (.int .u64 a) = .returned (.int .u64 b) := by rw [h]
theorem zig_pos (n : Int) (h0 : 0 ≤ n) (h1 : n ≤ 9223372036854775807) : bits .xor .u64 (n * 2) (n / 9223372036854775808) = ((zig n : Nat) : Int) := by
 have h2 := zig_nonneg h0
 have h3 : n / 9223372036854775808 = 0 := by omega
 have h4 : n * 2 = ((zig n : Nat) : Int) := by omega
 have h5 := zig_lt (n := n) (by omega) h1
 rw [h3, h4, u64_keep _ h5]
theorem zig_minus (n : Int) (h0 : n < 0) (h1 : -9223372036854775808 ≤ n) (a b : Int) (ha : a = n * 2 % 18446744073709551616) (hb : b = 18446744073709551615) : bits .xor .u64 a b = ((zig n : Nat) : Int) := by
 have h2 := zig_neg h0
 have h3 : a = (((18446744073709551615 - zig n : Nat)) : Int) := by omega
 have h5 := zig_lt (n := n) h1 (by omega)
 rw [h3, hb, u64_flip _ (by omega)]
 omega
theorem row_byte (W : World) (n : Nat) (hn : n < 256) : Row (W.alloc (.cells #[.int .u8 (n : Int)] 5)) (some ⟨W.heap.size, 0, none⟩) 1 1 [n] :=
 ⟨(own_new W [n]).byt (fun x hx => by simp at hx; omega) 1 (by simp), fun h => by cases h⟩
theorem wrap_u8' (n : Int) : IntKind.u8.wrap n = n % 256 := by simp [IntKind.wrap, IntKind.bits, IntKind.signed]
end Go.Proofs.Ytipaebflkebdjaa
namespace Go.Proofs.Ytipaebflkebdjaa
open Go.RowKit
open Go.VarMath hiding AllB
set_option linter.unusedVariables false

set_option maxHeartbeats 400000 in
theorem unsigned_any (n : Int) (w : World) (h0 : -9223372036854775808 ≤ n) (h1 : n ≤ 9223372036854775807) :
 Calls Try.prog 101 #[.int .i64 n] w fun e w' => e = .returned (.int .u64 (zig n : Nat)) ∧ w = w' := by
 by_cases hn : 0 ≤ n
 · go_enter Try.func101, Try.ntmps101
   go_wp2
   go_ret
   exact ⟨ret_u64 (zig_pos n hn h1), rfl⟩
 · have hn' : n < 0 := by omega
   go_enter Try.func101, Try.ntmps101
   go_wp2
   go_ret
   exact ⟨ret_u64 (zig_minus n hn' h0 _ _ (by rw [wrap_u64', wrap_u64']; omega) (by rw [wrap_u64']; omega)), rfl⟩
end Go.Proofs.Ytipaebflkebdjaa
namespace Go.Proofs.Ytipaebflkebdjaa
open Go.RowKit
open Go.VarMath hiding AllB
set_option linter.unusedVariables false

/-- The call gives a slice at the head of a new block of its own, which is the bytes bs. -/
def GivesRow (w : World) (bs : List Nat) (e : Ending) (w' : World) : Prop := ∃ g cap, e = .returned (.slice (some ⟨g, 0, none⟩) bs.length cap) ∧ w'.ownsRow w.heap.size 5 1 (.slice (some ⟨g, 0, none⟩) bs.length cap) bs.length (vals bs) ∧ Below w.heap.size w w'
theorem gives_row {w w' : World} {bs : List Nat} {g cap n : Nat} (hn : bs.length = n) (h : w'.ownsRow w.heap.size 5 1 (.slice (some ⟨g, 0, none⟩) n cap) n (vals bs)) (hb : Below w.heap.size w w') : GivesRow w bs (.returned (.slice (some ⟨g, 0, none⟩) n cap)) w' := by
 subst hn; exact ⟨g, cap, rfl, h, hb⟩
set_option maxRecDepth 100000 in
theorem run_make_part (W : World) (l c : Nat) (h : l ≤ c) (hc : c ≤ 281474976710656) :
 (Instr.makeSlice 116 (.int .i64 (l : Int)) (.int .i64 (c : Int))).run Try.prog W = .ok (.slice (some ⟨W.heap.size, 0, none⟩) l c) (W.alloc (.cells (vals (List.replicate c 0)).toArray 5)) := by
 obtain ⟨i0, hi, hz0, hz1, hz2⟩ := info_parts info5
 have hr := run_make (P := Try.prog) W 116 5 i0 (.int .u8 0) Try.underlying116 hi hz0 .i64 .i64 l c (by omega) (by omega) (by rw [hz2]; omega) (by omega)
 simp only [Int.toNat_natCast] at hr
 rw [hr]
 congr 3
 have h2 : (madeCells (Value.int .u8 0).cells c).toList = vals (List.replicate c 0) := by
  have := toList_madeCells_one (.int .u8 0) c
  rw [show (Value.int .u8 0).cells = #[.int .u8 0] from rfl, this]
  simp [vals, byte]
 rw [hz1, Nat.mul_one]
 apply Array.toList_inj.1
 rw [h2]
theorem splice_front (n m : Nat) (bs : List Nat) (h : bs.length = n) : splice (vals (List.replicate (n + m) 0)) 0 (vals bs) = vals (bs ++ List.replicate m 0) := by
 subst h
 rw [splice, List.take_zero, List.nil_append, Nat.zero_add, length_vals, vals_append]
 congr 1
 simp [vals]
theorem owns_front {w w' : World} {g n m : Nat} {bs : List Nat} (hn : bs.length = n) (h : Own w' g (bs ++ List.replicate m 0)) (hg : w.heap.size ≤ g) (hm : n + m ≤ maxLen) :
 w'.ownsRow w.heap.size 5 1 (.slice (some ⟨g, 0, none⟩) n (n + m)) n (vals bs) := by
 subst hn
 refine ⟨by rw [length_vals]; omega, .inr ⟨g, _, _, rfl, hg, h, by omega, hm, by simp [vals], ?_⟩⟩
 rw [Nat.mul_one, vals_append, List.take_append_of_le_length (by rw [length_vals]; omega), List.take_of_length_le (by rw [length_vals]; omega)]
set_option maxHeartbeats 400000 in
theorem roomy_any (w : World) (ad : Option Addr) (len cap n : Nat) (bs : List Nat) (h : Row w ad len cap bs) (hL : len ≤ 140737488355328) (hn : n ≤ 16) :
 Calls Try.prog 100 #[.slice ad len cap, .int .i64 n] w (GivesRow w bs) := by
 have HB := Lib.hid h
 clear h
 have hmk := fun W => run_make_part W len (len + n) (by omega) (by omega)
 have hcast : ((len + n : Nat) : Int) = (len : Int) + (n : Int) := by omega
 rw [hcast] at hmk
 clear hcast
 have hO := own_new w (List.replicate (len + n) 0)
 have hZ : Below w.heap.size w (w.alloc (.cells (vals (List.replicate (len + n) 0)).toArray 5)) := (Below.refl _ _).alloc (Nat.le_refl _) _
 have HO := Lib.hid hO
 have HZ := Lib.hid hZ
 have HR := Lib.hid (HB.out.keep hZ (Nat.le_refl _))
 clear hO hZ
 go_enter Try.func100, Try.ntmps100
 go_wp2_with (with_reducible refine wpList_copy_splice rfl (.tmp 13) (.tmp 14) 116 116 rfl 5 Try.underlying116 size5 _ _ _ _ _ _ rfl rfl w.heap.size 0 (vals (List.replicate (len + n) 0)) 5 ?_ (vals bs) ?_ ?_ ?_ (vals_one bs) w.heap.size w ?_ (Nat.le_refl _) ?_)
 · exact HO.out
 · rw [length_vals, HB.out.len]; simp
 · intro hp
   rw [length_vals, HB.out.len] at hp
   exact HR.out.1.source hp
 · rw [length_vals, length_vals, HB.out.len]; simp
 · exact HZ.out
 · intro w2 HG2 hB2
   have R : Hid (Own w2 w.heap.size (bs ++ List.replicate n 0)) := by
    have h1 := HG2.out
    rw [splice_front _ _ _ HB.out.len] at h1
    exact h1
   clear HG2
   go_wp2
   go_ret
   exact gives_row HB.out.len (owns_front HB.out.len R.out (Nat.le_refl _) (by unfold maxLen; omega)) hB2
end Go.Proofs.Ytipaebflkebdjaa
namespace Go.Proofs.Ytipaebflkebdjaa
open Go.RowKit
open Go.VarMath hiding AllB
set_option linter.unusedVariables false

theorem low7 (v : Nat) (h : v < 18446744073709551616) : bits .and .u64 (v : Int) 127 = ((v % 128 : Nat) : Int) := by
 have := u64_and_nat v 127 h (by decide)
 rw [nat_mask7] at this
 exact this
theorem nat_or128 : ∀ x : Fin 256, x.val ||| 128 = x.val % 128 + 128 := by decide +kernel
theorem hi7 (x : Nat) (h : x < 256) : bits .or .u8 (x : Int) 128 = ((x % 128 + 128 : Nat) : Int) := by
 have := u8_or_nat x 128 h (by decide)
 rw [nat_or128 ⟨x, h⟩] at this
 exact this
/-- What stands before a round of Put's loop: of u's groups those of f more are still to come, the bytes ahead of them stand behind bs. -/
def PutAt (w : World) (bs : List Nat) (u : Nat) (v5 v6 : Value) (wr : World) : Prop :=
 ∃ (f v g cap n : Nat) (pre : List Nat), encU u = pre ++ gr f v ∧ pre.length + f = 9 ∧ v < 2 * 128 ^ f ∧ v < 18446744073709551616 ∧ AllB pre ∧ n = bs.length + pre.length ∧
   v6 = .int .u64 v ∧ v5 = .slice (some ⟨g, 0, none⟩) n cap ∧ wr.ownsRow w.heap.size 5 1 (.slice (some ⟨g, 0, none⟩) n cap) n (vals (bs ++ pre)) ∧ Below w.heap.size w wr
theorem putAt_step {w w' : World} {bs pre : List Nat} {u f v g cap n : Nat} (hu : encU u = pre ++ gr f v) (hf : pre.length + f = 9) (h2 : v < 2 * 128 ^ f) (h6 : v < 18446744073709551616) (ha : AllB pre) (hn : n = bs.length + pre.length) (hv : 127 < v)
 (hown : w'.ownsRow w.heap.size 5 1 (.slice (some ⟨g, 0, none⟩) (n + 1) cap) (n + 1) (vals (bs ++ (pre ++ [v % 128 + 128])))) (hb : Below w.heap.size w w') :
 PutAt w bs u (.slice (some ⟨g, 0, none⟩) (n + 1) cap) (.int .u64 ((v / 128 : Nat) : Int)) w' := by
 cases f with
 | zero => simp at h2; omega
 | succ f =>
   refine ⟨f, v / 128, g, cap, n + 1, pre ++ [v % 128 + 128], ?_, by simp; omega, ?_, by omega, ?_, by simp; omega, rfl, rfl, hown, hb⟩
   · rw [hu, gr_big _ _ (by omega), List.append_assoc]; rfl
   · rw [Nat.pow_succ] at h2; omega
   · exact all_append ha (fun x hx => by simp at hx; omega)
theorem putAt_start {w wr : World} {bs : List Nat} {u g cap n : Nat} (hu : u < 18446744073709551616) (hn : bs.length = n) (hown : wr.ownsRow w.heap.size 5 1 (.slice (some ⟨g, 0, none⟩) n cap) n (vals bs)) (hb : Below w.heap.size w wr) :
 PutAt w bs u (.slice (some ⟨g, 0, none⟩) n cap) (.int .u64 (u : Int)) wr :=
 ⟨9, u, g, cap, n, [], rfl, rfl, by rw [pow9]; omega, hu, (fun x hx => by cases hx), by simp [hn], rfl, rfl, by rw [List.append_nil]; exact hown, hb⟩
theorem put_end {pre bs : List Nat} {u f v : Nat} (hu : encU u = pre ++ gr f v) (hv : ¬ 127 < v) : bs ++ (pre ++ [v]) = bs ++ encU u := by
 rw [hu, gr_small _ _ (by omega)]
set_option maxHeartbeats 400000 in
theorem put_any (w : World) (ad : Option Addr) (len cap : Nat) (bs : List Nat) (n : Int) (h : Row w ad len cap bs) (hL : len ≤ 140737488355300) (h0 : -9223372036854775808 ≤ n) (h1 : n ≤ 9223372036854775807) :
 Calls Try.prog 98 #[.slice ad len cap, .int .i64 n] w (GivesRow w (bs ++ encN n)) := by
 have HB := Lib.hid h
 have hu := zig_lt h0 h1
 clear h
 go_enter Try.func98, Try.ntmps98
 go_wp2_with fail
 refine (roomy_any w ad len cap 10 bs HB.out (by omega) (by omega)).mono ?_
 rintro e w1 ⟨g, cp, rfl, hown, hb1⟩
 rw [HB.out.len] at hown ⊢
 have HO := Lib.hid hown
 have HB1 := Lib.hid hb1
 clear hown hb1
 go_wp2_with fail
 refine (unsigned_any n w1 h0 h1).mono ?_
 rintro e w' ⟨rfl, rfl⟩
 obtain ⟨u, hue⟩ : ∃ u, u = zig n := ⟨_, rfl⟩
 rw [← hue] at hu ⊢
 have HU := Lib.hid hue
 clear hue
 go_wp2
 go_loopw [5, 6] (fun v5 v6 wr => PutAt w bs u v5 v6 wr) (fun _ v6 _ => (intOf v6).toNat)
 case atStart => exact putAt_start hu HB.out.len HO.out HB1.out
 case round =>
  obtain ⟨f, v, g, cap', k, pre, hu', hf, h2, h6, ha, hn, rfl, rfl, hown, hbel⟩ := hrel
  have HU' := Lib.hid hu'
  have HF := Lib.hid hf
  have HN := Lib.hid hn
  have HO' := Lib.hid hown
  have HW := Lib.hid hbel
  have HA := Lib.hid ha
  have H2 := Lib.hid h2
  have hk : k ≤ 140737488355320 := by have := HB.out.len; omega
  clear hu' hf hn hown hbel ha h2
  have hand := low7 v h6
  obtain ⟨y, hy⟩ : ∃ y, y = v % 128 := ⟨_, rfl⟩
  rw [← hy] at hand
  have hy8 : y < 128 := by omega
  have hor := hi7 y (by omega)
  have hy2 : y % 128 + 128 = v % 128 + 128 := by omega
  rw [hy2] at hor
  have HY := Lib.hid hy
  clear hy hy2
  obtain ⟨z, hz⟩ : ∃ z, z = v % 128 + 128 := ⟨_, rfl⟩
  rw [← hz] at hor
  have hz8 : z < 256 := by omega
  have HZ := Lib.hid hz
  clear hz
  by_cases hv : 127 < v
  · have HW2 : Hid (Below w.heap.size w (wr.alloc (.cells #[.int .u8 (z : Int)] 5))) := HW.out.alloc HW.out.size _
    go_wp2_with (at_builtin; refine append_row rfl (.tmp 13) (.tmp 18) rfl w.heap.size k (bs ++ pre) [z] _ rfl (HO'.out.alloc _) (some_ne _ _ _) HW2.out.size _ _ _ rfl (row_byte wr z hz8) (by omega) w HW2.out ?_)
    intro g3 cp3 w3 ho3 hb3
    have HO3 := Lib.hid ho3
    have HB3 := Lib.hid hb3
    clear ho3 hb3
    go_wp2
    go_roundw
    case rel =>
     have h3 := HO3.out
     rw [HZ.out] at h3
     exact putAt_step HU'.out HF.out H2.out h6 HA.out HN.out hv h3 HB3.out
    case measure => simp [intOf]; omega
  · have HW2 : Hid (Below w.heap.size w (wr.alloc (.cells #[.int .u8 (v : Int)] 5))) := HW.out.alloc HW.out.size _
    have hv8 : v < 256 := by omega
    go_wp2_with (at_builtin; refine append_row rfl (.tmp 22) (.tmp 25) rfl w.heap.size k (bs ++ pre) [v] _ rfl (HO'.out.alloc _) (some_ne _ _ _) HW2.out.size _ _ _ rfl (row_byte wr v hv8) (by omega) w HW2.out ?_)
    intro g3 cp3 w3 ho3 hb3
    have HO3 := Lib.hid ho3
    have HB3 := Lib.hid hb3
    clear ho3 hb3
    go_wp2
    go_ret
    have h3 := HO3.out
    rw [put_end HU'.out hv, HU.out] at h3
    refine gives_row ?_ h3 HB3.out
    have := h3.1
    rw [length_vals] at this
    unfold encN; omega
theorem text_len (s : ByteArray) : ((s.size : Nat) : Int) = ((s.data.toList.map UInt8.toNat).length : Int) := by simp
def bytesS (s : ByteArray) : List Nat := s.data.toList.map UInt8.toNat
theorem length_bytesS (s : ByteArray) : (bytesS s).length = s.size := by simp [bytesS]
theorem strCells_vals (s : ByteArray) : Lib.strCells s = vals (bytesS s) := by simp [Lib.strCells, vals, bytesS, byte]
set_option maxHeartbeats 400000 in
theorem text_any (w : World) (ad : Option Addr) (len cap : Nat) (bs : List Nat) (s : ByteArray) (h : Row w ad len cap bs) (hL : len + s.size ≤ 140737488355300) :
 Calls Try.prog 96 #[.slice ad len cap, .string s] w (GivesRow w (bs ++ textB (bytesS s))) := by
 obtain ⟨i0, hi, hz0, hz1, hz2⟩ := info_parts info5
 have HB := Lib.hid h
 clear h
 go_enter Try.func96, Try.ntmps96
 go_wp2_with fail
 refine (put_any w ad len cap bs s.size HB.out (by omega) (by omega) (by omega)).mono ?_
 rintro e w1 ⟨g, cp, rfl, hown, hb1⟩
 have hel := enc_len (zig_lt (n := (s.size : Int)) (by omega) (by omega))
 have hl : (bs ++ encN (s.size : Int)).length ≤ len + 10 := by rw [List.length_append, HB.out.len]; unfold encN; omega
 obtain ⟨k, hk⟩ : ∃ k, k = (bs ++ encN (s.size : Int)).length := ⟨_, rfl⟩
 rw [← hk] at hown hl ⊢
 have HK := Lib.hid hk
 have HO := Lib.hid hown
 have HB1 := Lib.hid hb1
 clear hown hb1 hk hel
 go_wp2_with (at_builtin; refine Lib.wpList_append_own_string _ rfl (.tmp 8) (.tmp 9) 116 9 rfl w.heap.size 5 i0 Try.underlying116 Try.underlying9 hi hz0 hz1 hz2 _ k _ rfl HO.out s rfl (by unfold maxLen; omega) (by omega) HB1.out.size ?_)
 intro v2 w2 ho2 hgrow2 hn2
 have HB2 : Hid (Below w.heap.size w w2) := HB1.out.grown hgrow2 HB1.out.size (fun j hj => (HO.out.lt j hj).1)
 have hne : v2 ≠ .slice none 0 0 := hn2
 have HO2 : Hid (w2.ownsRow w.heap.size 5 1 v2 (k + s.size) (vals (bs ++ textB (bytesS s)))) := by
  have e : bs ++ textB (bytesS s) = (bs ++ encN (s.size : Int)) ++ bytesS s := by
   unfold textB encN
   rw [length_bytesS, zig_nat, List.append_assoc]
  rw [e, vals_append, ← strCells_vals]
  exact ho2
 clear ho2 hgrow2 hn2
 obtain ⟨g2, cp2, rfl⟩ : ∃ g cp, v2 = .slice (some ⟨g, 0, none⟩) (k + s.size) cp := by
  rcases HO2.out.2 with ⟨h, _⟩ | ⟨g, cp, cur, h, _⟩
  · exact absurd h hne
  · exact ⟨g, cp, h⟩
 clear hne
 go_wp2
 go_ret
 refine gives_row ?_ HO2.out HB2.out
 have := HO2.out.1
 rw [length_vals] at this
 omega
end Go.Proofs.Ytipaebflkebdjaa
namespace Go.Proofs.Ytipaebflkebdjaa
open Go.RowKit
open Go.VarMath hiding AllB
set_option linter.unusedVariables false

theorem zigr_pos (n : Int) (h0 : 0 ≤ n) (h1 : n ≤ 9223372036854775807) (a b : Int) (ha : a = n * 2) (hb : b = 0) : bits .xor .u64 a b = ((zig n : Nat) : Int) := by
 have h2 := zig_nonneg h0
 have h4 : a = ((zig n : Nat) : Int) := by omega
 have h5 := zig_lt (n := n) (by omega) h1
 rw [hb, h4, u64_keep _ h5]
/-- The number that the document's own Put writes, whatever its spelling. -/
theorem zigr (n : Int) (h0 : -9223372036854775808 ≤ n) (h1 : n ≤ 9223372036854775807) (a b : Int) (ha : a = n * 2 % 18446744073709551616) (hb : b = n / 9223372036854775808 % 18446744073709551616) : bits .xor .u64 a b = ((zig n : Nat) : Int) := by
 by_cases h : 0 ≤ n
 · exact zigr_pos n h h1 a b (by omega) (by omega)
 · exact zig_minus n (by omega) h0 a b ha (by omega)
set_option maxHeartbeats 400000 in
theorem refPut_any (w : World) (ad : Option Addr) (len cap : Nat) (bs : List Nat) (n : Int) (h : Row w ad len cap bs) (hL : len ≤ 140737488355300) (h0 : -9223372036854775808 ≤ n) (h1 : n ≤ 9223372036854775807) :
 Calls Try.prog 88 #[.slice ad len cap, .int .i64 n] w (GivesRow w (bs ++ encN n)) := by
 have HB := Lib.hid h
 have hu := zig_lt h0 h1
 clear h
 have HZ1 : Hid (Below w.heap.size w (w.alloc (.cells #[] 5))) := (Below.refl _ _).alloc (Nat.le_refl _) _
 go_enter Try.func88, Try.ntmps88
 go_wp2_with (at_builtin; refine append_row rfl (.tmp 7) (.tmp 8) rfl w.heap.size 0 [] _ _ rfl (own_empty w _ (Nat.le_refl _)) (some_ne _ _ _) HZ1.out.size _ _ _ rfl (HB.out.keep HZ1.out (Nat.le_refl _)) (by omega) w HZ1.out ?_)
 intro g cp w1 ho1 hb1
 have HO := Lib.hid (show w1.ownsRow w.heap.size 5 1 (.slice (some ⟨g, 0, none⟩) len cp) len (vals bs) by simpa using ho1)
 have HB1 := Lib.hid hb1
 clear ho1 hb1
 have hx : bits .xor .u64 (IntKind.u64.wrap (wrap64 (n * 2))) (IntKind.u64.wrap (n / 9223372036854775808)) = ((zig n : Nat) : Int) :=
  zigr n h0 h1 _ _ (by rw [wrap_u64']; unfold wrap64; omega) (by rw [wrap_u64'])
 obtain ⟨u, hue⟩ : ∃ u, u = zig n := ⟨_, rfl⟩
 rw [← hue] at hu hx
 have HU := Lib.hid hue
 clear hue
 go_wp2
 clear hx
 go_loopw [5, 6] (fun v5 v6 wr => PutAt w bs u v5 v6 wr) (fun _ v6 _ => (intOf v6).toNat)
 case atStart => exact putAt_start hu HB.out.len HO.out HB1.out
 case round =>
  obtain ⟨f, v, g, cap', k, pre, hu', hf, h2, h6, ha, hn, rfl, rfl, hown, hbel⟩ := hrel
  have HU' := Lib.hid hu'
  have HF := Lib.hid hf
  have HN := Lib.hid hn
  have HO' := Lib.hid hown
  have HW := Lib.hid hbel
  have HA := Lib.hid ha
  have H2 := Lib.hid h2
  have hk : k ≤ 140737488355320 := by have := HB.out.len; omega
  clear hu' hf hn hown hbel ha h2
  by_cases hv : 127 < v
  · obtain ⟨y, hy⟩ : ∃ y, y = v % 256 := ⟨_, rfl⟩
    have hwr : IntKind.u8.wrap (v : Int) = (y : Int) := by rw [wrap_u8']; omega
    have hor := hi7 y (by omega)
    have hy2 : y % 128 + 128 = v % 128 + 128 := by omega
    rw [hy2] at hor
    clear hy hy2
    obtain ⟨z, hz⟩ : ∃ z, z = v % 128 + 128 := ⟨_, rfl⟩
    rw [← hz] at hor
    have hz8 : z < 256 := by omega
    have HZ := Lib.hid hz
    clear hz
    have hge : decide ((128 : Int) ≤ (v : Int)) = true := by simp; omega
    have HW2 : Hid (Below w.heap.size w (wr.alloc (.cells #[.int .u8 (z : Int)] 5))) := HW.out.alloc HW.out.size _
    go_wp2_with (at_builtin; refine append_row rfl (.tmp 19) (.tmp 23) rfl w.heap.size k (bs ++ pre) [z] _ rfl (HO'.out.alloc _) (some_ne _ _ _) HW2.out.size _ _ _ rfl (row_byte wr z hz8) (by omega) w HW2.out ?_)
    intro g3 cp3 w3 ho3 hb3
    have HO3 := Lib.hid ho3
    have HB3 := Lib.hid hb3
    clear ho3 hb3
    go_wp2
    go_roundw
    case rel =>
     have h3 := HO3.out
     rw [HZ.out] at h3
     exact putAt_step HU'.out HF.out H2.out h6 HA.out HN.out hv h3 HB3.out
    case measure => simp [intOf]; omega
  · have hge : decide ((128 : Int) ≤ (v : Int)) = false := by simp; omega
    have hv8 : v < 256 := by omega
    have HW2 : Hid (Below w.heap.size w (wr.alloc (.cells #[.int .u8 (v : Int)] 5))) := HW.out.alloc HW.out.size _
    go_wp2_with (at_builtin; refine append_row rfl (.tmp 27) (.tmp 30) rfl w.heap.size k (bs ++ pre) [v] _ rfl (HO'.out.alloc _) (some_ne _ _ _) HW2.out.size _ _ _ rfl (row_byte wr v hv8) (by omega) w HW2.out ?_)
    intro g3 cp3 w3 ho3 hb3
    have HO3 := Lib.hid ho3
    have HB3 := Lib.hid hb3
    clear ho3 hb3
    go_wp2
    go_ret
    have h3 := HO3.out
    rw [put_end HU'.out hv, HU.out] at h3
    refine gives_row ?_ h3 HB3.out
    have := h3.1
    rw [length_vals] at this
    unfold encN; omega
set_option maxHeartbeats 400000 in
theorem refText_any (w : World) (ad : Option Addr) (len cap : Nat) (bs : List Nat) (s : ByteArray) (h : Row w ad len cap bs) (hL : len + s.size ≤ 140737488355300) :
 Calls Try.prog 77 #[.slice ad len cap, .string s] w (GivesRow w (bs ++ textB (bytesS s))) := by
 obtain ⟨i0, hi, hz0, hz1, hz2⟩ := info_parts info5
 have HB := Lib.hid h
 clear h
 go_enter Try.func77, Try.ntmps77
 go_wp2_with fail
 refine (refPut_any w ad len cap bs s.size HB.out (by omega) (by omega) (by omega)).mono ?_
 rintro e w1 ⟨g, cp, rfl, hown, hb1⟩
 have hel := enc_len (zig_lt (n := (s.size : Int)) (by omega) (by omega))
 have hl : (bs ++ encN (s.size : Int)).length ≤ len + 10 := by rw [List.length_append, HB.out.len]; unfold encN; omega
 obtain ⟨k, hk⟩ : ∃ k, k = (bs ++ encN (s.size : Int)).length := ⟨_, rfl⟩
 rw [← hk] at hown hl ⊢
 have HK := Lib.hid hk
 have HO := Lib.hid hown
 have HB1 := Lib.hid hb1
 clear hown hb1 hk hel
 go_wp2_with (at_builtin; refine Lib.wpList_append_own_string _ rfl (.tmp 8) (.tmp 9) 116 9 rfl w.heap.size 5 i0 Try.underlying116 Try.underlying9 hi hz0 hz1 hz2 _ k _ rfl HO.out s rfl (by unfold maxLen; omega) (by omega) HB1.out.size ?_)
 intro v2 w2 ho2 hgrow2 hn2
 have HB2 : Hid (Below w.heap.size w w2) := HB1.out.grown hgrow2 HB1.out.size (fun j hj => (HO.out.lt j hj).1)
 have hne : v2 ≠ .slice none 0 0 := hn2
 have HO2 : Hid (w2.ownsRow w.heap.size 5 1 v2 (k + s.size) (vals (bs ++ textB (bytesS s)))) := by
  have e : bs ++ textB (bytesS s) = (bs ++ encN (s.size : Int)) ++ bytesS s := by
   unfold textB encN
   rw [length_bytesS, zig_nat, List.append_assoc]
  rw [e, vals_append, ← strCells_vals]
  exact ho2
 clear ho2 hgrow2 hn2
 obtain ⟨g2, cp2, rfl⟩ : ∃ g cp, v2 = .slice (some ⟨g, 0, none⟩) (k + s.size) cp := by
  rcases HO2.out.2 with ⟨h, _⟩ | ⟨g, cp, cur, h, _⟩
  · exact absurd h hne
  · exact ⟨g, cp, h⟩
 clear hne
 go_wp2
 go_ret
 refine gives_row ?_ HO2.out HB2.out
 have := HO2.out.1
 rw [length_vals] at this
 omega
end Go.Proofs.Ytipaebflkebdjaa
namespace Go.Proofs.Ytipaebflkebdjaa
open Go.RowKit
open Go.VarMath hiding AllB
set_option linter.unusedVariables false

/-- What stands before round k of Long's loop. -/
def LongAt (w : World) (bs : List Nat) (n : Int) (k : Nat) (v5 : Value) (wr : World) : Prop :=
 ∃ (g cap m : Nat), m = bs.length + k ∧ v5 = .slice (some ⟨g, 0, none⟩) m cap ∧ wr.ownsRow w.heap.size 5 1 (.slice (some ⟨g, 0, none⟩) m cap) m (vals (bs ++ (longB n).take k)) ∧ Below w.heap.size w wr
theorem longAt_step {w w' : World} {bs : List Nat} {n : Int} {k m g cap z : Nat} (hk : k < 8) (hm : m = bs.length + k) (hz : z = low64 n / 256 ^ (7 - k) % 256)
 (hown : w'.ownsRow w.heap.size 5 1 (.slice (some ⟨g, 0, none⟩) (m + 1) cap) (m + 1) (vals (bs ++ ((longB n).take k ++ [z])))) (hb : Below w.heap.size w w') :
 LongAt w bs n (k + 1) (.slice (some ⟨g, 0, none⟩) (m + 1) cap) w' := by
 refine ⟨g, cap, m + 1, by omega, rfl, ?_, hb⟩
 have h := beB_take k 8 (low64 n) hk
 unfold longB at hown ⊢
 rw [h]
 have e : 8 - 1 - k = 7 - k := by omega
 rw [e, ← hz]
 exact hown
theorem refLong_shift (n : Int) (j : Nat) (hj : j < 8) : n / 2 ^ (8 * j) % 256 = ((low64 n / 256 ^ j % 256 : Nat) : Int) := by
 unfold low64
 rcases j with _ | _ | _ | _ | _ | _ | _ | _ | j
 all_goals first | (exfalso; omega) | (simp only [Nat.reduceMul, Nat.reduceAdd, Int.reducePow, Nat.reducePow]; omega)
set_option maxHeartbeats 400000 in
theorem refLong_any (w : World) (ad : Option Addr) (len cap : Nat) (bs : List Nat) (n : Int) (h : Row w ad len cap bs) (hL : len ≤ 140737488355300) (h0 : -9223372036854775808 ≤ n) (h1 : n ≤ 9223372036854775807) :
 Calls Try.prog 76 #[.slice ad len cap, .int .i64 n] w (GivesRow w (bs ++ longB n)) := by
 have HB := Lib.hid h
 clear h
 have HZ1 : Hid (Below w.heap.size w (w.alloc (.cells #[] 5))) := (Below.refl _ _).alloc (Nat.le_refl _) _
 go_enter Try.func76, Try.ntmps76
 go_wp2_with (at_builtin; refine append_row rfl (.tmp 7) (.tmp 8) rfl w.heap.size 0 [] _ _ rfl (own_empty w _ (Nat.le_refl _)) (some_ne _ _ _) HZ1.out.size _ _ _ rfl (HB.out.keep HZ1.out (Nat.le_refl _)) (by omega) w HZ1.out ?_)
 intro g cp w1 ho1 hb1
 have HO := Lib.hid (show w1.ownsRow w.heap.size 5 1 (.slice (some ⟨g, 0, none⟩) len cp) len (vals bs) by simpa using ho1)
 have HB1 := Lib.hid hb1
 clear ho1 hb1
 go_wp2
 go_loopw [5, 6] (fun v5 v6 wr => ∃ (k : Nat) (i : Int), k ≤ 8 ∧ i = 56 - 8 * (k : Int) ∧ v6 = .int .i64 i ∧ LongAt w bs n k v5 wr) (fun _ v6 _ => (8 + intOf v6).toNat)
 case atStart => exact ⟨0, _, by omega, by omega, rfl, g, cp, len, by rw [HB.out.len]; rfl, rfl, by simpa using HO.out, HB1.out⟩
 case round =>
  obtain ⟨k, i, hk, hi, rfl, g, cap', m, hm, rfl, hown, hbel⟩ := hrel
  have HM := Lib.hid hm
  have HO' := Lib.hid hown
  have HW := Lib.hid hbel
  have hm2 : m ≤ 140737488355308 := by have := HB.out.len; omega
  clear hm hown hbel
  by_cases hlt : k < 8
  · obtain ⟨z, hz⟩ : ∃ z, z = low64 n / 256 ^ (7 - k) % 256 := ⟨_, rfl⟩
    have hz8 : z < 256 := by omega
    obtain ⟨t, ht⟩ : ∃ t, t = 8 * (7 - k) := ⟨_, rfl⟩
    have hsh : n / 2 ^ t % 256 = (z : Int) := by rw [hz, ht]; exact refLong_shift _ _ (by omega)
    have hsh2 : IntKind.u8.wrap (n / 2 ^ t) = (z : Int) := by rw [wrap_u8', hsh]
    obtain rfl : i = (t : Int) := by omega
    have HI := Lib.hid hi
    have HZ := Lib.hid hz
    have ht2 : t ≤ 56 := by omega
    clear hz hsh hi ht
    have HW2 : Hid (Below w.heap.size w (wr.alloc (.cells #[.int .u8 (z : Int)] 5))) := HW.out.alloc HW.out.size _
    go_wp2_with (at_builtin; refine append_row rfl (.tmp 14) (.tmp 20) rfl w.heap.size m (bs ++ (longB n).take k) [z] _ rfl (HO'.out.alloc _) (some_ne _ _ _) HW2.out.size _ _ _ rfl (row_byte wr z hz8) (by omega) w HW2.out ?_)
    intro g3 cp3 w3 ho3 hb3
    have HO3 := Lib.hid ho3
    have HB3 := Lib.hid hb3
    clear ho3 hb3 hsh2
    go_wp2
    go_roundw
    case rel => exact ⟨k + 1, _, by omega, by have := HI.out; omega, rfl, longAt_step hlt HM.out HZ.out HO3.out HB3.out⟩
    case measure => simp [intOf]; omega
  · obtain rfl : k = 8 := by omega
    obtain rfl : i = -8 := by omega
    clear hi
    go_wp2
    go_ret
    have h3 := HO'.out
    rw [List.take_of_length_le (by rw [length_longB]; omega)] at h3
    refine gives_row ?_ h3 HW.out
    rw [HM.out, List.length_append, length_longB]
end Go.Proofs.Ytipaebflkebdjaa
