/- Slices of bytes: what a slice reads as, blocks that are known, rows that the call owns, append, conversions to a text, slice expressions; over one program's numbers. Nothing of a layer's own. -/
import Derived.Test.YtlcnpeodhfdhlaaRows
import Derived.WalkKit
import Derived.IntWalk
import Derived.Lib.Hide
import Derived.Lib.SlBytesConst
import Derived.Laws.BitsAllLaws
import Derived.Laws.CopyOwn
import Derived.Laws.AppendOwnNone
import Derived.Laws.BytesString
import Derived.BigFrame
import Derived.OpenShut
import Derived.WalkSmall
import Derived.Deep.RegionHeld3
namespace Go.Proofs.Ytlcnpeodhfdhlaa
open Go.RowKit Go.OpenShut
set_option linter.unusedVariables false

abbrev AllB (bs : List Nat) : Prop := ∀ x ∈ bs, x < 256
/-- A slice of bytes reads as bs: it is empty, or its cells lie in one block, one behind the other. -/
structure Byt (w : World) (ad : Option Addr) (len cap : Nat) (bs : List Nat) : Prop where
  length : bs.length = len
  fits : len ≤ cap
  all : AllB bs
  cells : len = 0 ∨ ∃ b off, ad = some ⟨b, off, none⟩ ∧ ∀ i, i < len → w.cell? ⟨b, off + i, none⟩ = some (.int .u8 (bs.getD i 0 : Nat))

theorem getD_all {bs : List Nat} (h : AllB bs) (k : Nat) : bs.getD k 0 < 256 := by
  rw [List.getD_eq_getElem?_getD]
  rcases hk : bs[k]? with _ | x
  · decide
  · exact h x (List.mem_of_getElem? hk)
theorem take_all {bs : List Nat} (h : AllB bs) (k : Nat) : AllB (bs.take k) := fun x hx => h x (List.mem_of_mem_take hx)

def byte (b : Nat) : Value := .int .u8 (b : Int)
def vals (bs : List Nat) : List Value := bs.map byte
/-- Block g is known whole: the bytes bs. -/
def Own (w : World) (g : Nat) (bs : List Nat) : Prop := w.heap[g]? = some (.cells (vals bs).toArray 5 (0, 0))
theorem length_vals (bs : List Nat) : (vals bs).length = bs.length := by simp [vals]
theorem vals_append (a b : List Nat) : vals (a ++ b) = vals a ++ vals b := by simp [vals]
theorem Own.cell {w : World} {g : Nat} {bs : List Nat} (h : Own w g bs) (i : Nat) (hi : i < bs.length) : w.cell? ⟨g, i, none⟩ = some (.int .u8 (bs.getD i 0 : Nat)) := by
  rw [cell_of_row w g i _ _ _ h]
  simp [vals, hi, byte]
theorem Own.free {w : World} {g : Nat} {bs : List Nat} (h : Own w g bs) (i : Nat) : w.frozen? ⟨g, i, none⟩ = false := frozen_of_row w g i _ _ h
theorem Own.byt {w : World} {g : Nat} {bs : List Nat} (h : Own w g bs) (ha : AllB bs) (cap : Nat) (hc : bs.length ≤ cap) : Byt w (some ⟨g, 0, none⟩) bs.length cap bs :=
  ⟨rfl, hc, ha, .inr ⟨g, 0, rfl, fun i hi => by rw [Nat.zero_add]; exact h.cell i hi⟩⟩
theorem Own.keep {w w' : World} {g : Nat} {bs : List Nat} (h : Own w g bs) {B : Nat} (hb : Below B w w') (hg : g < B) : Own w' g bs := by
  show w'.heap[g]? = _
  rw [hb.block g hg]; exact h
theorem Own.lt {w : World} {g : Nat} {bs : List Nat} (h : Own w g bs) : g < w.heap.size := (Array.getElem?_eq_some_iff.1 h).1
theorem Own.set {w : World} {g : Nat} {bs : List Nat} (h : Own w g bs) (i : Nat) (x : Nat) : Own (w.setCell ⟨g, i, none⟩ (.int .u8 x)) g (bs.set i x) := by
  have := heap_setCell_same w g i _ _ (.int .u8 x) h
  show (w.setCell ⟨g, i, none⟩ (.int .u8 x)).heap[g]? = some (.cells (vals (bs.set i x)).toArray 5 (0, 0))
  rw [this]
  congr 2
  simp [vals, byte]
theorem Byt.keep {w w' : World} {ad : Option Addr} {len cap : Nat} {bs : List Nat} (h : Byt w ad len cap bs) {B : Nat} (hb : Below B w w') (hB : w.heap.size ≤ B) : Byt w' ad len cap bs := by
  refine ⟨h.length, h.fits, h.all, ?_⟩
  rcases h.cells with h0 | ⟨b, off, e, hc⟩
  · exact .inl h0
  · refine .inr ⟨b, off, e, fun i hi => ?_⟩
    have := hc i hi
    rw [hb.cell (p := ⟨b, off + i, none⟩) (by have := World.block_lt_of_cell? w _ this; exact Nat.lt_of_lt_of_le this hB)]
    exact this
theorem own_made {w : World} {base g n : Nat} {xs : List Value} (h : w.ownsRow base 5 1 (.slice (some ⟨g, 0, none⟩) n n) n xs) : w.heap[g]? = some (.cells xs.toArray 5 (0, 0)) := by
  rcases h.2 with ⟨h', _⟩ | ⟨g', cap', cur, h', _, hg, _, _, hs, htake⟩
  · simp at h'
  · simp only [Value.slice.injEq, Option.some.injEq, Addr.mk.injEq, and_true, true_and] at h'
    obtain ⟨rfl, rfl⟩ := h'
    rw [hg, ← htake, List.take_of_length_le (by simp [hs])]
theorem info5 : (Try.prog.info? 5).map (fun i => (i.zero, i.size, i.bytes)) = some (some (.int .u8 0), 1, 1) := by kernel_rfl

theorem own_zero {w : World} {g n : Nat} (h : w.heap[g]? = some (.cells (madeCells (Value.int .u8 0).cells (n * 1)).toList.toArray 5 (0, 0))) : Own w g (List.replicate n 0) := by
  show w.heap[g]? = _
  rw [h, Nat.mul_one]
  have : (madeCells (Value.int .u8 0).cells n).toList = vals (List.replicate n 0) := by
    have := toList_madeCells_one (.int .u8 0) n
    rw [show (Value.int .u8 0).cells = #[.int .u8 0] from rfl, this]
    simp [vals, byte]
  rw [this]
theorem size5 : (Try.prog.info? 5).map (·.size) = some 1 := by kernel_rfl
theorem vals_one (bs : List Nat) : ∀ v ∈ vals bs, v.oneCell' = true := by
  intro v hv
  obtain ⟨b, _, rfl⟩ := List.mem_map.1 hv
  rfl
theorem Byt.source {w : World} {ad : Option Addr} {len cap : Nat} {bs : List Nat} (h : Byt w ad len cap bs) (hp : 0 < len) : ∃ a, ad = some a ∧ ∀ j v, (vals bs)[j]? = some v → w.cell? (a.add j) = some v := by
  rcases h.cells with h0 | ⟨b, off, e, hc⟩
  · omega
  · refine ⟨_, e, fun j v hj => ?_⟩
    have hjl : j < bs.length := by
      have := (List.getElem?_eq_some_iff.1 hj).1
      simpa [vals] using this
    have h1 := hc j (by rw [h.length] at hjl; exact hjl)
    have h2 : (⟨b, off, none⟩ : Addr).add j = ⟨b, off + j, none⟩ := by
      unfold Addr.add
      split
      · rename_i h3; subst h3; rfl
      · rfl
    rw [h2, h1]
    rw [← hj]
    simp [vals, byte, hjl]
theorem Byt.alike {w w' : World} {ad : Option Addr} {len cap : Nat} {bs : List Nat} (h : Byt w ad len cap bs) (hc : ∀ a, w'.cell? a = w.cell? a) : Byt w' ad len cap bs := by
  refine ⟨h.length, h.fits, h.all, ?_⟩
  rcases h.cells with h0 | ⟨b, off, e, hc'⟩
  · exact .inl h0
  · exact .inr ⟨b, off, e, fun i hi => (hc _).trans (hc' i hi)⟩
theorem Byt.drewN {w : World} {ad : Option Addr} {len cap : Nat} {bs : List Nat} (h : Byt w ad len cap bs) (n : Nat) : Byt (w.drewN n) ad len cap bs := h.alike fun a => by simp

theorem elem22 : Try.prog.underlying 26 = some (.slice (Try.prog.elem 26)) := by kernel_rfl
theorem sizeElem (w : World) : (sizeOf (Try.prog.elem 26)).run Try.prog w = .ok 1 w := by kernel_rfl
theorem run_from (b off len cap l : Nat) (h : l ≤ len) (w : World) :
    (Instr.slice 26 (.slice (some ⟨b, off, none⟩) len cap) (some (.int .i64 l)) none none).run Try.prog w = .ok (.slice (some ⟨b, if cap = l then off else off + l, none⟩) (len - l) (cap - l)) w := by
  rw [run_slice_l _ _ _ _ _ elem22 _ _ (by omega) (by omega), sizeElem]
  simp only [Result.andThen, sliced, Nat.mul_one, Int.toNat_natCast]
  congr 2
  by_cases h1 : cap = l
  · simp [h1]
  · simp [h1, Addr.add]
theorem add_at (b o j : Nat) : (⟨b, o, none⟩ : Addr).add j = ⟨b, o + j, none⟩ := by
  unfold Addr.add
  split
  · rename_i h; subst h; rfl
  · rfl
theorem source_at {w : World} {b o : Nat} {r : List Value} (h : ∃ a, some (⟨b, o, none⟩ : Addr) = some a ∧ ∀ j v, r[j]? = some v → w.cell? (a.add j) = some v) : ∀ j v, r[j]? = some v → w.cell? ⟨b, o + j, none⟩ = some v := by
  obtain ⟨a, ha, hs⟩ := h
  obtain rfl := Option.some.inj ha
  intro j v hj
  rw [← add_at]; exact hs j v hj
/-- Block g begins with the bytes bs. -/
def Pre (w : World) (g : Nat) (bs : List Nat) : Prop := ∃ cur : Array Value, w.heap[g]? = some (.cells cur 5 (0, 0)) ∧ cur.toList.take bs.length = vals bs
theorem Own.pre {w : World} {g : Nat} {bs : List Nat} (h : Own w g bs) : Pre w g bs := ⟨_, h, by rw [← length_vals]; simp⟩
theorem Pre.cell {w : World} {g : Nat} {bs : List Nat} (h : Pre w g bs) (i : Nat) (hi : i < bs.length) : w.cell? ⟨g, i, none⟩ = some (.int .u8 (bs.getD i 0 : Nat)) := by
  obtain ⟨cur, hg, ht⟩ := h
  rw [cell_of_row w g i _ _ _ hg]
  have h1 : (cur.toList.take bs.length)[i]? = cur[i]? := by rw [List.getElem?_take, if_pos hi]; simp
  rw [← h1, ht]
  simp [vals, hi, byte]
theorem Pre.free {w : World} {g : Nat} {bs : List Nat} (h : Pre w g bs) (i : Nat) : w.frozen? ⟨g, i, none⟩ = false := by
  obtain ⟨cur, hg, _⟩ := h
  exact frozen_of_row w g i _ _ hg
theorem Pre.byt {w : World} {g : Nat} {bs : List Nat} (h : Pre w g bs) (ha : AllB bs) (cap : Nat) (hc : bs.length ≤ cap) : Byt w (some ⟨g, 0, none⟩) bs.length cap bs :=
  ⟨rfl, hc, ha, .inr ⟨g, 0, rfl, fun i hi => by rw [Nat.zero_add]; exact h.cell i hi⟩⟩
theorem Pre.keep {w w' : World} {g : Nat} {bs : List Nat} (h : Pre w g bs) {B : Nat} (hb : Below B w w') (hg : g < B) : Pre w' g bs := by
  obtain ⟨cur, h1, h2⟩ := h
  exact ⟨cur, by rw [hb.block g hg]; exact h1, h2⟩
theorem Pre.lt {w : World} {g : Nat} {bs : List Nat} (h : Pre w g bs) : g < w.heap.size := by
  obtain ⟨cur, hg, _⟩ := h
  exact (Array.getElem?_eq_some_iff.1 hg).1
theorem Pre.set {w : World} {g : Nat} {bs : List Nat} (h : Pre w g bs) (i : Nat) (x : Nat) : Pre (w.setCell ⟨g, i, none⟩ (.int .u8 x)) g (bs.set i x) := by
  obtain ⟨cur, h1, h2⟩ := h
  refine ⟨_, heap_setCell_same w g i _ _ (.int .u8 x) h1, ?_⟩
  rw [List.length_set, Array.toList_setIfInBounds, List.take_set, h2]
  simp [vals, byte]
theorem pre_owns {w : World} {base g n cap : Nat} {bs : List Nat} (h : w.ownsRow base 5 1 (.slice (some ⟨g, 0, none⟩) n cap) n (vals bs)) : Pre w g bs ∧ bs.length = n ∧ n ≤ cap ∧ base ≤ g ∧ cap ≤ maxLen := by
  have hl := h.1
  rcases h.2 with ⟨h', _⟩ | ⟨g', cap', cur, h', hb, hg, hc, hm, hs, htake⟩
  · simp at h'
  · simp only [Value.slice.injEq, Option.some.injEq, Addr.mk.injEq, and_true, true_and] at h'
    obtain ⟨rfl, rfl⟩ := h'
    have hn : bs.length = n := by simpa [length_vals] using hl
    exact ⟨⟨cur, hg, by rw [hn]; simpa using htake⟩, hn, hc, hb, hm⟩
/-- What 'Sealed' and its like give: a slice at the head of a new block, which begins with bs. -/
def Made (w : World) (bs : List Nat) (v : Value) (w' : World) : Prop := ∃ g cap, v = .slice (some ⟨g, 0, none⟩) bs.length cap ∧ bs.length ≤ cap ∧ w.heap.size ≤ g ∧ Pre w' g bs ∧ Below w.heap.size w w'
def GivesMade (w : World) (bs : List Nat) (e : Ending) (w' : World) : Prop := ∃ v, e = .returned v ∧ Made w bs v w'
theorem made_of {w w' : World} {bs : List Nat} {v' : Value} (h : w'.ownsRow w.heap.size 5 1 v' bs.length (vals bs)) (hn : 0 < bs.length) (hb : Below w.heap.size w w') : Made w bs v' w' := by
  rcases h.2 with ⟨h', h0⟩ | ⟨g', cap', cur, rfl, _⟩
  · omega
  · obtain ⟨h1, h2, h3, h4, h5⟩ := pre_owns h
    exact ⟨g', cap', rfl, h3, h4, h1, hb⟩

def str (bs : List Nat) : ByteArray := ⟨(bs.map UInt8.ofNat).toArray⟩
theorem foldl_push (bs : List Int) (s : ByteArray) : (bs.foldl (fun r n => r.push (UInt8.ofNat n.toNat)) s).data.toList = s.data.toList ++ bs.map (fun n => UInt8.ofNat n.toNat) := by
  induction bs generalizing s with
  | nil => simp
  | cons b bs ih => rw [List.foldl_cons, ih]; simp [ByteArray.push]
theorem str_eq (bs : List Nat) : ((bs.map Int.ofNat).foldl (fun r n => r.push (UInt8.ofNat n.toNat)) ByteArray.empty) = str bs := by
  apply ByteArray.ext
  apply Array.toList_inj.1
  rw [foldl_push]
  have e : (ByteArray.empty : ByteArray).data.toList = [] := rfl
  rw [e]
  simp [str, Function.comp_def]
theorem ints_vals (bs : List Nat) : (bs.map Int.ofNat).map (Value.int .u8) = vals bs := by simp only [vals, List.map_map]; rfl
theorem run_str {w : World} {ad : Option Addr} {len cap : Nat} {bs : List Nat} (h : Byt w ad len cap bs) : (convert 26 9 (.slice ad len cap)).run Try.prog w = .ok (.string (str bs)) w := by
  rw [run_convert_bytes_string w 26 9 5 ad len cap Try.underlying26 Try.underlying5 Try.underlying9]
  rcases ad with _ | a
  · have : len = 0 := by
      rcases h.cells with h0 | ⟨b, off, e, _⟩
      · exact h0
      · cases e
    subst this
    obtain rfl : bs = [] := List.eq_nil_of_length_eq_zero h.length
    simp [Conv.bytesToString, Sem.run_pure, str]; rfl
  · have hl := h.length
    have hc : ∀ j v, (vals bs)[j]? = some v → w.cell? (a.add j) = some v := by
      intro j v hj
      have hjl : j < bs.length := by
        have := (List.getElem?_eq_some_iff.1 hj).1
        rwa [length_vals] at this
      obtain ⟨a', ha', hs⟩ := h.source (by omega)
      obtain rfl := Option.some.inj ha'
      exact hs j v hj
    have h1 := run_loadCells_list (P := Try.prog) (w := w) a (vals bs) hc
    rw [length_vals, hl, ← ints_vals] at h1
    rw [run_bytesToString w a len cap _ h1, str_eq]
theorem str_toList (bs : List Nat) : (str bs).toList = bs.map UInt8.ofNat := by rw [ByteArray.toList_eq]; simp [str]
theorem str_inj {a b : List Nat} (ha : AllB a) (hb : AllB b) (h : (str a).toList = (str b).toList) : a = b := by
  rw [str_toList, str_toList] at h
  have h2 := congrArg (List.map UInt8.toNat) h
  rw [List.map_map, List.map_map] at h2
  have e : ∀ l : List Nat, AllB l → l.map (UInt8.toNat ∘ UInt8.ofNat) = l := by
    intro l hl
    conv => rhs; rw [← List.map_id l]
    apply List.map_congr_left
    intro x hx
    have := hl x hx
    simp [Nat.mod_eq_of_lt this]
  rwa [e a ha, e b hb] at h2
theorem str_same (bs : List Nat) : ((str bs).toList == (str bs).toList) = true := by simp
theorem str_differ {a b : List Nat} (ha : AllB a) (hb : AllB b) (h : a ≠ b) : ((str a).toList == (str b).toList) = false := by
  simp only [beq_eq_false_iff_ne, ne_eq]
  exact fun e => h (str_inj ha hb e)
theorem own_new (w : World) (bs : List Nat) : Own (w.alloc (.cells (vals bs).toArray 5)) w.heap.size bs := heap_alloc_new w _
theorem Byt.nil (w : World) : Byt w none 0 0 [] := ⟨rfl, Nat.le_refl _, (fun x hx => by cases hx), .inl rfl⟩

theorem all_small {bs : List Nat} (h : bs.all (· < 256) = true) : AllB bs := by
  intro x hx
  have := List.all_eq_true.1 h x hx
  simpa using this
/-- A new block that is marked as a constant text's reads as its bytes. -/
theorem byt_marked (W : World) (bs : List Nat) (fr : Nat × Nat) (ha : AllB bs) : Byt (W.alloc (.cells (vals bs).toArray 5 fr)) (some ⟨W.heap.size, 0, none⟩) bs.length bs.length bs := by
  refine ⟨rfl, Nat.le_refl _, ha, .inr ⟨W.heap.size, 0, rfl, fun i hi => ?_⟩⟩
  have hg : (W.alloc (.cells (vals bs).toArray 5 fr)).heap[W.heap.size]? = some (.cells (vals bs).toArray 5 fr) := heap_alloc_new W _
  rw [cell_of_row _ _ _ _ _ _ hg]
  simp [vals, byte, hi]
theorem run_str_at {w : World} {ad : Option Addr} {len cap : Nat} {bs : List Nat} {s : ByteArray} (h : Byt w ad len cap bs) (hs : s = str bs) : (convert 26 9 (.slice ad len cap)).run Try.prog w = .ok (.string s) w := by
  rw [hs]; exact run_str h
theorem news_of {w : World} {b o len cap : Nat} {r : List Nat} (h : Byt w (some ⟨b, o, none⟩) len cap r) : ∀ j u, (vals r)[j]? = some u → w.cell? ((⟨b, o, none⟩ : Addr).add j) = some u := by
  intro j u hj
  have hjl : j < r.length := by
    have := (List.getElem?_eq_some_iff.1 hj).1
    rwa [length_vals] at this
  obtain ⟨a', ha', hs⟩ := h.source (by have := h.length; omega)
  obtain rfl := Option.some.inj ha'
  exact hs j u hj
theorem made_some {w w' : World} {bs : List Nat} {v' : Value} (h : w'.ownsRow w.heap.size 5 1 v' bs.length (vals bs)) (hn : v' ≠ .slice none 0 0) (hb : Below w.heap.size w w') : Made w bs v' w' := by
  rcases h.2 with ⟨h', h0⟩ | ⟨g', cap', cur, rfl, _⟩
  · exact absurd h' hn
  · obtain ⟨h1, h2, h3, h4, h5⟩ := pre_owns h
    exact ⟨g', cap', rfl, h3, h4, h1, hb⟩
def IsRow (k : IntKind) (w : World) (a : Option Addr) (len cap : Nat) (zs : List Int) : Prop :=
  (a = none ∧ len = 0 ∧ cap = 0 ∧ zs = []) ∨
  ∃ x, a = some x ∧ len ≤ cap ∧ cap ≤ maxLen ∧ zs.length = cap ∧ (∀ i, i < zs.length → w.cell? (x.add i) = some (.int k (zs.getD i 0))) ∧ ∀ n ∈ zs, (Lit.int k n).wf = true

/-- The bytes of a slice that came in, as numbers. -/
def bytesOf (len : Nat) (zs : List Int) : List Nat := (zs.take len).map Int.toNat
theorem wf_byte {n : Int} (h : (Lit.int .u8 n).wf = true) : 0 ≤ n ∧ n < 256 := by
  have := bounds_u8 h
  omega
theorem IsRow.byt {w : World} {a : Option Addr} {len cap : Nat} {zs : List Int} (h : IsRow .u8 w a len cap zs) : Byt w a len cap (bytesOf len zs) ∧ (a = none → cap = 0) := by
  rcases h with ⟨rfl, rfl, rfl, rfl⟩ | ⟨x, rfl, hl, hm, hz, hc, hw⟩
  · exact ⟨Byt.nil w, fun _ => rfl⟩
  · refine ⟨⟨by simp [bytesOf]; omega, hl, ?_, ?_⟩, fun e => by cases e⟩
    · intro y hy
      obtain ⟨n, hn, rfl⟩ := List.mem_map.1 hy
      have := wf_byte (hw n (List.mem_of_mem_take hn))
      omega
    · by_cases h0 : len = 0
      · exact .inl h0
      · obtain ⟨b, off, spot⟩ := x
        have h1 := hc 0 (by omega)
        have hs : spot = none := by simpa [Addr.add] using World.cell?_spot h1
        subst hs
        refine .inr ⟨b, off, rfl, fun i hi => ?_⟩
        have h2 := hc i (by omega)
        rw [add_at] at h2
        rw [h2]
        have hi2 : i < zs.length := by omega
        have h3 := wf_byte (hw (zs.getD i 0) (by rw [List.getD_eq_getElem?_getD, List.getElem?_eq_getElem hi2]; simp))
        have h4 : ((bytesOf len zs).getD i 0 : Nat) = (zs.getD i 0).toNat := by
          simp [bytesOf, List.getD_eq_getElem?_getD, hi, hi2]
        rw [h4, Int.toNat_of_nonneg h3.1]
/-- A slice of bytes, and, if it is nil, it has no room. -/
def Row (w : World) (ad : Option Addr) (len cap : Nat) (bs : List Nat) : Prop := Byt w ad len cap bs ∧ (ad = none → cap = 0)
theorem Row.keep {w w' : World} {ad : Option Addr} {len cap : Nat} {bs : List Nat} (h : Row w ad len cap bs) {B : Nat} (hb : Below B w w') (hB : w.heap.size ≤ B) : Row w' ad len cap bs := ⟨h.1.keep hb hB, h.2⟩
theorem Row.all {w : World} {ad : Option Addr} {len cap : Nat} {bs : List Nat} (h : Row w ad len cap bs) : AllB bs := h.1.all
theorem Row.len {w : World} {ad : Option Addr} {len cap : Nat} {bs : List Nat} (h : Row w ad len cap bs) : bs.length = len := h.1.length

/-- 'append(v, xs...)', v the call's own, xs any slice of bytes, nil too. -/
theorem append_row {w : World} {ops : Array Oper} {rest : List Oper} {o : Oper} {a : Act} {Q : Exit → Act → World → Prop} (hgd : o.guard = none) (s x : Operand)
    (ho : o.op = .call { callee := .builtin .append, args := #[s, x], argTypes := #[26, 26] })
    (base n : Nat) (xs ys : List Nat) (v : Value) (hs : a.eval s = v) (hown : w.ownsRow base 5 1 v n (vals xs)) (hv : v ≠ .slice none 0 0) (hbase : base ≤ w.heap.size)
    (ad : Option Addr) (len cap : Nat) (hx : a.eval x = .slice ad len cap) (hr : Row w ad len cap ys) (hn : n + len ≤ 140737488355328)
    (w0 : World) (hb0 : Below base w0 w)
    (h : ∀ g cp w', w'.ownsRow base 5 1 (.slice (some ⟨g, 0, none⟩) (n + len) cp) (n + len) (vals (xs ++ ys)) → Below base w0 w' → wpList Try.prog ops Q rest (a.put o.dst (.slice (some ⟨g, 0, none⟩) (n + len) cp)) w') :
    wpList Try.prog ops Q (o :: rest) a w := by
  obtain ⟨i0, hi, hz0, hz1, hz2⟩ := info_parts info5
  rcases ad with _ | ad
  · have hcap := hr.2 rfl
    have hl := hr.1.fits
    have hyl := hr.1.length
    subst hcap
    obtain rfl : len = 0 := by omega
    obtain rfl : ys = [] := List.eq_nil_of_length_eq_zero hyl
    refine wpList_append_own_none hgd s x 26 ho base 5 i0 1 Try.underlying26 hi v n (vals xs) hs hown hx ?_
    rcases hown.2 with ⟨h', _⟩ | ⟨g, cp, cur, rfl, _⟩
    · exact absurd h' hv
    · exact h g cp w (by simpa using hown) hb0
  · refine wpList_append_own _ hgd s x 26 ho base 5 i0 (.int .u8 0) 1 1 Try.underlying26 hi hz0 hz1 hz2 rfl (by decide) v n (vals xs) hs hown ad len cap (vals ys) hx (by rw [length_vals, hr.1.length]; simp) (by
      intro j u hj
      have hjl : j < ys.length := by
        have := (List.getElem?_eq_some_iff.1 hj).1
        rwa [length_vals] at this
      obtain ⟨a', ha', hs'⟩ := hr.1.source (by have := hr.1.length; omega)
      obtain rfl := Option.some.inj ha'
      exact hs' j u hj) (vals_one ys) (by unfold maxLen; omega) (by omega) hbase ?_
    intro v' w' hown' hgrow hnn
    rw [← vals_append] at hown'
    have hb : Below base w0 w' := hb0.grown hgrow hbase (fun k hk => (hown.lt k hk).1)
    rcases hown'.2 with ⟨h', _⟩ | ⟨g, cp, cur, rfl, _⟩
    · exact absurd (hnn.1 h').1 hv
    · exact h g cp w' hown' hb
theorem own_empty (W : World) (base : Nat) (h : base ≤ W.heap.size) : (W.alloc (.cells #[] 5)).ownsRow base 5 1 (.slice (some ⟨W.heap.size, 0, none⟩) 0 0) 0 (vals []) := World.ownsRow_lit (e := 5) (size := 1) W #[] 0 h (by decide) rfl
theorem some_ne (a : Addr) (l c : Nat) : (Value.slice (some a) l c) ≠ .slice none 0 0 := by intro h; cases h
theorem owns_row {w : World} {base n g cp : Nat} {bs : List Nat} (h : w.ownsRow base 5 1 (.slice (some ⟨g, 0, none⟩) n cp) n (vals bs)) (ha : AllB bs) : Row w (some ⟨g, 0, none⟩) n cp bs := by
  obtain ⟨h1, h2, h3, h4, h5⟩ := pre_owns h
  have := h1.byt ha cp (by omega)
  rw [h2] at this
  exact ⟨this, fun h => by cases h⟩
theorem all_append {a b : List Nat} (ha : AllB a) (hb : AllB b) : AllB (a ++ b) := by
  intro x hx
  rcases List.mem_append.1 hx with h | h
  · exact ha x h
  · exact hb x h
theorem all_one : AllB [1] := all_small (by decide)

/-- A value that reads as the text t, in every world that has not turned since w. -/
def ReadsAs (w : World) (v : Value) (t : ByteArray) : Prop := ∀ W, Below w.heap.size w W → (convert 26 9 v).run Try.prog W = .ok (.string t) W
theorem ReadsAs.of {w : World} {a : Option Addr} {l c : Nat} {bs : List Nat} (h : Byt w a l c bs) : ReadsAs w (.slice a l c) (str bs) := fun W hW => run_str (h.keep hW (Nat.le_refl _))
theorem owns_keep {w w' : World} {base e size n : Nat} {v : Value} {xs : List Value} (h : w.ownsRow base e size v n xs) {B : Nat} (hb : Below B w w') (hB : w.heap.size ≤ B) : w'.ownsRow base e size v n xs := by
  refine ⟨h.1, ?_⟩
  rcases h.2 with h0 | ⟨g, cap, cur, hv, hg, hh, r⟩
  · exact .inl h0
  · refine .inr ⟨g, cap, cur, hv, hg, ?_, r⟩
    rw [hb.block g (Nat.lt_of_lt_of_le (Array.getElem?_eq_some_iff.1 hh).1 hB)]
    exact hh
theorem owns_any {w : World} {base n : Nat} {v : Value} {bl : List Nat} (h : w.ownsRow base 5 1 v n (vals bl)) (ha : AllB bl) : ∃ ad cap, v = .slice ad n cap ∧ Row w ad n cap bl := by
  rcases h.2 with ⟨hv, hn⟩ | ⟨g, cap, cur, rfl, _⟩
  · subst hn
    have hl : bl = [] := by
      have := h.1
      rw [length_vals] at this
      exact List.eq_nil_of_length_eq_zero (by omega)
    subst hl
    exact ⟨none, 0, hv, Byt.nil w, fun _ => rfl⟩
  · exact ⟨_, _, rfl, owns_row h ha⟩
theorem xor_some (a b : Int) : ∃ z : Nat, z < 256 ∧ bits .xor .u8 a b = (z : Int) := by
  have h : ∀ n : Int, 0 ≤ IntKind.u8.wrap n ∧ IntKind.u8.wrap n < 256 := fun n => by rw [IntKind.wrap_u8]; omega
  obtain ⟨n, hn⟩ : ∃ n : Int, bits .xor .u8 a b = IntKind.u8.wrap n := ⟨_, rfl⟩
  have := h n
  exact ⟨(IntKind.u8.wrap n).toNat, by omega, by rw [hn]; omega⟩

theorem cut_row {w : World} {a : Addr} {len cap : Nat} {bs : List Nat} (h : Row w (some a) len cap bs) (l : Nat) (hl : l ≤ len) : Row w (some a) l cap (bs.take l) := by
  refine ⟨⟨by rw [List.length_take, h.1.length]; omega, Nat.le_trans hl h.1.fits, take_all h.all l, ?_⟩, fun h => by cases h⟩
  rcases h.1.cells with h0 | ⟨b, off, e, hc⟩
  · exact .inl (by omega)
  · refine .inr ⟨b, off, e, fun i hi => ?_⟩
    rw [hc i (by omega)]
    have : (bs.take l).getD i 0 = bs.getD i 0 := by rw [List.getD_eq_getElem?_getD, List.getElem?_take, if_pos hi, ← List.getD_eq_getElem?_getD]
    rw [this]

/-- A stronger condition on the worlds may be taken on the way through a region that draws its order. -/
theorem wpAnyH_strengthen {P : Program} {md : Region.Mode} {ops : Array Oper} {Q : Exit → Act → World → Prop} {S S' : World → Prop} (h : ∀ w, S' w → S w) :
    ∀ (fuel : Nat) (listed : Array Bool) (a : Act) (w : World), wpAnyH P md ops Q S' fuel listed a w → wpAnyH P md ops Q S fuel listed a w
  | 0, _, _, _, hh => hh
  | fuel + 1, _, _, _, hh => ⟨hh.1, fun i hi => wpOp_mono (fun _ _ hk => ⟨h _ hk.1, wpAnyH_strengthen h fuel _ _ _ hk.2⟩) (hh.2 i hi)⟩
/-- A value that reads as the text s, in every world that has not turned since w. -/
def Reads (w : World) (v : Value) (s : ByteArray) : Prop := ∀ W, Below w.heap.size w W → (convert 26 9 v).run Try.prog W = .ok (.string s) W
theorem Reads.of {w : World} {a : Option Addr} {l c : Nat} {bs : List Nat} (h : Byt w a l c bs) : Reads w (.slice a l c) (str bs) := fun W hW => run_str (h.keep hW (Nat.le_refl _))
theorem Reads.keep {w w' : World} {v : Value} {s : ByteArray} (h : Reads w v s) (hb : Below w.heap.size w w') : Reads w' v s := fun W hW => h W (hb.trans (hW.mono hb.size))
theorem Reads.now {w : World} {v : Value} {s : ByteArray} (h : Reads w v s) : (convert 26 9 v).run Try.prog w = .ok (.string s) w := h w (Below.refl _ _)
end Go.Proofs.Ytlcnpeodhfdhlaa
