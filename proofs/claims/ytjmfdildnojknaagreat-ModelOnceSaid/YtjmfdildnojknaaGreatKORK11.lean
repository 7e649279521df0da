/- Parts of a proof. -/
import Derived.Test.YtjmfdildnojknaaGreatKORK10
set_option maxRecDepth 100000
set_option maxHeartbeats 16000000
set_option linter.unusedVariables false
namespace Go.Proofs.YtjmfdildnojknaaGreat
open Go.RowKit
open Go.FoMath
open Go.ProdMath
open Go.BatMath hiding AllB getD_lt take_all In64
theorem MOk.move {N N' G : Nat → Prop} {W W' : World} {km : Nat} {mc s : Int} {ad : Option Addr} {len cap : Nat} {ms : List BM} (h : MOk N W km mc s ad len cap ms) (hk : Kept W W' G) (hkm : ¬ G km) (hG : ∀ k, k < W.heap.size → N k → ¬ G k) (hN : ∀ k, k < W.heap.size → N k → N' k) (hu : ∀ k, W'.heap.size ≤ k → N' k) : MOk N' W' km mc s ad len cap ms where
 box := hk.box h.box hkm
 bats := BatsAt.kept h.bats hk (fun a ha => hG _ (h.row a ha).2 (h.inN.1 a ha)) (fun m hm a ha => hG _ (h.ins m hm a ha).2 (h.inN.2 m hm a ha))
 row := fun a ha => ⟨(h.row a ha).1, Nat.lt_of_lt_of_le (h.row a ha).2 hk.size⟩
 ins := fun m hm a ha => ⟨(h.ins m hm a ha).1, Nat.lt_of_lt_of_le (h.ins m hm a ha).2 hk.size⟩
 inN := ⟨fun a ha => hN _ (h.row a ha).2 (h.inN.1 a ha), fun m hm a ha => hN _ (h.ins m hm a ha).2 (h.inN.2 m hm a ha)⟩
 up := hu
theorem mok_len {N : Nat → Prop} {W : World} {km : Nat} {mc s : Int} {ad : Option Addr} {len cap : Nat} {ms : List BM} (h : MOk N W km mc s ad len cap ms) : (bats ms).length = len := by
 have h1 := h.bats.row.length
 unfold bats
 rw [List.length_map, h1]
structure Dbl (R : LogP) (B : Nat) (X : Nat → Prop) (W : World) (a : Addr) (c s : Int) (bs : List Bat) (km : Nat) (mc s2 : Int) (b2 : List Bat) : Prop where
 is : ∃ F ad len cap ms, R F W a c s bs ∧ MOk (fun k => ¬ F k ∧ ¬ X k) W km mc s2 ad len cap ms ∧ bats ms = b2 ∧ (∀ k, F k → B ≤ k) ∧ (∀ k, F k → ¬ X k) ∧ ¬ F km
 row : LogRow s bs
 row2 : LogRow s2 b2
 low : B ≤ W.heap.size
 lowm : B ≤ km
 bnd : ∀ k, X k → k < W.heap.size ∧ k ≠ km
section
variable {R : LogP} {B : Nat} {X : Nat → Prop} {W W' : World} {a : Addr} {c s : Int} {bs : List Bat} {km : Nat} {mc s2 : Int} {b2 : List Bat}
theorem Dbl.alloc (C : MdCode R) (h : Dbl R B X W a c s bs km mc s2 b2) (hb : Below W.heap.size W W') {X' : Nat → Prop} (hx : ∀ k, X' k → X k ∨ (W.heap.size ≤ k ∧ k < W'.heap.size)) : Dbl R B X' W' a c s bs km mc s2 b2 := by
 obtain ⟨F, ad, len, cap, ms, h1, h2, h3, h4, h5, h6⟩ := h.is
 have hkm := lt_of_block h2.box
 refine ⟨⟨F, ad, len, cap, ms, C.keep' h1 hb, h2.move (G := fun _ => False) (Kept.of_below hb) (fun h => h) (fun _ _ _ h => h) (fun k hk hn => ⟨hn.1, fun hx' => ?_⟩) (fun k hk => ⟨fun hf => ?_, fun hx' => ?_⟩), h3, h4, fun k hf hx' => ?_, h6⟩, h.row, h.row2, Nat.le_trans h.low hb.size, h.lowm, fun k hk => ?_⟩
 · rcases hx k hx' with h7 | h7
   · exact hn.2 h7
   omega
 · have := C.lt F W a c s bs h1 k hf
   have := hb.size
   omega
 · rcases hx k hx' with h7 | h7
   · have := (h.bnd k h7).1
     have := hb.size
     omega
   omega
 · rcases hx k hx' with h7 | h7
   · exact h5 k hf h7
   have := C.lt F W a c s bs h1 k hf
   omega
 rcases hx k hk with h7 | h7
 · have := h.bnd k h7
   exact ⟨Nat.lt_of_lt_of_le this.1 hb.size, this.2⟩
 exact ⟨h7.2, by omega⟩
theorem Dbl.on (C : MdCode R) (h : Dbl R B X W a c s bs km mc s2 b2) (hb : Below W.heap.size W W') : Dbl R B X W' a c s bs km mc s2 b2 := h.alloc C hb fun k hk => .inl hk
theorem Dbl.less (C : MdCode R) (h : Dbl R B X W a c s bs km mc s2 b2) {X' : Nat → Prop} (hx : ∀ k, X' k → X k) : Dbl R B X' W a c s bs km mc s2 b2 := h.alloc C (Below.refl _ _) fun k hk => .inl (hx k hk)
theorem Dbl.turned (C : MdCode R) (h : Dbl R B X W a c s bs km mc s2 b2) {G : Nat → Prop} (hk : Kept W W' G) (hg : ∀ k, G k → X k) {X' : Nat → Prop} (hx : ∀ k, X' k → X k ∨ (W.heap.size ≤ k ∧ k < W'.heap.size)) : Dbl R B X' W' a c s bs km mc s2 b2 := by
 obtain ⟨F, ad, len, cap, ms, h1, h2, h3, h4, h5, h6⟩ := h.is
 have hkm := lt_of_block h2.box
 refine ⟨⟨F, ad, len, cap, ms, C.kept F G W W' a c s bs h1 hk (fun k hf hgk => h5 k hf (hg k hgk)), h2.move hk (fun hgk => (h.bnd km (hg km hgk)).2 rfl) (fun k _ hn hgk => hn.2 (hg k hgk)) (fun k hk2 hn => ⟨hn.1, fun hx' => ?_⟩) (fun k hk2 => ⟨fun hf => ?_, fun hx' => ?_⟩), h3, h4, fun k hf hx' => ?_, h6⟩, h.row, h.row2, Nat.le_trans h.low hk.size, h.lowm, fun k hk2 => ?_⟩
 · rcases hx k hx' with h7 | h7
   · exact hn.2 h7
   omega
 · have := C.lt F W a c s bs h1 k hf
   have := hk.size
   omega
 · rcases hx k hx' with h7 | h7
   · have := (h.bnd k h7).1
     have := hk.size
     omega
   omega
 · rcases hx k hx' with h7 | h7
   · exact h5 k hf h7
   have := C.lt F W a c s bs h1 k hf
   omega
 rcases hx k hk2 with h7 | h7
 · have := h.bnd k h7
   exact ⟨Nat.lt_of_lt_of_le this.1 hk.size, this.2⟩
 exact ⟨h7.2, by omega⟩
theorem Dbl.logAt (h : Dbl R B X W a c s bs km mc s2 b2) : LogAt R B X W a c s bs := by
 obtain ⟨F, ad, len, cap, ms, h1, h2, h3, h4, h5, h6⟩ := h.is
 exact ⟨⟨F, h1, h4, h5⟩, h.row⟩
theorem Dbl.log (C : MdCode R) (h : Dbl R B X W a c s bs km mc s2 b2) : ∃ F, R F W a c s bs ∧ ∀ s' bs' v e W', LTurns R F W a c s' bs' v e W' → LogRow s' bs' → e = .returned v ∧ Dbl R B X W' a c s' bs' km mc s2 b2 ∧ Kept W W' (fun k => B ≤ k ∧ ¬ X k ∧ k ≠ km) := by
 obtain ⟨F, ad, len, cap, ms, h1, h2, h3, h4, h5, h6⟩ := h.is
 refine ⟨F, h1, fun s' bs' v e W' ⟨F', e1, g1, g2, g3⟩ hr => ⟨e1, ⟨⟨F', ad, len, cap, ms, g1, h2.move g2 h6 (fun k _ hn => hn.1) (fun k hk hn => ⟨fun hf => ?_, hn.2⟩) (fun k hk => ⟨fun hf => ?_, fun hx => ?_⟩), h3, fun k hf => ?_, fun k hf hx => ?_, fun hf => ?_⟩, hr, h.row2, Nat.le_trans h.low g2.size, h.lowm, fun k hx => ⟨Nat.lt_of_lt_of_le (h.bnd k hx).1 g2.size, (h.bnd k hx).2⟩⟩, g2.more fun k hf => ⟨h4 k hf, h5 k hf, fun e => by rw [e] at hf; exact h6 hf⟩⟩⟩
 · rcases g3 k hf with h7 | h7
   · exact hn.1 h7
   omega
 · have := C.lt F' W' a c s' bs' g1 k hf
   omega
 · have := (h.bnd k hx).1
   have := g2.size
   omega
 · rcases g3 k hf with h7 | h7
   · exact h4 k h7
   have := h.low; omega
 · rcases g3 k hf with h7 | h7
   · exact h5 k h7 hx
   have := (h.bnd k hx).1; omega
 rcases g3 km hf with h7 | h7
 · exact h6 h7
 have := lt_of_block h2.box; omega
theorem Dbl.model (C : MdCode R) (h : Dbl R B X W a c s bs km mc s2 b2) : ∃ (N : Nat → Prop) (ad : Option Addr) (len cap : Nat) (ms : List BM), MOk N W km mc s2 ad len cap ms ∧ bats ms = b2 ∧ (∀ k, N k → ¬ X k) ∧ ∀ W' s' ad' len' cap' ms', MOk N W' km mc s' ad' len' cap' ms' → LogRow s' (bats ms') → W.grownBy W' (some km) → Dbl R B X W' a c s bs km mc s' (bats ms') := by
 obtain ⟨F, ad, len, cap, ms, h1, h2, h3, h4, h5, h6⟩ := h.is
 refine ⟨_, ad, len, cap, ms, h2, h3, fun k hn => hn.2, fun W' s' ad' len' cap' ms' g1 g2 g3 => ⟨⟨F, ad', len', cap', ms', C.kept F (fun k => k = km) W W' a c s bs h1 (Kept.of_grown g3 (.inl rfl)) (fun k hf e => by rw [e] at hf; exact h6 hf), g1, rfl, h4, h5, h6⟩, h.row, g2, Nat.le_trans h.low g3.size, h.lowm, fun k hx => ⟨Nat.lt_of_lt_of_le (h.bnd k hx).1 g3.size, (h.bnd k hx).2⟩⟩⟩
end
theorem dbl_new {R : LogP} (C : MdCode R) {w w1 W' : World} {e : Ending} {c mc : Int} (h : LMakes R w c 0 [] e w1) (hb : Below w1.heap.size w1 W') {km : Nat} (hkm : w1.heap.size ≤ km) (hm : MBox W' km mc 0 (.slice none 0 0)) {X : Nat → Prop} (hx : ∀ k, X k → w1.heap.size ≤ k ∧ k < W'.heap.size ∧ k ≠ km) : ∃ a, e = .returned (.pointer (some a)) ∧ Dbl R w.heap.size X W' a c 0 [] km mc 0 [] ∧ Below w.heap.size w w1 := by
 obtain ⟨a, F, e1, h1, h2, h3⟩ := h
 have hr : LogRow 0 [] := ⟨RowW.nil, by decide, by decide, Nat.zero_le _⟩
 have hl : ∀ k, F k → k < w1.heap.size := C.lt F w1 a c 0 [] h1
 refine ⟨a, e1, ⟨⟨F, none, 0, 0, [], C.keep' h1 hb, ⟨hm, ⟨rowAt_nil _, (fun m hm => by cases hm)⟩, (fun a ha => by cases ha), (fun m hm => by cases hm), ⟨(fun a ha => by cases ha), (fun m hm => by cases hm)⟩, fun k hk => ⟨fun hf => ?_, fun hx' => ?_⟩⟩, rfl, h2, fun k hf hx' => ?_, fun hf => ?_⟩, hr, hr, ?_, ?_, fun k hk => (hx k hk).2⟩, h3⟩
 · have := hl k hf; have := hb.size; omega
 · have := hx k hx'; omega
 · have := hl k hf; have := hx k hx'; omega
 · have := hl km hf; omega
 · exact Nat.le_trans h3.size hb.size
 exact Nat.le_trans h3.size hkm
def NumsIn (w : World) (tad : Option Addr) (tlen : Nat) : Prop := tlen ≤ 140737488355328 ∧ ∀ j, j < tlen → ∃ b off n, tad = some ⟨b, off, none⟩ ∧ b < w.heap.size ∧ w.cell? ⟨b, off + j, none⟩ = some (.int .i64 n) ∧ In64 n
theorem numsIn_of {w : World} {tad : Option Addr} {tlen : Nat} {zs : List Int} (h : Nums w tad tlen zs) (hL : tlen ≤ 140737488355328) : NumsIn w tad tlen := by
 have ht := tape_new (cap := 0) h hL
 refine ⟨hL, fun j hj => ?_⟩
 obtain ⟨b, off, n, e, hlt, hc, hi⟩ := ht.nums j hj
 refine ⟨b, off, n, e, hlt, ?_, hi⟩
 rw [← hc]
 exact (((Below.refl w.heap.size w).alloc (Nat.le_refl _) _).cell (p := ⟨b, off + j, none⟩) hlt).symm
theorem numsIn_tape {w W : World} {kt tlen tcap : Nat} {tad : Option Addr} (h : NumsIn w tad tlen) (hb : Below w.heap.size w W) (hw : w.heap.size ≤ kt) (hk : W.heap[kt]? = some (.cells #[.slice tad tlen tcap, .int .i64 ((0 : Nat) : Int)] 47 (0, 0))) : TapeAt W kt tad tlen tcap 0 :=
 ⟨hk, Nat.zero_le _, h.1, fun j hj => by
  obtain ⟨b, off, n, e, hlt, hc, hi⟩ := h.2 j hj
  exact ⟨b, off, n, e, by omega, (hb.cell hlt).trans hc, hi⟩⟩
theorem TapeAt.again {w W W' : World} {kt tlen tcap i : Nat} {tad : Option Addr} (ht : TapeAt W kt tad tlen tcap i) (h : NumsIn w tad tlen) (hb : Below w.heap.size w W') (hw : w.heap.size ≤ kt) (hk : W'.heap[kt]? = W.heap[kt]?) : TapeAt W' kt tad tlen tcap i :=
 ⟨hk.trans ht.blk, ht.le, ht.big, fun j hj => by
  obtain ⟨b, off, n, e, hlt, hc, hi⟩ := h.2 j hj
  exact ⟨b, off, n, e, by omega, (hb.cell hlt).trans hc, hi⟩⟩
theorem Kept.row0 {w w1 : World} {F : Nat → Prop} {α : Type} {K : Kind α} {ad : Option Addr} {len cap : Nat} {l : List α} (hk : Kept w w1 F) (hr : RowAt K w ad len cap l) (ha : 0 < len → ∀ a, ad = some a → ¬ F a.block) : RowAt K w1 ad len cap l := by
 by_cases h0 : len = 0
 · exact ⟨hr.length, hr.fits, hr.room, .inl h0⟩
 exact hk.row hr (ha (by omega))
theorem RecsAt.kept0 {W W' : World} {G : Nat → Prop} {ad : Option Addr} {len cap : Nat} {l : List Rc} (h : RecsAt W ad len cap l) (hk : Kept W W' G) (h1 : 0 < len → ∀ a, ad = some a → ¬ G a.block) : RecsAt W' ad len cap l := recsAt_row.2 (hk.row0 (recsAt_row.1 h) h1)
theorem RecsAt.bound {W : World} {ad : Option Addr} {len cap : Nat} {l : List Rc} (h : RecsAt W ad len cap l) (h0 : 0 < len) {a : Addr} (ha : ad = some a) : a.block < W.heap.size := by
 rcases (recsAt_row.1 h).cells with h1 | ⟨b, off, e, hlt, -⟩
 · omega
 rw [e] at ha; cases ha; exact hlt
def recX (rd : Option Addr) (rn : Nat) (k : Nat) : Prop := 0 < rn ∧ ∃ a, rd = some a ∧ k = a.block
end Go.Proofs.YtjmfdildnojknaaGreat
namespace Go.ProdMath
open Go.SeqMath
open Go.BatMath
open Go.SnapMath (row_states StOk)
open Go.Proofs.YtjmfdildnojknaaGreat (wf_right)
theorem dup_newLast {l : List Tr} {q : Int} {n : Nat} {e : Int} (h : dupL l q n = none) : dupL (newLast l ⟨q, lastI q n, e⟩) q n = some e := by
 have hn : l.find? (fun x => hitB x q n) = none := by
  unfold dupL at h
  cases hf : l.find? (fun x => hitB x q n) with
  | none => rfl
  | some x => rw [hf] at h; cases h
 have hd : (l.drop (l.length + 1 - 5)).find? (fun x => hitB x q n) = none := by
  rw [List.find?_eq_none] at hn ⊢
  exact fun x hx => hn x (List.mem_of_mem_drop hx)
 unfold newLast dupL
 rw [List.drop_append_of_le_length (by omega), List.find?_append, hd]
 simp [hitB]
theorem check_none {L : List Pd} (ha : Asc L) (hb : ∀ p ∈ L, ∀ y ∈ p.last, 0 ≤ y.b) {b : Bat} (hc : (tcheckD L b).2 = 0) (hn : (tcheckD L b).1 < 0) (hm : b.marker = 0) (hk : 0 ≤ b.prod) :
 dupL (oldLast ((lookD L b.prod).getD Pd.zero) (lookD L b.prod).isSome b) b.seq b.recs.length = none := by
 have hr := tcheck_right hc
 have hlk := has_look ha b.prod
 unfold tcheckD at hc hn
 rw [if_neg (by omega), if_neg (by omega), hlk.1, hlk.2] at hc hn
 cases hl : lookD L b.prod with
 | none => rfl
 | some p =>
   rw [hl] at hc hn
   have hp := (look_id hl).2
   show dupL (oldLast p true b) b.seq b.recs.length = none
   unfold oldLast
   by_cases he : p.epoch = b.epoch
   rotate_left
   · rw [if_neg (fun h => he h.2)]
     rfl
   rw [if_pos ⟨rfl, he⟩]
   have hc' : (checkD p true b).2 = 0 := hc
   have hn' : (checkD p true b).1 < 0 := hn
   unfold checkD at hc' hn'
   rw [if_neg (by omega), if_neg (by decide), if_neg (by omega), if_neg (by omega)] at hc' hn'
   cases hd : dupL p.last b.seq b.recs.length with
   | none => rfl
   | some n =>
     rw [hd] at hn'
     have h3 : n < 0 := hn'
     unfold dupL at hd
     cases hf : p.last.find? (fun x => hitB x b.seq b.recs.length) with
     | none => rw [hf] at hd; cases hd
     | some x =>
       rw [hf] at hd
       have e : x.b = n := by simpa using hd
       have := hb p hp x (List.mem_of_find?_eq_some hf)
       omega
theorem row_low {s : Int} {bs : List Bat} (h : RowD s bs) (h0 : 0 ≤ s) (h1 : s ≤ 1099511627776) : ∀ p ∈ foldP [] bs, ∀ y ∈ p.last, 0 ≤ y.b := fun p hp y hy => by
 obtain ⟨j, hj⟩ := List.mem_iff_getElem?.1 hy
 exact ((((row_states h h0 h1).2 p hp).1.right).2 j y hj).1.2.2.1
theorem put_D {c s : Int} {bs : List Bat} {b : Bat} (h : RowD s bs) (hb : b.base = endD s bs) (hp : b.prod ≤ 9223372036854775807) : RowD s (putD c s bs b).2 ∧ (putD c s bs b).2.length ≤ bs.length + 1 := by
 have h0 : RowD s bs ∧ bs.length ≤ bs.length + 1 := ⟨h, by omega⟩
 unfold putD
 split
 · exact h0
 rename_i h1
 split
 · exact h0
 rename_i h2
 split
 · exact h0
 split
 · exact h0
 rename_i h3 h4
 have hz : (tcheckD (foldP [] bs) b).2 = 0 := Classical.byContradiction fun h => h1 h
 exact ⟨RowD.snoc h hb (wf_right (tcheck_right hz) hp) hz (by omega) (by omega), by simp⟩
theorem produce_D {c s : Int} {bs : List Bat} {b : Bat} (h : RowD s bs) (hp : b.prod ≤ 9223372036854775807) : RowD s (produceD c s bs b).2 ∧ (produceD c s bs b).2.length ≤ bs.length + 1 := by
 have h0 : RowD s bs ∧ bs.length ≤ bs.length + 1 := ⟨h, by omega⟩
 unfold produceD
 split
 · exact h0
 split
 · exact h0
 exact put_D h rfl hp
theorem mark_D {c s : Int} {bs : List Bat} {p e m : Int} (h : RowD s bs) (hp : p ≤ 9223372036854775807) : RowD s (markD c s bs p e m).2 ∧ (markD c s bs p e m).2.length ≤ bs.length + 1 := by
 have h0 : RowD s bs ∧ bs.length ≤ bs.length + 1 := ⟨h, by omega⟩
 unfold markD
 split
 · exact h0
 exact put_D h rfl hp
theorem produce_again {c s : Int} {bs bs' : List Bat} {b : Bat} {n : Int} (h : RowD s bs) (h0 : 0 ≤ s) (h1 : s ≤ 1099511627776) (hk : 0 ≤ b.prod) (he : produceD c s bs b = ((n, 0), bs')) : produceD c s bs' b = ((n, 0), bs') := by
 have hb1 : b.at (endD s bs) = b.at (endD s bs) := rfl
 have hend := rowD_end h h0 h1
 have hpe := he
 unfold produceD at he
 split at he
 · rename_i h2
   have h3 := (Prod.mk.inj (Prod.mk.inj he).1).2
   omega
 rename_i hr
 have hr0 : rightE (b.at (endD s bs)) = 0 := Classical.byContradiction fun h => hr h
 split at he
 · have h3 := (Prod.mk.inj (Prod.mk.inj he).1).2
   omega
 rename_i hm
 have hm0 : b.marker = 0 := Classical.byContradiction fun h => hm h
 unfold putD at he
 split at he
 · rename_i h2
   have h3 := (Prod.mk.inj (Prod.mk.inj he).1).2
   exact absurd h3 h2
 rename_i hz
 have hz0 : (tcheckD (foldP [] bs) (b.at (endD s bs))).2 = 0 := Classical.byContradiction fun h => hz h
 split at he
 · have h3 := (Prod.mk.inj he).2
   rw [← h3]
   rw [← h3] at hpe
   exact hpe
 rename_i hlt
 split at he
 · have h3 := (Prod.mk.inj (Prod.mk.inj he).1).2
   omega
 split at he
 · have h3 := (Prod.mk.inj (Prod.mk.inj he).1).2
   omega
 rename_i hov
 obtain ⟨e1, e2⟩ := Prod.mk.inj he
 obtain ⟨e3, -⟩ := Prod.mk.inj e1
 have hnE : endD s bs = n := e3
 have hasc := (row_states h h0 h1).1
 have hnone := check_none hasc (row_low h h0 h1) hz0 (by omega) hm0 hk
 have hcnt := right_count hr0
 have hend2 : endD s bs' = endD s bs + countD (b.at (endD s bs)) := by rw [← e2, end_last (b := b.at (endD s bs)) (by simp)]; rfl
 have hr2 : rightE (b.at (endD s bs')) = 0 := by
  have : (b.at (endD s bs)).at (endD s bs') = b.at (endD s bs') := rfl
  rw [← this]
  exact right_at hr0 (by omega) (by omega)
 have ht : tcheckD (foldP [] bs') (b.at (endD s bs')) = (n, 0) := by
  rw [← e2, foldP_snoc, tapply_ins hasc _ hr0 hk]
  have ha2 := ins_asc (applyD ((lookD (foldP [] bs) (b.at (endD s bs)).prod).getD Pd.zero) (lookD (foldP [] bs) (b.at (endD s bs)).prod).isSome (b.at (endD s bs))) hasc
  have hlk := has_look ha2 b.prod
  have hid := apply_id ((lookD (foldP [] bs) (b.at (endD s bs)).prod).getD Pd.zero) (lookD (foldP [] bs) (b.at (endD s bs)).prod).isSome (b.at (endD s bs))
  rw [look_ins _ _ hasc, if_pos (by rw [hid]; rfl)] at hlk
  unfold tcheckD
  rw [e2, if_neg (by omega), if_neg (by show ¬ b.prod < 0; omega)]
  show checkD (getD _ b.prod) (hasD _ b.prod) _ = _
  rw [hlk.1, hlk.2]
  show checkD (applyD _ _ (b.at (endD s bs))) true (b.at (endD s bs')) = _
  unfold applyD
  rw [if_neg (by show ¬ b.marker ≠ 0; omega)]
  unfold checkD
  rw [if_neg (by show ¬ b.marker ≠ 0; omega), if_neg (by decide), if_neg (by show ¬ b.epoch < b.epoch; omega), if_neg (by show ¬ b.epoch < b.epoch; omega)]
  show (match dupL (newLast _ ⟨b.seq, lastI b.seq b.recs.length, endD s bs⟩) b.seq b.recs.length with
   | some n => (n, (0 : Int))
   | none => _) = _
  have hd2 : dupL (newLast (oldLast ((lookD (foldP [] bs) (b.at (endD s bs)).prod).getD Pd.zero) (lookD (foldP [] bs) (b.at (endD s bs)).prod).isSome (b.at (endD s bs))) ⟨b.seq, lastI b.seq b.recs.length, endD s bs⟩) b.seq b.recs.length = some (endD s bs) := dup_newLast hnone
  rw [hd2]
  show (endD s bs, (0 : Int)) = _
  rw [hnE]
 unfold produceD
 rw [if_neg (by omega), if_neg (by omega)]
 unfold putD
 rw [ht, if_neg (by show ¬ ((0 : Int) ≠ 0); decide), if_pos (by show 0 ≤ n; omega)]
structure Kn (bs : List Bat) (p : Pd) : Prop where
 pw : p.last.Pairwise fun x y => ¬ (x.f = y.f ∧ x.l = y.l)
 of : ∀ x ∈ p.last, ∃ b ∈ bs, b.base = x.b ∧ b.prod = p.id ∧ b.epoch = p.epoch ∧ b.marker = 0 ∧ x.f = b.seq ∧ x.l = lastI b.seq b.recs.length
theorem Kn.more {bs : List Bat} {p : Pd} (h : Kn bs p) (c : Bat) : Kn (bs ++ [c]) p := ⟨h.pw, fun x hx => by
 obtain ⟨b, hb, h2⟩ := h.of x hx
 exact ⟨b, List.mem_append.2 (.inl hb), h2⟩⟩
theorem row_kn {s : Int} {bs : List Bat} (h : RowD s bs) (h0 : 0 ≤ s) (h1 : s ≤ 1099511627776) : ∀ p ∈ foldP [] bs, Kn bs p := by
 induction h with
 | nil => intro p hp; cases hp
 | @snoc l b hl hb hw hc hn he ih =>
   intro p hp
   have hasc := (row_states hl h0 h1).1
   have hr := tcheck_right hc
   rw [foldP_snoc] at hp
   by_cases hk : b.prod < 0
   · rw [tapply_no (.inr hk)] at hp
     exact (ih p hp).more b
   rw [tapply_ins hasc b hr (by omega)] at hp
   rcases ins_ids _ _ _ hp with rfl | hp
   rotate_left
   · exact (ih p hp).more b
   have hold : ∀ x ∈ oldLast ((lookD (foldP [] l) b.prod).getD Pd.zero) (lookD (foldP [] l) b.prod).isSome b, ∃ c ∈ l ++ [b], c.base = x.b ∧ c.prod = b.prod ∧ c.epoch = b.epoch ∧ c.marker = 0 ∧ x.f = c.seq ∧ x.l = lastI c.seq c.recs.length := by
    cases hlk : lookD (foldP [] l) b.prod with
    | none => intro x hx; cases hx
    | some q =>
      intro x hx
      have hx2 : x ∈ oldLast q true b := hx
      unfold oldLast at hx2
      split at hx2
      · rename_i h2
        obtain ⟨c, hc1, c1, c2, c3, c4, c5, c6⟩ := ((ih q (look_id hlk).2).more b).of x hx2
        exact ⟨c, hc1, c1, by rw [c2, (look_id hlk).1], by rw [c3, h2.2], c4, c5, c6⟩
      cases hx2
   have hpw : (oldLast ((lookD (foldP [] l) b.prod).getD Pd.zero) (lookD (foldP [] l) b.prod).isSome b).Pairwise fun x y => ¬ (x.f = y.f ∧ x.l = y.l) := by
    cases hlk : lookD (foldP [] l) b.prod with
    | none => exact List.Pairwise.nil
    | some q =>
      show (oldLast q true b).Pairwise _
      unfold oldLast
      split
      · exact (ih q (look_id hlk).2).pw
      exact List.Pairwise.nil
   unfold applyD
   split
   · exact ⟨hpw, hold⟩
   rename_i hm
   have hm0 : b.marker = 0 := Classical.byContradiction fun h => hm h
   have hnone := check_none hasc (row_low hl h0 h1) hc hn hm0 (by omega)
   refine ⟨?_, fun x hx => ?_⟩
   · show (newLast _ _).Pairwise _
     unfold newLast
     refine List.Pairwise.sublist (List.drop_sublist _ _) (List.pairwise_append.2 ⟨hpw, List.pairwise_singleton _ _, fun y hy z hz => ?_⟩)
     rw [List.mem_singleton.1 hz]
     rintro ⟨g1, g2⟩
     unfold dupL at hnone
     have hf : (oldLast ((lookD (foldP [] l) b.prod).getD Pd.zero) (lookD (foldP [] l) b.prod).isSome b).find? (fun x => hitB x b.seq b.recs.length) = none := by
      cases hf : (oldLast ((lookD (foldP [] l) b.prod).getD Pd.zero) (lookD (foldP [] l) b.prod).isSome b).find? (fun x => hitB x b.seq b.recs.length) with
      | none => rfl
      | some x => rw [hf] at hnone; cases hnone
     have := List.find?_eq_none.1 hf y hy
     apply this
     unfold hitB
     rw [decide_eq_true g1, decide_eq_true g2]
     rfl
   have hx2 : x ∈ newLast (oldLast ((lookD (foldP [] l) b.prod).getD Pd.zero) (lookD (foldP [] l) b.prod).isSome b) ⟨b.seq, lastI b.seq b.recs.length, b.base⟩ := hx
   unfold newLast at hx2
   rcases List.mem_append.1 (List.mem_of_mem_drop hx2) with h2 | h2
   · exact hold x h2
   rw [List.mem_singleton.1 h2]
   exact ⟨b, by simp, rfl, rfl, rfl, hm0, rfl, rfl⟩
theorem pw_same {l : List Tr} (h : l.Pairwise fun x y => ¬ (x.f = y.f ∧ x.l = y.l)) {x y : Tr} (hx : x ∈ l) (hy : y ∈ l) (h1 : x.f = y.f) (h2 : x.l = y.l) : x = y := by
 obtain ⟨i, hi⟩ := List.mem_iff_getElem?.1 hx
 obtain ⟨j, hj⟩ := List.mem_iff_getElem?.1 hy
 obtain ⟨a1, rfl⟩ := List.getElem?_eq_some_iff.1 hi
 obtain ⟨a2, rfl⟩ := List.getElem?_eq_some_iff.1 hj
 rcases Nat.lt_trichotomy i j with h3 | h3 | h3
 · exact absurd ⟨h1, h2⟩ (List.pairwise_iff_getElem.1 h i j a1 a2 h3)
 · subst h3; rfl
 exact absurd ⟨h1.symm, h2.symm⟩ (List.pairwise_iff_getElem.1 h j i a2 a1 h3)
theorem produce_known {c s : Int} {bs : List Bat} (h : RowD s bs) (h0 : 0 ≤ s) (h1 : s ≤ 1099511627776) {p : Pd} (hp : p ∈ foldP [] bs) {x : Tr} (hx : x ∈ p.last) {b : Bat} (hb : b ∈ bs) (he : b.base = x.b) : produceD c s bs b = ((x.b, 0), bs) := by
 have hkn := row_kn h h0 h1 p hp
 obtain ⟨b', hb', g1, g2, g3, g4, g5, g6⟩ := hkn.of x hx
 have hbb : b' = b := by
  have hpw := (row_bases h h0).1
  obtain ⟨i, hi⟩ := List.mem_iff_getElem?.1 hb'
  obtain ⟨j, hj⟩ := List.mem_iff_getElem?.1 hb
  obtain ⟨a1, rfl⟩ := List.getElem?_eq_some_iff.1 hi
  obtain ⟨a2, rfl⟩ := List.getElem?_eq_some_iff.1 hj
  rcases Nat.lt_trichotomy i j with h3 | h3 | h3
  · have := List.pairwise_iff_getElem.1 hpw i j a1 a2 h3; omega
  · subst h3; rfl
  have := List.pairwise_iff_getElem.1 hpw j i a2 a1 h3; omega
 subst hbb
 have hend := rowD_end h h0 h1
 have hst := ((row_states h h0 h1).2 p hp).1.right
 have hasc := (row_states h h0 h1).1
 have hr := (rowD_ok h b' hb').1
 have hr2 : rightE (b'.at (endD s bs)) = 0 := right_at hr hend.1 hend.2
 have hx0 := row_low h h0 h1 p hp x hx
 have hlk := has_look hasc b'.prod
 rw [g2, look_mem hasc hp] at hlk
 have hdup : dupL p.last b'.seq b'.recs.length = some x.b := by
  unfold dupL
  have hhit : hitB x b'.seq b'.recs.length = true := by unfold hitB; rw [decide_eq_true g5, decide_eq_true g6]; rfl
  cases hf : p.last.find? (fun x => hitB x b'.seq b'.recs.length) with
  | none => exact absurd hhit (List.find?_eq_none.1 hf x hx)
  | some y =>
    have hy := List.mem_of_find?_eq_some hf
    have hyh : hitB y b'.seq b'.recs.length = true := List.find?_some (p := fun x => hitB x b'.seq b'.recs.length) hf
    unfold hitB at hyh
    rw [Bool.and_eq_true] at hyh
    have e1 := of_decide_eq_true hyh.1
    have e2 := of_decide_eq_true hyh.2
    rw [pw_same hkn.pw hx hy (by omega) (by omega)]
    rfl
 have ht : tcheckD (foldP [] bs) (b'.at (endD s bs)) = (x.b, 0) := by
  unfold tcheckD
  rw [if_neg (by omega), if_neg (by show ¬ b'.prod < 0; have := hst.1.1; omega)]
  show checkD (getD (foldP [] bs) b'.prod) (hasD (foldP [] bs) b'.prod) (b'.at (endD s bs)) = _
  rw [g2, hlk.1, hlk.2]
  show checkD p true (b'.at (endD s bs)) = _
  unfold checkD
  rw [if_neg (by show ¬ b'.marker ≠ 0; omega), if_neg (by decide), if_neg (by show ¬ b'.epoch < p.epoch; omega), if_neg (by show ¬ p.epoch < b'.epoch; omega)]
  show (match dupL p.last b'.seq b'.recs.length with
   | some n => (n, (0 : Int))
   | none => _) = _
  rw [hdup]
 unfold produceD
 rw [if_neg (by omega), if_neg (by omega)]
 unfold putD
 rw [ht, if_neg (by show ¬ ((0 : Int) ≠ 0); decide), if_pos hx0]
end Go.ProdMath
namespace Go.Proofs.YtjmfdildnojknaaGreat
open Go.FoMath
open Go.ProdMath
open Go.BatMath hiding AllB getD_lt take_all In64
def kR : Rc := ⟨⟨#[107]⟩, ⟨#[]⟩⟩
def kB1 : Bat := ⟨0, 1, 0, 5, false, 0, [kR]⟩
def kBig (z : ByteArray) : Bat := ⟨0, 1, 0, 6, false, 0, List.replicate 16 ⟨⟨#[]⟩, z⟩⟩
def kP1 : Pd := ⟨1, 0, [⟨5, 5, 0⟩], -1⟩
theorem k_short : ¬ longRec kR := by unfold longRec kR; decide
theorem k_right1 : rightE kB1 = 0 := by
 unfold rightE
 rw [if_neg (by decide), if_neg (by decide), if_pos ⟨.inr (by decide), by unfold kB1; simp⟩, if_neg ?_]
 rintro (h | ⟨r, h1, h2⟩)
 · revert h; decide
 rw [List.mem_singleton.1 h1] at h2
 exact k_short h2
theorem k_right1a : rightE (kB1.at 1) = 0 := right_at k_right1 (by decide) (by decide)
theorem k_big_short {z : ByteArray} (hz : z.size = 60) : ¬ longRec ⟨⟨#[]⟩, z⟩ := by
 unfold longRec
 simp only [hz]
 decide
theorem k_rightBig {z : ByteArray} (hz : z.size = 60) : rightE ((kBig z).at 1) = 0 := by
 have hl : (kBig z).recs.length = 16 := List.length_replicate
 have h1 : noneB ((kBig z).at 1) = true ∨ headB ((kBig z).at 1) = true ∧ SeqMath.rightB ((kBig z).at 1).seq = true := .inr ⟨rfl, rfl⟩
 have h2 : ((kBig z).at 1).recs ≠ [] := by
  intro h
  have h2 : (kBig z).recs = [] := h
  rw [h2] at hl
  cases hl
 unfold rightE
 rw [if_neg (by show ¬ ((1 : Int) < 0 ∨ 1099511627776 < (1 : Int)); decide), if_neg (by show ¬ ((0 : Int) ≠ 0); decide), if_pos ⟨h1, h2⟩, if_neg ?_]
 rintro (h | ⟨r, h1, h2⟩)
 · have h3 : 16 < (kBig z).recs.length := h
   omega
 rw [List.eq_of_mem_replicate h1] at h2
 exact k_big_short hz h2
theorem k_fold : foldP [] [kB1] = [kP1] := by
 show tapplyD [] kB1 = _
 rw [tapply_ins asc_nil kB1 k_right1 (by decide)]
 rfl
theorem k_size1 : sizeB kB1 ≤ 184 ∧ 36 ≤ sizeB kB1 := by
 unfold sizeB
 rw [if_pos k_right1, bytes_len]
 have h : (recsB kB1.recs).length ≤ 148 * 1 := (recs_len (l := [kR]) (by
  intro r hr
  rw [List.mem_singleton.1 hr]
  decide)).2
 omega
theorem k_prod1 : produceD 200 0 [] kB1 = ((0, 0), [kB1]) := by
 have e : kB1.at (endD 0 []) = kB1 := rfl
 have hs := k_size1
 unfold produceD
 rw [e, k_right1, if_neg (by decide), if_neg (by decide)]
 unfold putD
 have ht : tcheckD (foldP [] []) kB1 = (-1, 0) := by unfold tcheckD; rw [k_right1, if_neg (by decide), if_neg (by decide)]; rfl
 rw [ht, if_neg (by decide), if_neg (by decide), if_neg (by show ¬ 200 < 0 + sizeB kB1; omega), if_neg (by decide)]
 rfl
theorem k_prod2 : produceD 200 0 [kB1] kB1 = ((0, 0), [kB1]) := by
 have e : kB1.at (endD 0 [kB1]) = kB1.at 1 := rfl
 unfold produceD
 rw [e, k_right1a, if_neg (by decide), if_neg (by decide)]
 unfold putD
 have ht : tcheckD (foldP [] [kB1]) (kB1.at 1) = (0, 0) := by rw [k_fold]; unfold tcheckD; rw [k_right1a, if_neg (by decide), if_neg (by decide)]; rfl
 rw [ht, if_neg (by decide), if_pos (by decide)]
theorem k_mark : markD 200 0 [kB1] 1 0 1 = ((-1, 16), [kB1]) := by
 have hr : rightE ⟨endD 0 [kB1], 1, 0, -1, true, 1, []⟩ = 0 := by
  unfold rightE
  rw [if_neg (by decide), if_pos (by decide), if_pos ⟨.inl rfl, by decide, rfl, rfl, rfl⟩]
 unfold markD
 rw [if_neg (by decide)]
 unfold putD
 have ht : tcheckD (foldP [] [kB1]) ⟨endD 0 [kB1], 1, 0, -1, true, 1, []⟩ = (-1, 16) := by rw [k_fold]; unfold tcheckD; rw [hr, if_neg (by decide), if_neg (by decide)]; rfl
 rw [ht, if_pos (by decide)]
theorem k_raw : rawD 200 0 [kB1] [] = ((-1, 12), [kB1]) := by
 have h : readD [] = ⟨Bat.zero, 0, 12⟩ := by unfold readD; rw [if_pos (by decide)]
 unfold rawD
 rw [h, if_pos (by decide)]
theorem k_big {z : ByteArray} (hz : z.size = 60) : produceD 200 0 [kB1] (kBig z) = ((-1, 17), [kB1]) := by
 have e : (kBig z).at (endD 0 [kB1]) = (kBig z).at 1 := rfl
 have hr := k_rightBig hz
 have hs : 976 ≤ sizeB ((kBig z).at 1) := by
  unfold sizeB
  rw [if_pos hr, bytes_len]
  have h1 : ∀ n, 61 * n ≤ (recsB (List.replicate n (⟨⟨#[]⟩, z⟩ : Rc))).length := fun n => by
   induction n with
   | zero => exact Nat.zero_le _
   | succ n ih =>
     rw [List.replicate_succ, recsB_cons, List.length_append]
     have h2 : 61 ≤ (recB (⟨⟨#[]⟩, z⟩ : Rc)).length := by
      have hb : (bl z).length = 60 := by rw [bl_len]; exact hz
      have := (BatMath.text_len (s := bl z) (by omega)).1
      unfold recB
      rw [List.length_append]
      show 61 ≤ (VarMath.textB (bl ⟨#[]⟩)).length + (VarMath.textB (bl z)).length
      omega
     omega
  have h2 := h1 16
  have h3 : ((kBig z).at 1).recs = List.replicate 16 ⟨⟨#[]⟩, z⟩ := rfl
  rw [h3]
  omega
 unfold produceD
 rw [e, hr, if_neg (by decide), if_neg (by show ¬ ((0 : Int) ≠ 0); decide)]
 unfold putD
 have ht : tcheckD (foldP [] [kB1]) ((kBig z).at 1) = (-1, 0) := by
  rw [k_fold]
  unfold tcheckD
  rw [hr, if_neg (by decide), if_neg (by show ¬ ((1 : Int) < 0); decide)]
  have h1 : dupL [⟨5, 5, 0⟩] 6 ((kBig z).at 1).recs.length = none := dup_miss rfl
  show (match dupL [⟨5, 5, 0⟩] 6 ((kBig z).at 1).recs.length with
   | some n => (n, (0 : Int))
   | none => if [(⟨5, 5, 0⟩ : Tr)] ≠ [] ∧ SeqMath.followsB (lastSeq [⟨5, 5, 0⟩]) 6 = false then (-1, 15) else if (0 : Int) ≤ -1 ∧ false = false then (-1, 16) else (-1, 0)) = _
  rw [h1]
  decide
 rw [ht, if_neg (by decide), if_neg (by decide), if_pos]
 have := size_bd kB1
 show 200 < sizeB kB1 + 0 + sizeB ((kBig z).at 1)
 omega
theorem k_end : endD 0 [kB1] = 1 := rfl
theorem k_open : firstOpen [kB1] = -1 := by decide
theorem k_keep0 : keepD 0 (-1) [kB1] = (0, [kB1]) := by
 have h : keepN 0 (-1) [kB1] = 0 := by
  unfold keepN
  show (if baseD 0 [kB1] 1 ≤ min (-1) (stableD 0 [kB1]) then 1 else 0) = 0
  rw [if_neg]
  show ¬ ((1 : Int) ≤ min (-1) (stableD 0 [kB1]))
  omega
 unfold keepD
 rw [h, if_neg (by decide)]
theorem k_keep9 : keepD 0 9 [kB1] = (1, []) := by
 have hst : stableD 0 [kB1] = 1 := by unfold stableD; rw [k_open]; rfl
 have h : keepN 0 9 [kB1] = 1 := by
  unfold keepN
  rw [hst]
  show (if baseD 0 [kB1] 1 ≤ min 9 1 then 1 else 0) = 1
  rw [if_pos (by decide)]
 unfold keepD
 rw [h, if_pos (by decide)]
 rfl
theorem k_row1 : RowW 0 [kB1] := by
 have h1 : RowW 0 ([] ++ [kB1]) := RowW.snoc RowW.nil rfl ⟨⟨by decide, by decide⟩, ⟨by decide, by decide⟩, ⟨by decide, by decide⟩, ⟨by decide, by decide⟩, ⟨by decide, by decide⟩⟩ k_right1 (by decide)
 exact h1
end Go.Proofs.YtjmfdildnojknaaGreat
namespace Go.Proofs.YtjmfdildnojknaaGreat
open Go.RowKit
open Go.FoMath
open Go.ProdMath
open Go.BatMath hiding AllB getD_lt take_all In64
def kReps (z : ByteArray) (i : Nat) : List Rc := List.replicate i ⟨⟨#[]⟩, z⟩ ++ List.replicate (16 - i) ⟨⟨#[]⟩, ⟨#[]⟩⟩
theorem kReps_all (z : ByteArray) : kReps z 16 = List.replicate 16 ⟨⟨#[]⟩, z⟩ := by unfold kReps; simp
def KRep (w : World) (g : Nat) (z : ByteArray) (i : Nat) : Prop := w.heap[g]? = some (.cells (recK.all (kReps z i)).toArray 84 (0, 0))
theorem k_make : ∀ W, (Instr.makeSlice 27 (.int .i64 16) (.int .i64 16)).run Tryz.prog W = .ok (.slice (some ⟨W.heap.size, 0, none⟩) 16 16) (W.alloc (.cells (recK.all (kReps ⟨#[]⟩ 0)).toArray 84)) := by
 obtain ⟨i, hi, hz, hs, hb⟩ := info_parts infoRec
 intro W
 have hr := run_make (P := Tryz.prog) W 27 84 i _ Tryz.underlying27 hi hz .i64 .i64 16 16 (by omega) (by omega) (by rw [hb]; omega) (by omega)
 rw [hs] at hr
 have e : madeCells (Value.agg #[Value.string ⟨#[]⟩, Value.string ⟨#[]⟩]).cells (Int.toNat 16 * 2) = (recK.all (kReps ⟨#[]⟩ 0)).toArray := by kernel_rfl
 rw [e] at hr
 exact hr
theorem kRep_set {w : World} {g i : Nat} {z : ByteArray} (h : KRep w g z i) (hi : i < 16) : KRep (w.setCell ⟨g, i * 2 + 1, none⟩ (.string z)) g z (i + 1) := by
 have h1 := box_set h (i * 2 + 1) (.string z)
 unfold KRep
 rw [h1]
 congr 2
 have hc : i = 0 ∨ i = 1 ∨ i = 2 ∨ i = 3 ∨ i = 4 ∨ i = 5 ∨ i = 6 ∨ i = 7 ∨ i = 8 ∨ i = 9 ∨ i = 10 ∨ i = 11 ∨ i = 12 ∨ i = 13 ∨ i = 14 ∨ i = 15 := by omega
 rcases hc with rfl | rfl | rfl | rfl | rfl | rfl | rfl | rfl | rfl | rfl | rfl | rfl | rfl | rfl | rfl | rfl <;> rfl
theorem kRep_cell {w : World} {g i : Nat} {z : ByteArray} (h : KRep w g z i) (hi : i < 16) : w.cell? ⟨g, i * 2 + 1, none⟩ = some (.string ⟨#[]⟩) := by
 unfold KRep at h
 rw [cell_of_row _ _ _ _ _ _ h, List.getElem?_toArray]
 have hc : i = 0 ∨ i = 1 ∨ i = 2 ∨ i = 3 ∨ i = 4 ∨ i = 5 ∨ i = 6 ∨ i = 7 ∨ i = 8 ∨ i = 9 ∨ i = 10 ∨ i = 11 ∨ i = 12 ∨ i = 13 ∨ i = 14 ∨ i = 15 := by omega
 rcases hc with rfl | rfl | rfl | rfl | rfl | rfl | rfl | rfl | rfl | rfl | rfl | rfl | rfl | rfl | rfl | rfl <;> rfl
theorem KRep.recs {w : World} {g : Nat} {z : ByteArray} (h : KRep w g z 16) : RecsAt w (some ⟨g, 0, none⟩) 16 16 (List.replicate 16 ⟨⟨#[]⟩, z⟩) := by
 unfold KRep at h
 rw [kReps_all] at h
 refine recsAt_row.2 ⟨by rw [List.length_replicate], Nat.le_refl _, (fun e => by cases e), .inr ⟨g, 0, rfl, lt_of_block h, fun i x hi j u hj => ?_⟩⟩
 rw [cell_of_row _ _ _ _ _ _ h, Nat.zero_add, List.getElem?_toArray]
 have hjs : j < recK.size := by have := (List.getElem?_eq_some_iff.1 hj).1; rwa [recK_ok.len] at this
 have h1 := recK_ok.all_at _ i x hi j hjs
 rw [hj] at h1
 exact h1
theorem kConv_zero {u : World} {gz : Nat} {L : List Nat} {sk : ByteArray} (h : Own u gz L) (hL : L = List.replicate 60 0) (hs : sk = str L) : (convert 30 9 (.slice (some ⟨gz, 0, none⟩) 60 60)).run Tryz.prog u = .ok (.string sk) u := by
 have hb := h.byt (fun x hx => by rw [hL] at hx; have := (List.mem_replicate.1 hx).2; omega) 60 (by rw [hL]; simp)
 rw [show L.length = 60 by rw [hL, List.length_replicate]] at hb
 exact run_str_at hb hs
theorem mdKnown_any {R : LogP} (C : MdCode R) (w : World) :
 Calls Tryz.prog 11 #[] w (GivesBool w true) := by
 have HC := qh C
 clear C
 go_enter Tryz.func11, Tryz.ntmps11
 go_wp2_with fail
 refine (HC.out.new w 0 0 0 200 (by decide) (by decide)).mono ?_
 rintro e w1 hp
 obtain ⟨a, rfl, hl, hb⟩ := LogAt.made (B := w.heap.size) (X := fun _ => False) HC.out hp ⟨RowW.nil, by decide, by decide, Nat.zero_le _⟩ (Nat.le_refl _) (fun k h => h.elim)
 have HB1 := qh hb
 have HL1 := qh hl
 clear hp hl hb
 go_upto_region 5 with fail
 obtain ⟨W2, hW2⟩ := exq (w1.alloc (.cells #[.string ⟨#[107]⟩, .string ⟨#[]⟩] 84))
 obtain ⟨g, hg⟩ := exq w1.heap.size
 have hbb := wbq hW2
 have HG2 : Hid (W2.heap[g]? = some (.cells #[.string ⟨#[107]⟩, .string ⟨#[]⟩] 84 (0, 0))) := by show _ = _; rw [hW2, hg]; exact heap_alloc_new w1 _
 obtain ⟨W3, hW3⟩ := exq (W2.alloc (.cells #[.int .i64 0, .int .i64 1, .int .i64 0, .int .i64 5, .bool false, .int .i64 0, .slice (some ⟨g, 0, none⟩) 1 1] 29))
 obtain ⟨P, hP⟩ := exq W2.heap.size
 have hbc := wbq hW3
 have HBX := bxq hW3 hP
 have HRC : Hid (RecsAt W3 (some ⟨g, 0, none⟩) 1 1 [kR]) := by
  have h1 : RecsAt W2 (some ⟨g, 0, none⟩) 1 1 [kR] := by
   rw [hW2, hg]
   exact recsAt_row.2 (rowAt_lit recK_ok w1 [kR] (by decide) _ rfl 1 rfl)
  exact h1.keep hbc
 have HBE : Hid (Below w.heap.size w W3) := (HB1.out.trans (hbb.mono HB1.out.size)).trans (hbc.mono (HB1.out.trans (hbb.mono HB1.out.size)).size)
 have HGP : Hid (g < W3.heap.size ∧ P < W3.heap.size ∧ w.heap.size ≤ g ∧ w.heap.size ≤ P ∧ g ≠ P) := by
  have h1 := lt_of_block HG2.out
  have h2 := HBX.out.lt
  have h3 := hbc.size
  have h4 := HB1.out.size
  have h5 := hbb.size
  show _ ∧ _
  refine ⟨by omega, by omega, by omega, by omega, by omega⟩
 have HL3 : Hid (LogAt R w.heap.size (fun k => k = g ∨ k = P) W3 a 200 0 []) := (((HL1.out.more HC.out (X' := fun k => k = g ∨ k = P) (fun k hk => .inr (by
  have h5 := hbb.size
  rcases hk with rfl | rfl
  · omega
  omega))).on HC.out hbb).on HC.out hbc)
 have hPg : P = g + 1 := by rw [hP, hW2, hg]; simp
 (try rw [← hW2])
 (try rw [← hg])
 (try rw [← hPg])
 (try rw [← hW3])
 clear hPg hW2 hg hbb HG2 hW3 hP hbc HB1 HL1
 obtain ⟨p0, p1, p2, p3, p4, p5, p6⟩ := HBX.out.cs
 go_wp2_with fail
 clear p0 p1 p2 p3 p4 p5 p6
 obtain ⟨F, hF, hFB, hFX⟩ := HL3.out.is
 refine (HC.out.produce F W3 a 200 0 [] ⟨0, 1, 0, 5, false, 0, [kR]⟩ (some ⟨g, 0, none⟩) 1 hF HL3.out.row HRC.out (by intro r hr; rw [List.mem_singleton.1 hr]; decide) (by decide) (by decide)).mono ?_
 rintro e W4 hp
 rw [show produceD 200 0 [] ⟨0, 1, 0, 5, false, 0, [kR]⟩ = ((0, 0), [kB1]) from k_prod1] at hp
 obtain ⟨rfl, hl, hk⟩ := LogAt.turn (B := w.heap.size) (X := (fun k => k = g ∨ k = P)) hp ⟨k_row1, by decide, by decide, by decide⟩ hFB hFX (by have := HGP.out; omega) (by have := HGP.out; intro k hk; rcases hk with rfl | rfl <;> omega)
 have HL4 := qh hl
 replace HBX : Hid (BoxAt W4 P 0 1 0 5 false 0 (.slice (some ⟨g, 0, none⟩) 1 1)) := hk.box HBX.out (fun h => h.2 (.inr rfl))
 replace HRC : Hid (RecsAt W4 (some ⟨g, 0, none⟩) 1 1 [kR]) := RecsAt.kept hk HRC.out (fun a ha h => h.2 (.inl (by cases ha; rfl)))
 replace HBE : Hid (Below w.heap.size w W4) := HBE.out.trans (hk.below (fun k h => h.1) HBE.out.size)
 replace HGP : Hid (g < W4.heap.size ∧ P < W4.heap.size ∧ w.heap.size ≤ g ∧ w.heap.size ≤ P ∧ g ≠ P) := by have h1 := HGP.out; have h2 := hk.size; show _ ∧ _; exact ⟨by omega, by omega, by omega, by omega, by omega⟩
 clear hF hFB hFX hp hl hk HL3
 obtain ⟨p0, p1, p2, p3, p4, p5, p6⟩ := HBX.out.cs
 go_wp2_with fail
 clear p0 p1 p2 p3 p4 p5 p6
 obtain ⟨F, hF, hFB, hFX⟩ := HL4.out.is
 refine (HC.out.produce F W4 a 200 0 [kB1] ⟨0, 1, 0, 5, false, 0, [kR]⟩ (some ⟨g, 0, none⟩) 1 hF HL4.out.row HRC.out (by intro r hr; rw [List.mem_singleton.1 hr]; decide) (by decide) (by decide)).mono ?_
 rintro e W5 hp
 rw [show produceD 200 0 [kB1] ⟨0, 1, 0, 5, false, 0, [kR]⟩ = ((0, 0), [kB1]) from k_prod2] at hp
 obtain ⟨rfl, hl, hk⟩ := LogAt.turn (B := w.heap.size) (X := (fun k => k = g ∨ k = P)) hp ⟨k_row1, by decide, by decide, by decide⟩ hFB hFX (by have := HGP.out; omega) (by have := HGP.out; intro k hk; rcases hk with rfl | rfl <;> omega)
 have HL5 := qh hl
 replace HBX : Hid (BoxAt W5 P 0 1 0 5 false 0 (.slice (some ⟨g, 0, none⟩) 1 1)) := hk.box HBX.out (fun h => h.2 (.inr rfl))
 replace HRC : Hid (RecsAt W5 (some ⟨g, 0, none⟩) 1 1 [kR]) := RecsAt.kept hk HRC.out (fun a ha h => h.2 (.inl (by cases ha; rfl)))
 replace HBE : Hid (Below w.heap.size w W5) := HBE.out.trans (hk.below (fun k h => h.1) HBE.out.size)
 replace HGP : Hid (g < W5.heap.size ∧ P < W5.heap.size ∧ w.heap.size ≤ g ∧ w.heap.size ≤ P ∧ g ≠ P) := by have h1 := HGP.out; have h2 := hk.size; show _ ∧ _; exact ⟨by omega, by omega, by omega, by omega, by omega⟩
 clear hF hFB hFX hp hl hk HL4
 go_wp2_with fail
 obtain ⟨F, hF, hFB, hFX⟩ := HL5.out.is
 refine (HC.out.mark F W5 a 200 0 [kB1] 1 0 1 hF HL5.out.row (by decide)).mono ?_
 rintro e W6 hp
 rw [k_mark] at hp
 obtain ⟨rfl, hl, hk⟩ := LogAt.turn (B := w.heap.size) (X := (fun k => k = g ∨ k = P)) hp ⟨k_row1, by decide, by decide, by decide⟩ hFB hFX (by have := HGP.out; omega) (by have := HGP.out; intro k hk; rcases hk with rfl | rfl <;> omega)
 have HL6 := qh hl
 replace HBX : Hid (BoxAt W6 P 0 1 0 5 false 0 (.slice (some ⟨g, 0, none⟩) 1 1)) := hk.box HBX.out (fun h => h.2 (.inr rfl))
 replace HRC : Hid (RecsAt W6 (some ⟨g, 0, none⟩) 1 1 [kR]) := RecsAt.kept hk HRC.out (fun a ha h => h.2 (.inl (by cases ha; rfl)))
 replace HBE : Hid (Below w.heap.size w W6) := HBE.out.trans (hk.below (fun k h => h.1) HBE.out.size)
 replace HGP : Hid (g < W6.heap.size ∧ P < W6.heap.size ∧ w.heap.size ≤ g ∧ w.heap.size ≤ P ∧ g ≠ P) := by have h1 := HGP.out; have h2 := hk.size; show _ ∧ _; exact ⟨by omega, by omega, by omega, by omega, by omega⟩
 clear hF hFB hFX hp hl hk HL5
 go_wp2_with fail
 obtain ⟨F, hF, hFB, hFX⟩ := HL6.out.is
 refine (HC.out.raw F W6 a 200 0 [kB1] none 0 0 [] hF HL6.out.row (Byt.nil _) (by decide)).mono ?_
 rintro e W7 hp
 rw [k_raw] at hp
 obtain ⟨rfl, hl, hk⟩ := LogAt.turn (B := w.heap.size) (X := (fun k => k = g ∨ k = P)) hp ⟨k_row1, by decide, by decide, by decide⟩ hFB hFX (by have := HGP.out; omega) (by have := HGP.out; intro k hk; rcases hk with rfl | rfl <;> omega)
 have HL7 := qh hl
 replace HBX : Hid (BoxAt W7 P 0 1 0 5 false 0 (.slice (some ⟨g, 0, none⟩) 1 1)) := hk.box HBX.out (fun h => h.2 (.inr rfl))
 replace HRC : Hid (RecsAt W7 (some ⟨g, 0, none⟩) 1 1 [kR]) := RecsAt.kept hk HRC.out (fun a ha h => h.2 (.inl (by cases ha; rfl)))
 replace HBE : Hid (Below w.heap.size w W7) := HBE.out.trans (hk.below (fun k h => h.1) HBE.out.size)
 replace HGP : Hid (g < W7.heap.size ∧ P < W7.heap.size ∧ w.heap.size ≤ g ∧ w.heap.size ≤ P ∧ g ≠ P) := by have h1 := HGP.out; have h2 := hk.size; show _ ∧ _; exact ⟨by omega, by omega, by omega, by omega, by omega⟩
 clear hF hFB hFX hp hl hk HL6
 go_upto_region 9 with fail
 have hdr : Below W7.heap.size W7 W7.drew := (Below.refl _ W7).drew
 refine wp_region_noPanic ?_
 refine wp_region_z [] (fun (V : World) => True) (by kernel_rfl) ?_
 have hHeld : (fun (V : World) => True) W7.drew := trivial
 obtain ⟨u0, hu0⟩ := exq W7.drew
 rw [← hu0] at hHeld hdr
 rw [← hu0]
 clear hu0
 replace HBX := qh (HBX.out.on hdr)
 replace HBE := qh (HBE.out.trans (hdr.mono HBE.out.size))
 have HL7a := qh (HL7.out.on HC.out hdr)
 have HUS : Hid (W7.heap.size ≤ u0.heap.size) := hdr.size
 clear hdr HL7 HRC
 obtain ⟨g2, hg2⟩ := exq u0.heap.size
 have HGW : Hid (w.heap.size ≤ g2) := by show _ ≤ _; have h1 := HBE.out.size; omega
 have HGN : Hid (g2 ≠ P) := by show _ ≠ _; have h1 := HBX.out.lt; omega
 have HPW : Hid (w.heap.size ≤ P) := HGP.out.2.2.2.1
 have HLM := qh (HL7a.out.more HC.out (X' := (fun k => k = P ∨ k = g2)) (fun k hk => hk.elim (fun e => .inl (.inr e)) (fun e => .inr (by omega))))
 have HG2 := qh hg2
 clear hg2 HL7a HGP
 have f3 := HBX.out.free 3
 have f6 := HBX.out.free 6
 have q3 := HBX.out.c3
 have q6 := HBX.out.c6
 have hmk0 := k_make
 refine zt 1 ?_
 refine wpAnyZ_ready (rs := [0, 2]) (by kernel_rfl) (by simp) ?_
 refine AllReadyZ.cons (o := ⟨_, _, _, _, _, _⟩) rfl (fun C hC => ?_) (AllReadyZ.cons (o := ⟨_, _, _, _, _, _⟩) rfl (fun C hC => ?_) AllReadyZ.nil)
 · go_simp
   obtain ⟨v0, hv0⟩ := exq (u0.alloc (.cells (recK.all (kReps ⟨#[]⟩ 0)).toArray 84))
   have hbA := wbq hv0
   have HKA : Hid (KRep v0 g2 ⟨#[]⟩ 0) := by rw [hv0, HG2.out]; exact heap_alloc_new u0 _
   have HXA := qh (HBX.out.on hbA)
   have HLA := qh (HLM.out.on HC.out hbA)
   have HBA := qh (HBE.out.trans (hbA.mono HBE.out.size))
   rw [← hv0, ← HG2.out]
   clear hv0 hbA f3 f6 q3 q6
   refine hC.out _ _ (fun _ => trivial) (fun _ => ?_)
   clear hC C
   (try simp only [Act.put, List.setIfInBounds_toArray, List.set_cons_zero, List.set_cons_succ])
   have f3 := HXA.out.free 3
   have q3 := HXA.out.c3
   refine zr 2 (fun C hC => ?_)
   go_simp
   obtain ⟨v1, hv1⟩ := exq (v0.setCell ⟨P, 3, none⟩ (.int .i64 6))
   have HXB : Hid (BoxAt v1 P 0 1 0 6 false 0 (.slice (some ⟨g, 0, none⟩) 1 1)) := by rw [hv1]; exact HXA.out.s3 6
   have hg1 : v0.grownBy v1 (some P) := by rw [hv1]; exact grow_one v0 P _ _
   have HKB : Hid (KRep v1 g2 ⟨#[]⟩ 0) := (hg1.block g2 (lt_of_block HKA.out) (fun e => HGN.out (Option.some.inj e))).trans HKA.out
   have HLB := qh (HLA.out.other HC.out (Kept.of_grown (F := fun k => k = P) hg1 (.inl rfl)) (fun k hk => .inl (.inl hk)))
   have HBB : Hid (Below w.heap.size w v1) := by rw [hv1]; exact HBA.out.setCell HPW.out _
   rw [← hv1]
   clear hv1 hg1 f3 q3
   refine hC.out _ _ (fun _ => trivial) (fun _ => ?_)
   clear hC C
   (try simp only [Act.put, List.setIfInBounds_toArray, List.set_cons_zero, List.set_cons_succ])
   refine zt 3 ?_
   have f6 := HXB.out.free 6
   have q6 := HXB.out.c6
   refine zr 4 (fun C hC => ?_)
   go_simp
   refine hC.out _ _ (fun _ => trivial) (fun _ => ?_)
   clear hC C
   (try simp only [Act.put, List.setIfInBounds_toArray, List.set_cons_zero, List.set_cons_succ])
   obtain ⟨U, hU⟩ := exq (v1.setCell ⟨P, 6, none⟩ (.slice (some ⟨g2, 0, none⟩) 16 16))
   have HBXn : Hid (BoxAt U P 0 1 0 6 false 0 (.slice (some ⟨g2, 0, none⟩) 16 16)) := by rw [hU]; exact HXB.out.s6 _
   have hg2 : v1.grownBy U (some P) := by rw [hU]; exact grow_one v1 P _ _
   have HKR0 : Hid (KRep U g2 ⟨#[]⟩ 0) := (hg2.block g2 (lt_of_block HKB.out) (fun e => HGN.out (Option.some.inj e))).trans HKB.out
   have HLU := qh (HLB.out.other HC.out (Kept.of_grown (F := fun k => k = P) hg2 (.inl rfl)) (fun k hk => .inl (.inl hk)))
   have HBn : Hid (Below w.heap.size w U) := by rw [hU]; exact HBB.out.setCell HPW.out _
   have HUU : Hid (True) := trivial
   rw [← hU]
   clear hU hg2 f6 q6 hmk0
   replace HBX := HBXn
   replace HBE := HBn
   clear HBXn HBn HLM HG2 HXB HKB HLB HBB HXA HLA HBA
   refine zd ?_
   obtain ⟨LZ, hLZ⟩ : ∃ l : List Nat, l = List.replicate 60 0 := ⟨_, rfl⟩
   obtain ⟨z, hz⟩ := exq (str LZ)
   have HZZ := qh hz
   have HZS : Hid (z.size = 60) := by show _ = _; rw [hz, hLZ]; rfl
   have HLZ := qh hLZ
   clear hz hLZ
   (try clear hHeld)
   have HKR : Hid (KRep U g2 z 0) := HKR0.out
   have x6 := HBX.out.c6
   go_wp2
   clear x6
   have hmk : ∀ V, (Instr.makeSlice 30 (.int .i64 60) (.int .i64 60)).run Tryz.prog V = .ok (.slice (some ⟨V.heap.size, 0, none⟩) 60 60) (V.alloc (.cells (vals LZ).toArray 5)) := fun V => by rw [HLZ.out]; exact run_make_part V 60 60 (Nat.le_refl _) (by omega)
   go_loopw [11, 49] (fun v11 v49 wr => ∃ (i : Nat) (q : Value), q = v11 ∧ v49 = .int .i64 (i : Int) ∧ i ≤ 16 ∧ Hid (BoxAt wr P 0 1 0 6 false 0 (.slice (some ⟨g2, 0, none⟩) 16 16)) ∧ Hid (KRep wr g2 z i) ∧ Hid (LogAt R w.heap.size (fun k => k = P ∨ k = g2) wr a 200 0 [kB1]) ∧ Hid (Below w.heap.size w wr)) (fun _ v49 _ => 16 - (intOf v49).toNat)
   case atStart => exact ⟨0, _, rfl, rfl, Nat.zero_le _, HBX.out, HKR.out, HLU.out, HBE.out⟩
   obtain ⟨i, q, rfl, rfl, hi, HBXr, HKRr, HLr, HBr⟩ := hrel
   clear HBX HKR HKR0 HLU HBE HUU
   obtain ⟨wo, hwo⟩ := exq wr
   subst hwo
   have hGU : g2 < wo.heap.size := lt_of_block HKRr.out
   by_cases hlt : i < 16
   · have hd : decide (i < 16) = true := decide_eq_true hlt
     have hil : (i : Int) < 16 := by omega
     go_upto_region 13 with fail
     have hdr : Below wo.heap.size wo wo.drew := (Below.refl _ wo).drew
     refine wp_region_noPanic ?_
     refine wp_region_z [7] (fun (V : World) => V.cell? ⟨P, 6, none⟩ = some (.slice (some ⟨g2, 0, none⟩) 16 16)) (by kernel_rfl) ?_
     have hHeld : (fun (V : World) => V.cell? ⟨P, 6, none⟩ = some (.slice (some ⟨g2, 0, none⟩) 16 16)) _ := (HBXr.out.on hdr).c6
     obtain ⟨u1, hu1⟩ := exq wo.drew
     rw [← hu1] at hHeld hdr
     rw [← hu1]
     clear hu1
     have HU := qh hdr
     clear hdr
     refine zt 0 ?_
     refine zt 1 ?_
     refine zt 2 ?_
     refine zr 3 (fun C hC => ?_)
     go_simp
     obtain ⟨u2, hu2⟩ := exq (u1.alloc (.cells (vals LZ).toArray 5))
     obtain ⟨gz, hgz⟩ := exq u1.heap.size
     have hA2 := wbq hu2
     have HZO : Hid (Own u2 gz LZ) := by rw [hu2, hgz]; exact own_new _ _
     have HU2 : Hid (Below wo.heap.size wo u2) := HU.out.trans (hA2.mono HU.out.size)
     (try rw [← hu2])
     (try rw [← hgz])
     clear hu2 hgz hA2
     have hHeld : (fun (V : World) => V.cell? ⟨P, 6, none⟩ = some (.slice (some ⟨g2, 0, none⟩) 16 16)) u2 := (HBXr.out.on HU2.out).c6
     refine zc hC hHeld ?_
     clear hC C
     have hcv := kConv_zero HZO.out HLZ.out HZZ.out
     refine zr 4 (fun C hC => ?_)
     go_simp
     refine zc hC hHeld ?_
     clear hC C hcv
     refine zt 5 ?_
     refine zt 6 ?_
     have HK2 : Hid (KRep u2 g2 z i) := by show KRep _ _ _ _; unfold KRep; rw [HU2.out.block g2 hGU]; exact HKRr.out
     have hfz : u2.frozen? ⟨g2, i * 2 + 1, none⟩ = false := frozen_of_row u2 g2 _ _ _ HK2.out
     have hoc : u2.cell? ⟨g2, i * 2 + 1, none⟩ = some (.string ⟨#[]⟩) := kRep_cell HK2.out hlt
     refine zr 7 (fun C hC => ?_)
     go_simp
     refine zl hC ?_
     clear hC C
     refine zd ?_
     clear hHeld hfz hoc
     obtain ⟨u3, hu3⟩ := exq (u2.setCell ⟨g2, i * 2 + 1, none⟩ (.string z))
     have hg3 : u2.grownBy u3 (some g2) := by rw [hu3]; exact grow_one u2 g2 _ _
     have HK3 : Hid (KRep u3 g2 z (i + 1)) := by rw [hu3]; exact kRep_set HK2.out hlt
     have HX3 : Hid (BoxAt u3 P 0 1 0 6 false 0 (.slice (some ⟨g2, 0, none⟩) 16 16)) := by rw [hu3]; exact (HBXr.out.on HU2.out).off (fun e => HGN.out e) _
     have HL3b : Hid (LogAt R w.heap.size (fun k => k = P ∨ k = g2) u3 a 200 0 [kB1]) := (HLr.out.on HC.out HU2.out).other HC.out (Kept.of_grown (F := fun k => k = g2) hg3 (.inl rfl)) (fun k hk => .inl (.inr hk))
     have HB3b : Hid (Below w.heap.size w u3) := by
      show Below _ _ _
      have h1 := HBr.out.trans (HU2.out.mono HBr.out.size)
      rw [hu3]
      exact h1.setCell HGW.out _
     rw [← hu3]
     clear hu3 hg3 HK2
     go_wp2
     go_roundw
     case rel => exact ⟨i + 1, _, rfl, rfl, hlt, HX3.out, HK3.out, HL3b.out, HB3b.out⟩
     simp [intOf]; omega
   have hd : decide (i < 16) = false := decide_eq_false hlt
   have hi16 : i = 16 := by omega
   subst hi16
   have HRC : Hid (RecsAt wo (some ⟨g2, 0, none⟩) 16 16 (List.replicate 16 ⟨⟨#[]⟩, z⟩)) := HKRr.out.recs
   clear hlt hi hmk hGU
   obtain ⟨p0, p1, p2, p3, p4, p5, p6⟩ := HBXr.out.cs
   go_wp2_with fail
   clear p0 p1 p2 p3 p4 p5 p6 hd
   obtain ⟨F, hF, hFB, hFX⟩ := HLr.out.is
   refine (HC.out.produce F wo a 200 0 [kB1] ⟨0, 1, 0, 6, false, 0, List.replicate 16 ⟨⟨#[]⟩, z⟩⟩ (some ⟨g2, 0, none⟩) 16 hF HLr.out.row HRC.out (by intro r hr; rw [List.eq_of_mem_replicate hr]; exact ⟨Nat.zero_le _, by show z.size ≤ _; rw [HZS.out]; decide⟩) (by show (List.replicate 16 _).length ≤ _; rw [List.length_replicate]; decide) (by show (1 : Int) ≤ _; decide)).mono ?_
   rintro e v1 hp
   rw [show produceD 200 0 [kB1] ⟨0, 1, 0, 6, false, 0, List.replicate 16 ⟨⟨#[]⟩, z⟩⟩ = ((-1, 17), [kB1]) from k_big HZS.out] at hp
   obtain ⟨rfl, hl, hk⟩ := LogAt.turn (B := w.heap.size) (X := fun _ => False) hp ⟨k_row1, by decide, by decide, by decide⟩ hFB (fun k _ h => h) HBr.out.size (fun k h => h.elim)
   have HLa := qh hl
   have HBa : Hid (Below w.heap.size w v1) := HBr.out.trans (hk.below (fun k h => h.1) HBr.out.size)
   clear hF hFB hFX hp hl hk HLr HBr HRC HBXr HKRr
   go_wp2_with fail
   obtain ⟨F, hF, hFB, hFX⟩ := HLa.out.is
   refine (HC.out.end_ F v1 a 200 0 [kB1] hF HLa.out.row).mono ?_
   rintro e v2 ⟨rfl, hb⟩
   rw [k_end]
   have HLb := qh (HLa.out.on HC.out hb)
   have HBb := qh (HBa.out.trans (hb.mono HBa.out.size))
   clear hF hFB hFX hb HLa HBa
   go_wp2_with fail
   obtain ⟨F, hF, hFB, hFX⟩ := HLb.out.is
   refine (HC.out.batches F v2 a 200 0 [kB1] hF HLb.out.row).mono ?_
   rintro e v3 ⟨ba, bn, bc, bm, rfl, hbt, hms, -, -, hb⟩
   obtain rfl : bn = 1 := by
    have h1 := hbt.row.length
    have h2 := congrArg List.length hms
    unfold bats at h2
    rw [List.length_map, h1] at h2
    exact h2
   have HLc := qh (HLb.out.on HC.out hb)
   have HBc := qh (HBb.out.trans (hb.mono HBb.out.size))
   clear hF hFB hFX hb hbt hms HLb HBb
   go_wp2_with fail
   obtain ⟨F, hF, hFB, hFX⟩ := HLc.out.is
   refine (HC.out.keep F v3 a 200 0 [kB1] (-1) hF HLc.out.row).mono ?_
   rintro e v4 hp
   rw [k_keep0] at hp
   obtain ⟨rfl, hl, hk⟩ := LogAt.turn (B := w.heap.size) (X := fun _ => False) hp ⟨k_row1, by decide, by decide, by decide⟩ hFB (fun k _ h => h) HBc.out.size (fun k h => h.elim)
   have HLd := qh hl
   have HBd : Hid (Below w.heap.size w v4) := HBc.out.trans (hk.below (fun k h => h.1) HBc.out.size)
   clear hF hFB hFX hp hl hk HLc HBc
   go_wp2_with fail
   obtain ⟨F, hF, hFB, hFX⟩ := HLd.out.is
   refine (HC.out.keep F v4 a 200 0 [kB1] 9 hF HLd.out.row).mono ?_
   rintro e v5 hp
   rw [k_keep9] at hp
   obtain ⟨rfl, hl, hk⟩ := LogAt.turn (B := w.heap.size) (X := fun _ => False) hp ⟨RowW.nil, by decide, by decide, Nat.zero_le _⟩ hFB (fun k _ h => h) HBd.out.size (fun k h => h.elim)
   have HLe := qh hl
   have HBe : Hid (Below w.heap.size w v5) := HBd.out.trans (hk.below (fun k h => h.1) HBd.out.size)
   clear hF hFB hFX hp hl hk HLd HBd
   go_wp2_with fail
   obtain ⟨F, hF, hFB, hFX⟩ := HLe.out.is
   refine (HC.out.start F v5 a 200 1 [] hF HLe.out.row).mono ?_
   rintro e v6 ⟨rfl, hb⟩
   have HLf := qh (HLe.out.on HC.out hb)
   have HBf := qh (HBe.out.trans (hb.mono HBe.out.size))
   clear hF hFB hFX hb HLe HBe
   go_wp2_with fail
   obtain ⟨F, hF, hFB, hFX⟩ := HLf.out.is
   refine (HC.out.producers F v6 a 200 1 [] hF HLf.out.row).mono ?_
   rintro e v7 ⟨pa, pn, pc, pm, rfl, hpt, hps, -, -, hb⟩
   obtain rfl : pn = 0 := by
    have h1 := hpt.row.length
    have h2 := congrArg List.length hps
    unfold pds at h2
    rw [List.length_map, h1] at h2
    exact h2
   have HBg := qh (HBf.out.trans (hb.mono HBf.out.size))
   clear hF hFB hFX hb hpt hps HLf HBf
   go_wp2
   go_ret
   exact ⟨rfl, HBg.out⟩
 go_simp
 obtain ⟨v0, hv0⟩ := exq (u0.setCell ⟨P, 3, none⟩ (.int .i64 6))
 have HXA : Hid (BoxAt v0 P 0 1 0 6 false 0 (.slice (some ⟨g, 0, none⟩) 1 1)) := by rw [hv0]; exact HBX.out.s3 6
 have hg1 : u0.grownBy v0 (some P) := by rw [hv0]; exact grow_one u0 P _ _
 have HLA := qh (HLM.out.other HC.out (Kept.of_grown (F := fun k => k = P) hg1 (.inl rfl)) (fun k hk => .inl (.inl hk)))
 have HBA : Hid (Below w.heap.size w v0) := by rw [hv0]; exact HBE.out.setCell HPW.out _
 have HSZ : Hid (v0.heap.size = g2) := by show _ = _; rw [hv0, HG2.out, size_set]
 rw [← hv0]
 clear hv0 hg1 f3 f6 q3 q6
 refine hC.out _ _ (fun _ => trivial) (fun _ => ?_)
 clear hC C
 (try simp only [Act.put, List.setIfInBounds_toArray, List.set_cons_zero, List.set_cons_succ])
 refine zr 0 (fun C hC => ?_)
 go_simp
 obtain ⟨v1, hv1⟩ := exq (v0.alloc (.cells (recK.all (kReps ⟨#[]⟩ 0)).toArray 84))
 have hbA := wbq hv1
 have HKB : Hid (KRep v1 g2 ⟨#[]⟩ 0) := by rw [hv1, ← HSZ.out]; exact heap_alloc_new v0 _
 have HXB := qh (HXA.out.on hbA)
 have HLB := qh (HLA.out.on HC.out hbA)
 have HBB := qh (HBA.out.trans (hbA.mono HBA.out.size))
 rw [← hv1, HSZ.out]
 clear hv1 hbA
 refine hC.out _ _ (fun _ => trivial) (fun _ => ?_)
 clear hC C
 (try simp only [Act.put, List.setIfInBounds_toArray, List.set_cons_zero, List.set_cons_succ])
 refine zt 3 ?_
 have f6 := HXB.out.free 6
 have q6 := HXB.out.c6
 refine zr 4 (fun C hC => ?_)
 go_simp
 refine hC.out _ _ (fun _ => trivial) (fun _ => ?_)
 clear hC C
 (try simp only [Act.put, List.setIfInBounds_toArray, List.set_cons_zero, List.set_cons_succ])
 obtain ⟨U, hU⟩ := exq (v1.setCell ⟨P, 6, none⟩ (.slice (some ⟨g2, 0, none⟩) 16 16))
 have HBXn : Hid (BoxAt U P 0 1 0 6 false 0 (.slice (some ⟨g2, 0, none⟩) 16 16)) := by rw [hU]; exact HXB.out.s6 _
 have hg2 : v1.grownBy U (some P) := by rw [hU]; exact grow_one v1 P _ _
 have HKR0 : Hid (KRep U g2 ⟨#[]⟩ 0) := (hg2.block g2 (lt_of_block HKB.out) (fun e => HGN.out (Option.some.inj e))).trans HKB.out
 have HLU := qh (HLB.out.other HC.out (Kept.of_grown (F := fun k => k = P) hg2 (.inl rfl)) (fun k hk => .inl (.inl hk)))
 have HBn : Hid (Below w.heap.size w U) := by rw [hU]; exact HBB.out.setCell HPW.out _
 have HUU : Hid (True) := trivial
 rw [← hU]
 clear hU hg2 f6 q6 hmk0
 replace HBX := HBXn
 replace HBE := HBn
 clear HBXn HBn HLM HG2 HXB HKB HLB HBB HXA HLA HBA
 refine zd ?_
 obtain ⟨LZ, hLZ⟩ : ∃ l : List Nat, l = List.replicate 60 0 := ⟨_, rfl⟩
 obtain ⟨z, hz⟩ := exq (str LZ)
 have HZZ := qh hz
 have HZS : Hid (z.size = 60) := by show _ = _; rw [hz, hLZ]; rfl
 have HLZ := qh hLZ
 clear hz hLZ
 (try clear hHeld)
 have HKR : Hid (KRep U g2 z 0) := HKR0.out
 have x6 := HBX.out.c6
 go_wp2
 clear x6
 have hmk : ∀ V, (Instr.makeSlice 30 (.int .i64 60) (.int .i64 60)).run Tryz.prog V = .ok (.slice (some ⟨V.heap.size, 0, none⟩) 60 60) (V.alloc (.cells (vals LZ).toArray 5)) := fun V => by rw [HLZ.out]; exact run_make_part V 60 60 (Nat.le_refl _) (by omega)
 go_loopw [11, 49] (fun v11 v49 wr => ∃ (i : Nat) (q : Value), q = v11 ∧ v49 = .int .i64 (i : Int) ∧ i ≤ 16 ∧ Hid (BoxAt wr P 0 1 0 6 false 0 (.slice (some ⟨g2, 0, none⟩) 16 16)) ∧ Hid (KRep wr g2 z i) ∧ Hid (LogAt R w.heap.size (fun k => k = P ∨ k = g2) wr a 200 0 [kB1]) ∧ Hid (Below w.heap.size w wr)) (fun _ v49 _ => 16 - (intOf v49).toNat)
 case atStart => exact ⟨0, _, rfl, rfl, Nat.zero_le _, HBX.out, HKR.out, HLU.out, HBE.out⟩
 obtain ⟨i, q, rfl, rfl, hi, HBXr, HKRr, HLr, HBr⟩ := hrel
 clear HBX HKR HKR0 HLU HBE HUU
 obtain ⟨wo, hwo⟩ := exq wr
 subst hwo
 have hGU : g2 < wo.heap.size := lt_of_block HKRr.out
 by_cases hlt : i < 16
 · have hd : decide (i < 16) = true := decide_eq_true hlt
   have hil : (i : Int) < 16 := by omega
   go_upto_region 13 with fail
   have hdr : Below wo.heap.size wo wo.drew := (Below.refl _ wo).drew
   refine wp_region_noPanic ?_
   refine wp_region_z [7] (fun (V : World) => V.cell? ⟨P, 6, none⟩ = some (.slice (some ⟨g2, 0, none⟩) 16 16)) (by kernel_rfl) ?_
   have hHeld : (fun (V : World) => V.cell? ⟨P, 6, none⟩ = some (.slice (some ⟨g2, 0, none⟩) 16 16)) _ := (HBXr.out.on hdr).c6
   obtain ⟨u1, hu1⟩ := exq wo.drew
   rw [← hu1] at hHeld hdr
   rw [← hu1]
   clear hu1
   have HU := qh hdr
   clear hdr
   refine zt 0 ?_
   refine zt 1 ?_
   refine zt 2 ?_
   refine zr 3 (fun C hC => ?_)
   go_simp
   obtain ⟨u2, hu2⟩ := exq (u1.alloc (.cells (vals LZ).toArray 5))
   obtain ⟨gz, hgz⟩ := exq u1.heap.size
   have hA2 := wbq hu2
   have HZO : Hid (Own u2 gz LZ) := by rw [hu2, hgz]; exact own_new _ _
   have HU2 : Hid (Below wo.heap.size wo u2) := HU.out.trans (hA2.mono HU.out.size)
   (try rw [← hu2])
   (try rw [← hgz])
   clear hu2 hgz hA2
   have hHeld : (fun (V : World) => V.cell? ⟨P, 6, none⟩ = some (.slice (some ⟨g2, 0, none⟩) 16 16)) u2 := (HBXr.out.on HU2.out).c6
   refine zc hC hHeld ?_
   clear hC C
   have hcv := kConv_zero HZO.out HLZ.out HZZ.out
   refine zr 4 (fun C hC => ?_)
   go_simp
   refine zc hC hHeld ?_
   clear hC C hcv
   refine zt 5 ?_
   refine zt 6 ?_
   have HK2 : Hid (KRep u2 g2 z i) := by show KRep _ _ _ _; unfold KRep; rw [HU2.out.block g2 hGU]; exact HKRr.out
   have hfz : u2.frozen? ⟨g2, i * 2 + 1, none⟩ = false := frozen_of_row u2 g2 _ _ _ HK2.out
   have hoc : u2.cell? ⟨g2, i * 2 + 1, none⟩ = some (.string ⟨#[]⟩) := kRep_cell HK2.out hlt
   refine zr 7 (fun C hC => ?_)
   go_simp
   refine zl hC ?_
   clear hC C
   refine zd ?_
   clear hHeld hfz hoc
   obtain ⟨u3, hu3⟩ := exq (u2.setCell ⟨g2, i * 2 + 1, none⟩ (.string z))
   have hg3 : u2.grownBy u3 (some g2) := by rw [hu3]; exact grow_one u2 g2 _ _
   have HK3 : Hid (KRep u3 g2 z (i + 1)) := by rw [hu3]; exact kRep_set HK2.out hlt
   have HX3 : Hid (BoxAt u3 P 0 1 0 6 false 0 (.slice (some ⟨g2, 0, none⟩) 16 16)) := by rw [hu3]; exact (HBXr.out.on HU2.out).off (fun e => HGN.out e) _
   have HL3b : Hid (LogAt R w.heap.size (fun k => k = P ∨ k = g2) u3 a 200 0 [kB1]) := (HLr.out.on HC.out HU2.out).other HC.out (Kept.of_grown (F := fun k => k = g2) hg3 (.inl rfl)) (fun k hk => .inl (.inr hk))
   have HB3b : Hid (Below w.heap.size w u3) := by
    show Below _ _ _
    have h1 := HBr.out.trans (HU2.out.mono HBr.out.size)
    rw [hu3]
    exact h1.setCell HGW.out _
   rw [← hu3]
   clear hu3 hg3 HK2
   go_wp2
   go_roundw
   case rel => exact ⟨i + 1, _, rfl, rfl, hlt, HX3.out, HK3.out, HL3b.out, HB3b.out⟩
   simp [intOf]; omega
 have hd : decide (i < 16) = false := decide_eq_false hlt
 have hi16 : i = 16 := by omega
 subst hi16
 have HRC : Hid (RecsAt wo (some ⟨g2, 0, none⟩) 16 16 (List.replicate 16 ⟨⟨#[]⟩, z⟩)) := HKRr.out.recs
 clear hlt hi hmk hGU
 obtain ⟨p0, p1, p2, p3, p4, p5, p6⟩ := HBXr.out.cs
 go_wp2_with fail
 clear p0 p1 p2 p3 p4 p5 p6 hd
 obtain ⟨F, hF, hFB, hFX⟩ := HLr.out.is
 refine (HC.out.produce F wo a 200 0 [kB1] ⟨0, 1, 0, 6, false, 0, List.replicate 16 ⟨⟨#[]⟩, z⟩⟩ (some ⟨g2, 0, none⟩) 16 hF HLr.out.row HRC.out (by intro r hr; rw [List.eq_of_mem_replicate hr]; exact ⟨Nat.zero_le _, by show z.size ≤ _; rw [HZS.out]; decide⟩) (by show (List.replicate 16 _).length ≤ _; rw [List.length_replicate]; decide) (by show (1 : Int) ≤ _; decide)).mono ?_
 rintro e v1 hp
 rw [show produceD 200 0 [kB1] ⟨0, 1, 0, 6, false, 0, List.replicate 16 ⟨⟨#[]⟩, z⟩⟩ = ((-1, 17), [kB1]) from k_big HZS.out] at hp
 obtain ⟨rfl, hl, hk⟩ := LogAt.turn (B := w.heap.size) (X := fun _ => False) hp ⟨k_row1, by decide, by decide, by decide⟩ hFB (fun k _ h => h) HBr.out.size (fun k h => h.elim)
 have HLa := qh hl
 have HBa : Hid (Below w.heap.size w v1) := HBr.out.trans (hk.below (fun k h => h.1) HBr.out.size)
 clear hF hFB hFX hp hl hk HLr HBr HRC HBXr HKRr
 go_wp2_with fail
 obtain ⟨F, hF, hFB, hFX⟩ := HLa.out.is
 refine (HC.out.end_ F v1 a 200 0 [kB1] hF HLa.out.row).mono ?_
 rintro e v2 ⟨rfl, hb⟩
 rw [k_end]
 have HLb := qh (HLa.out.on HC.out hb)
 have HBb := qh (HBa.out.trans (hb.mono HBa.out.size))
 clear hF hFB hFX hb HLa HBa
 go_wp2_with fail
 obtain ⟨F, hF, hFB, hFX⟩ := HLb.out.is
 refine (HC.out.batches F v2 a 200 0 [kB1] hF HLb.out.row).mono ?_
 rintro e v3 ⟨ba, bn, bc, bm, rfl, hbt, hms, -, -, hb⟩
 obtain rfl : bn = 1 := by
  have h1 := hbt.row.length
  have h2 := congrArg List.length hms
  unfold bats at h2
  rw [List.length_map, h1] at h2
  exact h2
 have HLc := qh (HLb.out.on HC.out hb)
 have HBc := qh (HBb.out.trans (hb.mono HBb.out.size))
 clear hF hFB hFX hb hbt hms HLb HBb
 go_wp2_with fail
 obtain ⟨F, hF, hFB, hFX⟩ := HLc.out.is
 refine (HC.out.keep F v3 a 200 0 [kB1] (-1) hF HLc.out.row).mono ?_
 rintro e v4 hp
 rw [k_keep0] at hp
 obtain ⟨rfl, hl, hk⟩ := LogAt.turn (B := w.heap.size) (X := fun _ => False) hp ⟨k_row1, by decide, by decide, by decide⟩ hFB (fun k _ h => h) HBc.out.size (fun k h => h.elim)
 have HLd := qh hl
 have HBd : Hid (Below w.heap.size w v4) := HBc.out.trans (hk.below (fun k h => h.1) HBc.out.size)
 clear hF hFB hFX hp hl hk HLc HBc
 go_wp2_with fail
 obtain ⟨F, hF, hFB, hFX⟩ := HLd.out.is
 refine (HC.out.keep F v4 a 200 0 [kB1] 9 hF HLd.out.row).mono ?_
 rintro e v5 hp
 rw [k_keep9] at hp
 obtain ⟨rfl, hl, hk⟩ := LogAt.turn (B := w.heap.size) (X := fun _ => False) hp ⟨RowW.nil, by decide, by decide, Nat.zero_le _⟩ hFB (fun k _ h => h) HBd.out.size (fun k h => h.elim)
 have HLe := qh hl
 have HBe : Hid (Below w.heap.size w v5) := HBd.out.trans (hk.below (fun k h => h.1) HBd.out.size)
 clear hF hFB hFX hp hl hk HLd HBd
 go_wp2_with fail
 obtain ⟨F, hF, hFB, hFX⟩ := HLe.out.is
 refine (HC.out.start F v5 a 200 1 [] hF HLe.out.row).mono ?_
 rintro e v6 ⟨rfl, hb⟩
 have HLf := qh (HLe.out.on HC.out hb)
 have HBf := qh (HBe.out.trans (hb.mono HBe.out.size))
 clear hF hFB hFX hb HLe HBe
 go_wp2_with fail
 obtain ⟨F, hF, hFB, hFX⟩ := HLf.out.is
 refine (HC.out.producers F v6 a 200 1 [] hF HLf.out.row).mono ?_
 rintro e v7 ⟨pa, pn, pc, pm, rfl, hpt, hps, -, -, hb⟩
 obtain rfl : pn = 0 := by
  have h1 := hpt.row.length
  have h2 := congrArg List.length hps
  unfold pds at h2
  rw [List.length_map, h1] at h2
  exact h2
 have HBg := qh (HBf.out.trans (hb.mono HBf.out.size))
 clear hF hFB hFX hb hpt hps HLf HBf
 go_wp2
 go_ret
 exact ⟨rfl, HBg.out⟩
end Go.Proofs.YtjmfdildnojknaaGreat
