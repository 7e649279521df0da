/- Parts of a proof. -/
import Derived.Laws.StructEq
import Derived.Test.YtjmfdildnojknaaGreatKORK8
set_option maxRecDepth 100000
set_option maxHeartbeats 16000000
set_option linter.unusedVariables false
namespace Go.Proofs.YtjmfdildnojknaaGreat
open Go.RowKit
open Go.FoMath
open Go.ProdMath
open Go.BatMath hiding AllB getD_lt take_all
theorem infoGt : (Tryz.prog.info? 137).map (fun i => (i.zero, i.size, i.bytes)) = some (some (.agg #[.int .i64 0, .int .i64 0, .string ⟨#[]⟩, .string ⟨#[]⟩]), 4, 48) := by kernel_rfl
def gtK : Kind Gt := ⟨fun g => [.int .i64 g.off, .int .i64 g.prod, .string g.rc.key, .string g.rc.val], 4, 137, 70⟩
theorem gtK_ok : gtK.Ok 48 where
 und := Tryz.underlying70
 info := by
  obtain ⟨i, hi, hz, hs, hb⟩ := info_parts infoGt
  exact ⟨i, _, hi, hz, hs, hb, rfl⟩
 len := fun _ => rfl
 pos := by decide
 one := fun r u hu => by
  simp only [gtK, List.mem_cons, List.not_mem_nil, or_false] at hu
  rcases hu with rfl | rfl | rfl | rfl <;> rfl
 few := by decide
structure GtAt (W : World) (b o : Nat) (x : Gt) : Prop where
 c0 : W.cell? ⟨b, o, none⟩ = some (.int .i64 x.off)
 c1 : W.cell? ⟨b, o + 1, none⟩ = some (.int .i64 x.prod)
 c2 : W.cell? ⟨b, o + 2, none⟩ = some (.string x.rc.key)
 c3 : W.cell? ⟨b, o + 3, none⟩ = some (.string x.rc.val)
theorem gt_get {w : World} {ad : Option Addr} {len cap : Nat} {l : List Gt} (h : RowAt gtK w ad len cap l) {i : Nat} (hi : i < len) : ∃ b off x, ad = some ⟨b, off, none⟩ ∧ b < w.heap.size ∧ l[i]? = some x ∧ GtAt w b (off + i * 4) x := by
 obtain ⟨b, off, x, e, hb, hx, hc⟩ := h.get hi
 exact ⟨b, off, x, e, hb, hx, hc 0 _ rfl, hc 1 _ rfl, hc 2 _ rfl, hc 3 _ rfl⟩
theorem rc_get {w : World} {ad : Option Addr} {len cap : Nat} {l : List Rc} (h : RecsAt w ad len cap l) {i : Nat} (hi : i < len) : ∃ b off x, ad = some ⟨b, off, none⟩ ∧ b < w.heap.size ∧ l[i]? = some x ∧ w.cell? ⟨b, off + i * 2, none⟩ = some (.string x.key) ∧ w.cell? ⟨b, off + i * 2 + 1, none⟩ = some (.string x.val) := by
 obtain ⟨b, off, x, e, hb, hx, hc⟩ := (recsAt_row.1 h).get hi
 exact ⟨b, off, x, e, hb, hx, hc 0 _ rfl, hc 1 _ rfl⟩
def GivesGots (w : World) (l : List Gt) (e : Ending) (w' : World) : Prop :=
 ∃ ad n cap, e = .returned (.slice ad n cap) ∧ RowAt gtK w' ad n cap l ∧ (∀ a, ad = some a → w.heap.size ≤ a.block ∧ a.block < w'.heap.size) ∧ Below w.heap.size w w'
def partG (b : Bat) (i : Nat) (a z : Int) : List Gt := if b.marker = 0 then (recsG b.prod b.base (b.recs.take i)).filter (fun g => decide (a ≤ g.off ∧ g.off < z)) else []
theorem recsG_take {p : Int} : ∀ {l : List Rc} {i : Nat} {r : Rc} (n : Int), l[i]? = some r → recsG p n (l.take (i + 1)) = recsG p n (l.take i) ++ [⟨n + (i : Int), p, r⟩]
 | [], i, r, n, h => by cases h
 | x :: l, 0, r, n, h => by
   cases h
   show [(⟨n, p, x⟩ : Gt)] = [] ++ [⟨n + 0, p, x⟩]
   rw [Int.add_zero]
   rfl
 | x :: l, i + 1, r, n, h => by
   have ih := recsG_take (p := p) (l := l) (i := i) (n + 1) h
   show (⟨n, p, x⟩ : Gt) :: recsG p (n + 1) (l.take (i + 1)) = (⟨n, p, x⟩ :: recsG p (n + 1) (l.take i)) ++ [⟨n + ((i + 1 : Nat) : Int), p, r⟩]
   rw [ih]
   have : n + 1 + (i : Int) = n + ((i + 1 : Nat) : Int) := by omega
   rw [this]
   rfl
theorem partG_zero (b : Bat) (a z : Int) : partG b 0 a z = [] := by unfold partG; split <;> rfl
theorem partG_all (b : Bat) (a z : Int) : partG b b.recs.length a z = batG b a z := by unfold partG batG; rw [List.take_length]
theorem partG_yes {b : Bat} {i : Nat} {a z : Int} {r : Rc} (h : b.recs[i]? = some r) (hm : b.marker = 0) (h1 : a ≤ b.base + (i : Int)) (h2 : b.base + (i : Int) < z) : partG b (i + 1) a z = partG b i a z ++ [⟨b.base + (i : Int), b.prod, r⟩] := by
 unfold partG
 rw [if_pos hm, if_pos hm, recsG_take b.base h, List.filter_append]
 congr 1
 simp [h1, h2]
theorem partG_no {b : Bat} {i : Nat} {a z : Int} {r : Rc} (h : b.recs[i]? = some r) (hn : b.marker ≠ 0 ∨ b.base + (i : Int) < a ∨ z ≤ b.base + (i : Int)) : partG b (i + 1) a z = partG b i a z := by
 unfold partG
 by_cases hm : b.marker = 0
 rotate_left
 · rw [if_neg hm, if_neg hm]
 rw [if_pos hm, if_pos hm, recsG_take b.base h, List.filter_append]
 have : ([(⟨b.base + (i : Int), b.prod, r⟩ : Gt)]).filter (fun g => decide (a ≤ g.off ∧ g.off < z)) = [] := by
  rw [List.filter_cons_of_neg]
  · rfl
  intro h
  have h3 := of_decide_eq_true h
  simp only at h3
  rcases hn with h4 | h4 | h4
  · exact h4 hm
  · omega
  omega
 rw [this, List.append_nil]
theorem partG_len (b : Bat) (i : Nat) (a z : Int) : (partG b i a z).length ≤ i := by
 unfold partG
 split
 rotate_left
 · exact Nat.zero_le _
 refine Nat.le_trans (List.length_filter_le _ _) ?_
 have h1 : ∀ (p n : Int) (l : List Rc), (recsG p n l).length = l.length := fun p n l => by
  induction l generalizing n with
  | nil => rfl
  | cons x l ih => show _ + 1 = _ + 1; rw [ih]
 rw [h1, List.length_take]
 omega
theorem recordsD_snoc : ∀ (l : List Bat) (b : Bat) (a z : Int), recordsD (l ++ [b]) a z = recordsD l a z ++ batG b a z
 | [], b, a, z => by show batG b a z ++ [] = [] ++ batG b a z; rw [List.append_nil]; rfl
 | c :: l, b, a, z => by
   show batG c a z ++ recordsD (l ++ [b]) a z = batG c a z ++ recordsD l a z ++ batG b a z
   rw [recordsD_snoc l b a z, List.append_assoc]
theorem recordsD_few {a z : Int} : ∀ {l : List Bat}, (∀ b ∈ l, b.recs.length ≤ 16) → (recordsD l a z).length ≤ 16 * l.length
 | [], _ => Nat.le_refl _
 | b :: l, h => by
   have h1 := partG_len b b.recs.length a z
   rw [partG_all] at h1
   have h2 := recordsD_few (a := a) (z := z) (l := l) (fun c hc => h c (by simp [hc]))
   have h3 := h b (by simp)
   show (batG b a z ++ recordsD l a z).length ≤ _
   rw [List.length_append, List.length_cons]
   omega
def GotsOk (bs : List Bat) : Prop := ∀ b ∈ bs, 0 ≤ b.base ∧ b.base ≤ 1099511627776 ∧ b.recs.length ≤ 16
end Go.Proofs.YtjmfdildnojknaaGreat
namespace Go.ProdMath
open Go.SeqMath
open Go.BatMath
def TrOk (x : Tr) : Prop := 0 ≤ gapI x.f x.l ∧ gapI x.f x.l < 16 ∧ 0 ≤ x.b ∧ x.b ≤ 1099511627776
def TrNext (y x : Tr) : Prop := y.b < x.b ∧ followsB y.l x.f = true
def StepOk (l : List Tr) (j : Nat) : Prop := ∀ x, l[j]? = some x → TrOk x ∧ ∀ y, 0 < j → l[j - 1]? = some y → TrNext y x
def RightP (p : Pd) : Prop := (0 ≤ p.id ∧ 0 ≤ p.epoch ∧ p.epoch ≤ 32767 ∧ -1 ≤ p.opn ∧ p.opn ≤ 1099511627776 ∧ p.last.length ≤ 5) ∧ ∀ j, StepOk p.last j
end Go.ProdMath
namespace Go.SnapMath
open Go.ProdMath
open Go.BatMath (In64)
open Go.VarMath (encN getB enc_len enc_all zig zig_lt encU AllB)
def trS (x : Tr) : List Nat := encN x.f ++ (encN x.l ++ encN x.b)
def trsS : List Tr → List Nat
 | [] => []
 | x :: l => trS x ++ trsS l
def pdS (p : Pd) : List Nat := encN p.id ++ (encN p.epoch ++ (encN p.opn ++ (encN (p.last.length : Int) ++ trsS p.last)))
def pdsS : List Pd → List Nat
 | [] => []
 | p :: l => pdS p ++ pdsS l
def bodyS (l : List Pd) (n : Int) : List Nat := encN n ++ (encN (l.length : Int) ++ pdsS l)
def snapS (l : List Pd) (n : Int) : List Nat := CrcMath.sealB (bodyS l n)
end Go.SnapMath
namespace Go.SnapMath
open Go.ProdMath
open Go.BatMath (In64)
open Go.VarMath (encN getB getB_bounds AllB)
def rdN (bs : List Nat) (fell : Bool) : Int × List Nat × Bool := if fell = true ∨ (getB bs).2 = 0 then (0, bs, true) else ((getB bs).1, bs.drop (getB bs).2, false)
def rdTr (bs : List Nat) (f : Bool) : Tr × List Nat × Bool :=
 (⟨(rdN bs f).1, (rdN (rdN bs f).2.1 (rdN bs f).2.2).1, (rdN (rdN (rdN bs f).2.1 (rdN bs f).2.2).2.1 (rdN (rdN bs f).2.1 (rdN bs f).2.2).2.2).1⟩, (rdN (rdN (rdN bs f).2.1 (rdN bs f).2.2).2.1 (rdN (rdN bs f).2.1 (rdN bs f).2.2).2.2).2)
def rdTrs : Nat → List Nat → Bool → List Tr × List Nat × Bool
 | 0, bs, f => ([], bs, f)
 | k + 1, bs, f => if f = true then ([], bs, f) else ((rdTr bs f).1 :: (rdTrs k (rdTr bs f).2.1 (rdTr bs f).2.2).1, (rdTrs k (rdTr bs f).2.1 (rdTr bs f).2.2).2)
def rdPd (bs : List Nat) (f : Bool) : Pd × List Nat × Bool :=
 let a := rdN bs f
 let b := rdN a.2.1 a.2.2
 let c := rdN b.2.1 b.2.2
 let d := rdN c.2.1 c.2.2
 let e := rdTrs d.1.toNat d.2.1 d.2.2
 (⟨a.1, b.1, e.1, c.1⟩, e.2)
noncomputable def okP (p : Pd) : Bool := @decide (RightP p) (Classical.propDecidable _)
def lastId (acc : List Pd) (p : Pd) : Bool := match acc.getLast? with
 | none => true
 | some q => decide (q.id < p.id)
noncomputable def rdPds : Nat → List Pd → List Nat → Bool → Option (List Pd × List Nat × Bool)
 | 0, acc, bs, f => some (acc, bs, f)
 | n + 1, acc, bs, f => if f = true then some (acc, bs, f) else if (okP (rdPd bs f).1 && lastId acc (rdPd bs f).1) = true then rdPds n (acc ++ [(rdPd bs f).1]) (rdPd bs f).2.1 (rdPd bs f).2.2 else none
def openS (bs : List Nat) : List Nat × Bool := if CrcMath.okB bs = true then (bs.drop 4, false) else ([], true)
noncomputable def rdAll (bs : List Nat) : Int × Option (List Pd × List Nat × Bool) :=
 let a := rdN (openS bs).1 (openS bs).2
 let c := rdN a.2.1 a.2.2
 (a.1, rdPds c.1.toNat [] c.2.1 c.2.2)
structure AccOk (acc : List Pd) : Prop where
 right : ∀ p ∈ acc, RightP p
 ids : ∀ p ∈ acc, In64 p.id
 asc : Asc acc
def IsSnap (bs : List Nat) (l : List Pd) (n : Int) : Prop := AccOk l ∧ (0 ≤ n ∧ n ≤ 1099511627776) ∧ bs = snapS l n
end Go.SnapMath
namespace Go.SnapMath
open Go.ProdMath
open Go.BatMath (In64 Bat Ok ok_of rightE head_of headB noneB none_of)
open Go.SeqMath (gapI followsB lastI addI)
structure StOk (e : Int) (p : Pd) : Prop where
 right : RightP p
 last : ∀ x ∈ p.last, x.b < e
theorem StOk.up {e e' : Int} {p : Pd} (h : StOk e p) (he : e ≤ e') : StOk e' p := ⟨h.right, fun x hx => by have := h.last x hx; omega⟩
theorem lt_len {l : List Tr} {j : Nat} {x : Tr} (h : l[j]? = some x) : j < l.length := (List.getElem?_eq_some_iff.1 h).1
theorem step_snoc {l : List Tr} {x : Tr} (h : ∀ j, StepOk l j) (hx : TrOk x) (hn : ∀ y, l.getLast? = some y → TrNext y x) : ∀ j, StepOk (l ++ [x]) j := fun j z hz => by
 have hj := lt_len hz
 rw [List.length_append, List.length_singleton] at hj
 by_cases hlt : j < l.length
 · rw [List.getElem?_append_left hlt] at hz
   refine ⟨(h j z hz).1, fun y h0 hy => ?_⟩
   rw [List.getElem?_append_left (by omega)] at hy
   exact (h j z hz).2 y h0 hy
 have hje : j = l.length := by omega
 subst hje
 rw [List.getElem?_append_right (Nat.le_refl _), Nat.sub_self] at hz
 cases hz
 refine ⟨hx, fun y h0 hy => hn y ?_⟩
 rw [List.getElem?_append_left (by omega)] at hy
 rw [List.getLast?_eq_getElem?]
 exact hy
theorem step_drop {l : List Tr} (h : ∀ j, StepOk l j) (d : Nat) : ∀ j, StepOk (l.drop d) j := fun j z hz => by
 rw [List.getElem?_drop] at hz
 refine ⟨(h _ z hz).1, fun y h0 hy => ?_⟩
 rw [List.getElem?_drop] at hy
 refine (h _ z hz).2 y (by omega) ?_
 rw [show d + j - 1 = d + (j - 1) by omega]
 exact hy
theorem tr_ok {s base : Int} {n : Nat} (s0 : 0 ≤ s) (s1 : s ≤ 2147483647) (n1 : 1 ≤ n) (n2 : n ≤ 16) (b0 : 0 ≤ base) (b1 : base ≤ 1099511627776) : TrOk ⟨s, lastI s n, base⟩ := by
 have hl : lastI s n = addI s ((n : Int) - 1) := by unfold lastI; rw [if_pos ⟨by omega, by omega⟩]
 have hg : gapI s (lastI s n) = (n : Int) - 1 := by rw [hl]; exact SeqMath.gap_add s0 s1 (by omega) (by omega)
 refine ⟨?_, ?_, b0, b1⟩
 · show 0 ≤ gapI s (lastI s n); omega
 show gapI s (lastI s n) < 16; omega
theorem data_ok {b : Bat} (h : rightE b = 0) (hm : b.marker = 0) (hp : 0 ≤ b.prod) : 0 ≤ b.seq ∧ 1 ≤ b.recs.length := by
 unfold rightE at h
 split at h
 · omega
 split at h
 · rename_i h1; exact absurd hm h1
 split at h
 · rename_i h1
   obtain ⟨h1, h2⟩ := h1
   refine ⟨?_, List.length_pos_iff.2 h2⟩
   rcases h1 with h1 | h1
   · have := (none_of h1).1; omega
   have := SeqMath.of_right h1.2; omega
 omega
theorem epoch_ok {b : Bat} (h : rightE b = 0) (hp : 0 ≤ b.prod) : 0 ≤ b.epoch := by
 unfold rightE at h
 split at h
 · omega
 split at h
 · split at h
   · rename_i h1; exact (head_of h1.2.1).2.1
   omega
 split at h
 · rename_i h1
   rcases h1.1 with h1 | h1
   · have := (none_of h1).1; omega
   exact (head_of h1.1).2.1
 omega
theorem old_ok {e : Int} {p : Pd} {known : Bool} (b : Bat) (h : known = true → StOk e p) : (∀ j, StepOk (oldLast p known b) j) ∧ (oldLast p known b).length ≤ 5 ∧ (∀ x ∈ oldLast p known b, x.b < e) ∧ -1 ≤ oldOpen p known ∧ oldOpen p known ≤ 1099511627776 := by
 have ho : -1 ≤ oldOpen p known ∧ oldOpen p known ≤ 1099511627776 := by
  unfold oldOpen
  split
  · rename_i hk
    exact ⟨(h hk).right.1.2.2.2.1, (h hk).right.1.2.2.2.2.1⟩
  exact ⟨by decide, by decide⟩
 by_cases hk : known = true ∧ p.epoch = b.epoch
 · have he : oldLast p known b = p.last := by unfold oldLast; rw [if_pos hk]
   rw [he]
   have h1 := h hk.1
   exact ⟨h1.right.2, h1.right.1.2.2.2.2.2, h1.last, ho⟩
 have he : oldLast p known b = [] := by unfold oldLast; rw [if_neg hk]
 rw [he]
 exact ⟨fun j x hx => (by cases hx), Nat.zero_le _, fun x hx => (by cases hx), ho⟩
theorem dup_mem : ∀ {l : List Tr} {s : Int} {c : Nat} {n : Int}, dupL l s c = some n → ∃ x ∈ l, x.b = n
 | [], s, c, n, h => by cases h
 | x :: l, s, c, n, h => by
   cases hb : hitB x s c with
   | true =>
     rw [dup_hit hb] at h
     cases h
     exact ⟨x, by simp, rfl⟩
   | false =>
     rw [dup_miss hb] at h
     obtain ⟨y, hy, e⟩ := dup_mem h
     exact ⟨y, by simp [hy], e⟩
theorem apply_ok {p : Pd} {known : Bool} {b : Bat} {e : Int} (h : known = true → StOk b.base p) (hr : rightE b = 0) (hp : 0 ≤ b.prod) (hc : (checkD p known b).2 = 0) (hn : (checkD p known b).1 < 0) (he : b.base < e) : StOk e (applyD p known b) := by
 have ok := ok_of hr
 obtain ⟨o1, o2, o3, o4, o5⟩ := old_ok b h
 have hep := epoch_ok hr hp
 unfold applyD
 split
 · exact ⟨⟨⟨hp, hep, ok.epoch1, by show (-1 : Int) ≤ -1; omega, by show (-1 : Int) ≤ _; omega, o2⟩, o1⟩, fun x hx => by have := o3 x hx; omega⟩
 rename_i hm
 have hm0 : b.marker = 0 := Classical.byContradiction fun h => hm h
 obtain ⟨hs, hrn⟩ := data_ok hr hm0 hp
 have hTr : TrOk ⟨b.seq, lastI b.seq b.recs.length, b.base⟩ := tr_ok hs ok.seq1 hrn ok.recs ok.base0 ok.base1
 have hnext : ∀ y, (oldLast p known b).getLast? = some y → TrNext y ⟨b.seq, lastI b.seq b.recs.length, b.base⟩ := fun y hy => by
  refine ⟨o3 y (List.mem_of_getLast? hy), ?_⟩
  by_cases hk : known = true ∧ p.epoch = b.epoch
  rotate_left
  · have hol : oldLast p known b = [] := by unfold oldLast; rw [if_neg hk]
    rw [hol] at hy
    cases hy
  have hol : oldLast p known b = p.last := by unfold oldLast; rw [if_pos hk]
  rw [hol] at hy
  have hne : p.last ≠ [] := fun e => by rw [e] at hy; cases hy
  have hls : lastSeq p.last = y.l := by unfold lastSeq; rw [hy]
  unfold checkD at hc hn
  rw [if_neg hm, if_neg (by rw [hk.1]; decide), if_neg (by omega), if_neg (by omega)] at hc hn
  cases hd : dupL p.last b.seq b.recs.length with
  | some n =>
    rw [hd] at hn
    have hn : n < 0 := hn
    obtain ⟨x, hx, hxb⟩ := dup_mem hd
    obtain ⟨j, hj⟩ := List.mem_iff_getElem?.1 hx
    have := ((h hk.1).right.2 j x hj).1.2.2.1
    omega
  | none =>
    rw [hd] at hc
    have hc : (if p.last ≠ [] ∧ followsB (lastSeq p.last) b.seq = false then ((-1 : Int), (15 : Int)) else if 0 ≤ p.opn ∧ b.txn = false then (-1, 16) else (-1, 0)).2 = 0 := hc
    split at hc
    · cases hc
    rename_i h3
    show followsB y.l b.seq = true
    rw [← hls]
    cases hf : followsB (lastSeq p.last) b.seq with
    | true => rfl
    | false => exact absurd ⟨hne, hf⟩ h3
 have hlen : (newLast (oldLast p known b) ⟨b.seq, lastI b.seq b.recs.length, b.base⟩).length ≤ 5 := by
  unfold newLast
  rw [List.length_drop, List.length_append, List.length_singleton]
  omega
 refine ⟨⟨⟨hp, hep, ok.epoch1, ?_, ?_, hlen⟩, ?_⟩, ?_⟩
 · show -1 ≤ (if b.txn = true ∧ oldOpen p known < 0 then b.base else oldOpen p known)
   have := ok.base0
   split <;> omega
 · show (if b.txn = true ∧ oldOpen p known < 0 then b.base else oldOpen p known) ≤ _
   have := ok.base1
   split <;> omega
 · exact step_drop (step_snoc o1 hTr hnext) _
 intro x hx
 have hx := List.mem_of_mem_drop hx
 rcases List.mem_append.1 hx with hx | hx
 · have := o3 x hx; omega
 rw [List.mem_singleton] at hx
 rw [hx]
 exact he
theorem row_states {start : Int} {bs : List Bat} (h : RowD start bs) (h0 : 0 ≤ start) (h1 : start ≤ 1099511627776) : Asc (foldP [] bs) ∧ ∀ p ∈ foldP [] bs, StOk (endD start bs) p ∧ In64 p.id := by
 induction h with
 | nil => exact ⟨List.Pairwise.nil, fun p hp => by cases hp⟩
 | @snoc l b hl hb hw hc hn he ih =>
   obtain ⟨ha, hs⟩ := ih
   have hr := tcheck_right hc
   have hcd : 0 ≤ countD b := by unfold countD; split <;> omega
   have hend : endD start (l ++ [b]) = b.base + countD b := end_last (by simp)
   rw [foldP_snoc]
   refine ⟨tapply_asc ha b, ?_⟩
   by_cases hp : b.prod < 0
   · rw [tapply_no (Or.inr hp)]
     intro p hm
     exact ⟨(hs p hm).1.up (by rw [hend, hb]; omega), (hs p hm).2⟩
   have hp : 0 ≤ b.prod := by omega
   unfold tcheckD at hc hn
   rw [if_neg (fun h => h hr), if_neg (by omega)] at hc hn
   have hlk := has_look ha b.prod
   rw [hlk.1, hlk.2] at hc hn
   rw [tapply_ins ha b hr hp]
   have hpos : 0 < countD b := by
    unfold countD
    split
    · omega
    rename_i h1
    have := (data_ok hr (Classical.byContradiction fun h => h1 h) hp).2
    omega
   intro p hm
   rcases ins_ids _ _ _ hm with e | e
   rotate_left
   · exact ⟨(hs p e).1.up (by rw [hend, hb]; omega), (hs p e).2⟩
   rw [e]
   refine ⟨apply_ok (fun hk => ?_) hr hp hc hn (by rw [hend]; omega), ?_⟩
   · obtain ⟨q, hq⟩ := Option.isSome_iff_exists.1 hk
     rw [hq]
     rw [hb]
     exact (hs q (look_id hq).2).1
   rw [apply_id]
   exact hw.prod
end Go.SnapMath
namespace Go.SnapMath
open Go.ProdMath
open Go.BatMath (In64 Bat)
theorem tapply_len (l : List Pd) (b : Bat) : (tapplyD l b).length ≤ l.length + 1 := by
 unfold tapplyD
 split
 · omega
 split
 · rw [List.length_set]; omega
 rw [List.length_append, List.length_cons, List.length_take, List.length_drop]
 have := atD_le l b.prod
 omega
theorem fold_len : ∀ (bs : List Bat) (l : List Pd), (foldP l bs).length ≤ l.length + bs.length
 | [], l => Nat.le_refl _
 | b :: bs, l => by
   have h1 := fold_len bs (tapplyD l b)
   have h2 := tapply_len l b
   show (foldP (tapplyD l b) bs).length ≤ _
   rw [List.length_cons]
   omega
end Go.SnapMath
namespace Go.AbMath
open Go.ProdMath
open Go.SnapMath
open Go.BatMath (In64 Bat)
def DrOk (d : Dr) : Prop := 0 ≤ d.prod ∧ 0 ≤ d.first ∧ d.first < d.last ∧ d.last ≤ 1099511627776
def AscL (l : List Dr) : Prop := l.Pairwise fun a b => a.last < b.last
def lastD (l : List Dr) : Int := match l.getLast? with
 | none => -1
 | some d => d.last
def okD (z : Int) (d : Dr) : Prop := DrOk d ∧ z < d.last
instance (d : Dr) : Decidable (DrOk d) := by unfold DrOk; infer_instance
instance (z : Int) (d : Dr) : Decidable (okD z d) := by unfold okD; infer_instance
def withinD (l : List Dr) (a b : Int) : List Dr := l.filter fun d => decide (a < b ∧ d.first < b ∧ a ≤ d.last)
structure DrsOk (l : List Dr) : Prop where
 each : ∀ d ∈ l, DrOk d
 asc : AscL l
theorem DrsOk.nil : DrsOk [] := ⟨fun d h => (by cases h), List.Pairwise.nil⟩
theorem lastD_snoc (l : List Dr) (d : Dr) : lastD (l ++ [d]) = d.last := by unfold lastD; rw [List.getLast?_append, List.getLast?_singleton]; rfl
theorem lastD_lt {l : List Dr} (h : DrsOk l) {z : Int} (hz : -1 < z) : lastD l < z ↔ ∀ d ∈ l, d.last < z := by
 rcases List.eq_nil_or_concat l with e | ⟨i, q, e⟩
 · subst e
   exact ⟨fun _ d hd => (by cases hd), fun _ => hz⟩
 rw [List.concat_eq_append] at e
 subst e
 rw [lastD_snoc]
 refine ⟨fun hq d hd => ?_, fun hall => hall q (by simp)⟩
 rcases List.mem_append.1 hd with hd | hd
 · have := (List.pairwise_append.1 h.asc).2.2 d hd q (by simp)
   omega
 rw [List.mem_singleton.1 hd]; exact hq
theorem DrsOk.snoc {l : List Dr} (h : DrsOk l) {d : Dr} (hd : okD (lastD l) d) : DrsOk (l ++ [d]) := by
 have h1 := (lastD_lt h (z := d.last) (by have := hd.1; unfold DrOk at this; omega)).1 hd.2
 refine ⟨fun x hx => ?_, List.pairwise_append.2 ⟨h.asc, List.pairwise_singleton _ _, fun a ha b hb => by rw [List.mem_singleton.1 hb]; exact h1 a ha⟩⟩
 rcases List.mem_append.1 hx with hx | hx
 · exact h.each x hx
 rw [List.mem_singleton.1 hx]; exact hd.1
theorem tdrop_is {l : List Pd} {b : Bat} {d : Dr} (ha : Asc l) (h : tdropD l b = some d) : 0 ≤ b.prod ∧ ∃ p ∈ l, 0 ≤ p.opn ∧ d = ⟨b.prod, p.opn, b.base⟩ := by
 unfold tdropD at h
 split at h
 · cases h
 rename_i h1
 split at h
 · rename_i h2
   unfold dropsB at h2
   simp only [Bool.and_eq_true, decide_eq_true_eq] at h2
   obtain ⟨h3, _, h4⟩ := h2
   have hlk := has_look ha b.prod
   rw [hlk.1] at h3
   obtain ⟨p, hp⟩ := Option.isSome_iff_exists.1 h3
   rw [hlk.2, hp] at h h4
   refine ⟨by omega, p, (look_id hp).2, h4, ?_⟩
   exact (Option.some.inj h).symm
 cases h
theorem drops_len : ∀ (bs : List Bat) (l : List Pd), (foldR l bs).length ≤ bs.length
 | [], l => Nat.le_refl _
 | b :: bs, l => by
   have h := drops_len bs (tapplyD l b)
   show ((tdropD l b).toList ++ foldR (tapplyD l b) bs).length ≤ _
   rw [List.length_append, List.length_cons]
   have h2 : (tdropD l b).toList.length ≤ 1 := by cases tdropD l b <;> simp
   omega
end Go.AbMath
namespace Go.Proofs.YtjmfdildnojknaaGreat
open Go.RowKit
open Go.SeqMath
theorem seq_wrap (n : Int) (w : World) (v : Int) (h0 : -2147483648 ≤ n) (h1 : n ≤ 4294967295) (hv : n % 2147483648 = v) :
 Calls Tryz.prog 181 #[.int .i64 n] w fun e w' => e = .returned (.int .i64 v) ∧ w = w' := by
 have HV := qh hv
 clear hv
 go_enter Tryz.func181, Tryz.ntmps181
 go_wp2
 go_ret
 exact ⟨seq_ret (by have := HV.out; omega), rfl⟩
theorem seq_add (n k : Int) (w : World) (v : Int) (k0 : -9223372036854775808 ≤ k) (k1 : k ≤ 9223372036854775807) (hv : addI n k = v) :
 Calls Tryz.prog 171 #[.int .i64 n, .int .i64 k] w fun e w' => e = .returned (.int .i64 v) ∧ w = w' := by
 rcases hr : rightB n with _ | _
 · have HV : Hid (v = -1) := by show _ = _; rw [← hv, add_no hr]
   have HR := qh hr
   clear hv hr
   go_enter Tryz.func171, Tryz.ntmps171
   go_wp2_with (go_at_call 109; refine (seq_right n _ false HR.out).mono ?_; rintro e w' ⟨rfl, rfl⟩)
   go_ret
   exact ⟨seq_ret HV.out.symm, rfl⟩
 obtain ⟨n0, n1⟩ := of_right hr
 have HV : Hid ((n + k) % 2147483648 = v) := by show _ = _; rw [← hv, add_yes n0 n1]
 have HR := qh hr
 clear hv hr
 by_cases hk : 0 ≤ k
 · go_enter Tryz.func171, Tryz.ntmps171
   go_wp2_with (first | (go_at_call 109; refine (seq_right n _ true HR.out).mono ?_; rintro e w' ⟨rfl, rfl⟩) | (go_at_call 181; refine (seq_wrap _ _ v (by omega) (by omega) (by have := HV.out; omega)).mono ?_; rintro e w' ⟨rfl, rfl⟩))
   go_ret
   exact ⟨rfl, rfl⟩
 have hk' : k < 0 := by omega
 obtain ⟨t, ht⟩ := exq (k.tmod 2147483648)
 have ht2 : t = -((-k) % 2147483648) := by
  rw [ht, ← Int.tmod_eq_emod_of_nonneg (by omega : 0 ≤ -k), Int.neg_tmod, Int.neg_neg]
 have HT : Hid (k.tmod 2147483648 = t) := ht.symm
 have HT2 := qh ht2
 have t0 : -2147483648 < t := by omega
 have t1 : t ≤ 0 := by omega
 have htt := HT.out
 clear ht ht2
 go_enter Tryz.func171, Tryz.ntmps171
 go_wp2_with (first | (go_at_call 109; refine (seq_right n _ true HR.out).mono ?_; rintro e w' ⟨rfl, rfl⟩) | (go_at_call 181; refine (seq_wrap _ _ v (by omega) (by omega) (by have := HV.out; have := HT2.out; omega)).mono ?_; rintro e w' ⟨rfl, rfl⟩))
 go_ret
 exact ⟨rfl, rfl⟩
theorem seq_last (n c : Int) (w : World) (v : Int) (c0 : -9223372036854775808 ≤ c) (c1 : c ≤ 9223372036854775807) (hv : lastI n c = v) :
 Calls Tryz.prog 152 #[.int .i64 n, .int .i64 c] w fun e w' => e = .returned (.int .i64 v) ∧ w = w' := by
 by_cases h0 : c < 1
 · have HV : Hid (v = -1) := by show _ = _; rw [← hv, last_no (.inl h0)]
   clear hv
   go_enter Tryz.func152, Tryz.ntmps152
   go_wp2
   go_ret
   exact ⟨seq_ret HV.out.symm, rfl⟩
 have h0' : 1 ≤ c := by omega
 by_cases h1 : 16 < c
 · have HV : Hid (v = -1) := by show _ = _; rw [← hv, last_no (.inr h1)]
   clear hv
   go_enter Tryz.func152, Tryz.ntmps152
   go_wp2
   go_ret
   exact ⟨seq_ret HV.out.symm, rfl⟩
 have h1' : c ≤ 16 := by omega
 have HV : Hid (addI n (c - 1) = v) := by show _ = _; rw [← hv, last_yes h0' h1']
 clear hv
 go_enter Tryz.func152, Tryz.ntmps152
 go_wp2_with (go_at_call 171; refine (seq_add n _ _ v (by omega) (by omega) HV.out).mono ?_; rintro e w' ⟨rfl, rfl⟩)
 go_ret
 exact ⟨rfl, rfl⟩
theorem seq_follows (l f : Int) (w : World) (r : Bool) (hr : followsB l f = r) :
 Calls Tryz.prog 170 #[.int .i64 l, .int .i64 f] w fun e w' => e = .returned (.bool r) ∧ w = w' := by
 by_cases hl : l = -1
 · subst hl
   rw [follows_none] at hr
   by_cases hf : f = 0
   · subst hf
     obtain rfl : r = true := by rw [← hr]; rfl
     clear hr
     go_enter Tryz.func170, Tryz.ntmps170
     go_wp2
     go_ret
     exact ⟨rfl, rfl⟩
   obtain rfl : r = false := by rw [← hr]; exact decide_eq_false hf
   have hf1 : (f == 0) = false := by simpa using hf
   clear hr
   go_enter Tryz.func170, Tryz.ntmps170
   go_wp2
   go_ret
   exact ⟨rfl, rfl⟩
 have hl1 : (l == -1) = false := by simpa using hl
 rcases hq : rightB l with _ | _
 · obtain rfl : r = false := by rw [← hr, follows_no hl hq]
   have HQ := qh hq
   clear hr hq
   go_enter Tryz.func170, Tryz.ntmps170
   go_wp2_with (go_at_call 109; refine (seq_right l _ false HQ.out).mono ?_; rintro e w' ⟨rfl, rfl⟩)
   go_ret
   exact ⟨rfl, rfl⟩
 obtain ⟨l0, l1⟩ := of_right hq
 rw [follows_yes l0 l1] at hr
 obtain ⟨v, hv⟩ : ∃ v, addI l 1 = v := ⟨_, rfl⟩
 rw [hv] at hr
 have HV := qh hv
 have HQ := qh hq
 by_cases hf : f = v
 · subst hf
   obtain rfl : r = true := by rw [← hr]; exact decide_eq_true rfl
   clear hr hv hq
   go_enter Tryz.func170, Tryz.ntmps170
   go_wp2_with (first | (go_at_call 109; refine (seq_right l _ true HQ.out).mono ?_; rintro e w' ⟨rfl, rfl⟩) | (go_at_call 171; refine (seq_add l _ _ f (by omega) (by omega) HV.out).mono ?_; rintro e w' ⟨rfl, rfl⟩))
   go_ret
   exact ⟨rfl, rfl⟩
 obtain rfl : r = false := by rw [← hr]; exact decide_eq_false hf
 have hf1 : (f == v) = false := by simpa using hf
 clear hr hv hq
 go_enter Tryz.func170, Tryz.ntmps170
 go_wp2_with (first | (go_at_call 109; refine (seq_right l _ true HQ.out).mono ?_; rintro e w' ⟨rfl, rfl⟩) | (go_at_call 171; refine (seq_add l _ _ v (by omega) (by omega) HV.out).mono ?_; rintro e w' ⟨rfl, rfl⟩))
 go_ret
 exact ⟨rfl, rfl⟩
end Go.Proofs.YtjmfdildnojknaaGreat
namespace Go.Proofs.YtjmfdildnojknaaGreat
open Go.RowKit
open Go.SeqMath
open Go.ProdMath
open Go.BatMath hiding AllB getD_lt take_all
theorem eq_three (a b c d e f : Int) (w : World) : (Op.equalIn 10000 59 (.agg #[.int .i64 a, .int .i64 b, .int .i64 c]) (.agg #[.int .i64 d, .int .i64 e, .int .i64 f])).run Tryz.prog w = .ok (a == d && (b == e && c == f)) w := by
 have u3 := Tryz.underlying2
 have a3 := Tryz.isAgg2
 have z3 := Tryz.sizeOf2
 rw [show (10000 : Nat) = 9999 + 1 from rfl, Op.equalIn]
 simp only [Sem.run_bind, run_underlying Tryz.underlying59, Result.andThen_ok]
 simp only [Std.Legacy.Range.forIn_eq_forIn_range', Std.Legacy.Range.size, Nat.sub_zero, Nat.add_sub_cancel, Nat.div_one, List.range'_succ, List.range'_zero, List.forIn_cons, List.forIn_nil]
 go_simp
 by_cases h1 : a = d <;> by_cases h2 : b = e <;> by_cases h3 : c = f <;> simp [h1, h2, h3]
theorem guard_three : Tryz.prog.eqGuardType Tryz.prog.depth 59 = false := by kernel_rfl
theorem neq_three (a b c d e f : Int) (r : Bool) (hr : (a == d && (b == e && c == f)) = r) (w : World) : (binOp .neq 59 (.agg #[.int .i64 a, .int .i64 b, .int .i64 c]) (.agg #[.int .i64 d, .int .i64 e, .int .i64 f])).run Tryz.prog w = .ok (.bool (!r)) w := by
 rw [run_neq_struct, eq_three, hr]; rfl
theorem prOpen_any (w : World) (id ep op : Int) (ad : Option Addr) (n cap : Nat) (r : Bool) (hr : decide (0 ≤ op) = r) :
 Calls Tryz.prog 135 #[.agg #[.int .i64 id, .int .i64 ep, .slice ad n cap, .int .i64 op]] w fun e w' => e = .returned (.bool r) ∧ Below w.heap.size w w' := by
 have HR := qh hr
 clear hr
 obtain ⟨W0, hW0⟩ : ∃ W0, W0 = (w.alloc (.cells #[.int .i64 id, .int .i64 ep, .slice ad n cap, .int .i64 op] 58)) := ⟨_, rfl⟩
 have HB0 := hwq hW0
 have HP0 : Hid (PBox W0 w.heap.size (id) (ep) (.slice ad n cap) (op)) := by
  show PBox _ w.heap.size (id) (ep) (.slice ad n cap) (op)
  rw [hW0]
  have h1 := pbox_new w (id) (ep) (.slice ad n cap) (op)
  simpa using h1
 have HW0 := qh hW0
 clear hW0
 obtain ⟨B1, hB1⟩ := exq w.heap.size
 rw [← hB1] at HP0
 go_enter Tryz.func135, Tryz.ntmps135
 go_upto_region 1 with fail
 rw [← HW0.out, ← hB1]
 clear HW0 hB1
 have q3 := HP0.out.c3
 go_wp2
 go_ret
 exact ⟨by rw [← HR.out]; rfl, HB0.out⟩
theorem prEnd_any (w : World) (b0 b1 b2 b3 : Int) (b4 : Bool) (b5 : Int) (rd : Option Addr) (rn rc : Nat) (hm : b5 = 0) (hrn : rn ≤ 140737488355328) (v : Int) (hv : lastI b3 rn = v) :
 Calls Tryz.prog 134 #[.agg #[.int .i64 b0, .int .i64 b1, .int .i64 b2, .int .i64 b3, .bool b4, .int .i64 b5, .slice rd rn rc]] w fun e w' => e = .returned (.int .i64 v) ∧ Below w.heap.size w w' := by
 have HM := qh hm
 have HV := qh hv
 clear hm hv
 obtain ⟨W0, hW0⟩ : ∃ W0, W0 = (w.alloc (.cells #[.int .i64 b0, .int .i64 b1, .int .i64 b2, .int .i64 b3, .bool b4, .int .i64 b5, .slice rd rn rc] 29)) := ⟨_, rfl⟩
 have HB0 := hwq hW0
 have HX0 : Hid (BoxAt W0 w.heap.size b0 b1 b2 b3 b4 b5 (.slice rd rn rc)) := by
  show BoxAt _ w.heap.size b0 b1 b2 b3 b4 b5 (.slice rd rn rc)
  rw [hW0]
  have h1 := boxAt_new w b0 b1 b2 b3 b4 b5 (.slice rd rn rc)
  simpa using h1
 have HW0 := qh hW0
 clear hW0
 obtain ⟨B1, hB1⟩ := exq w.heap.size
 rw [← hB1] at HX0
 go_enter Tryz.func134, Tryz.ntmps134
 go_upto_region 1 with fail
 rw [← HW0.out, ← hB1]
 clear HW0 hB1
 have KS : Hid (∀ W, Below W0.heap.size W0 W → (fun (W : World) => W.cell? ⟨B1, 0, none⟩ = some (.int .i64 b0) ∧ W.cell? ⟨B1, 1, none⟩ = some (.int .i64 b1) ∧ W.cell? ⟨B1, 2, none⟩ = some (.int .i64 b2) ∧ W.cell? ⟨B1, 3, none⟩ = some (.int .i64 b3) ∧ W.cell? ⟨B1, 4, none⟩ = some (.bool b4) ∧ W.cell? ⟨B1, 5, none⟩ = some (.int .i64 b5) ∧ W.cell? ⟨B1, 6, none⟩ = some (.slice rd rn rc) ∧ Below W0.heap.size W0 W) W) := by
  intro W hW
  have hX := HX0.out.on hW
  exact ⟨hX.c0, hX.c1, hX.c2, hX.c3, hX.c4, hX.c5, hX.c6, hW⟩
 refine wp_region_noPanic ?_
 refine zk [] KS ?_
 have hHeld := KS.out _ (Below.refl _ W0).drew
 obtain ⟨u0, hu0⟩ := exq W0.drew
 have HU0 : Hid (Below W0.heap.size W0 u0) := by rw [hu0]; exact (Below.refl _ W0).drew
 rw [← hu0] at hHeld
 rw [← hu0]
 clear hu0
 refine zt 0 ?_
 refine zt 1 ?_
 refine zt 2 ?_
 refine zr 3 (fun C hC => ?_)
 go_simp
 refine (batCount_any u0 b0 b1 b2 b3 b4 b5 rd rn rc (rn : Int) (by rw [if_neg (fun h => h HM.out)])).mono ?_
 rintro e u1 ⟨rfl, hb1⟩
 have HU1 := qh (HU0.out.trans (hb1.mono HU0.out.size))
 clear hb1
 go_wp2_with fail
 have hHeld := KS.out _ HU1.out
 refine zc hC hHeld ?_
 clear hC C
 refine zr 4 (fun C hC => ?_)
 go_simp
 refine (seq_last b3 rn u1 v (by omega) (by omega) HV.out).mono ?_
 rintro e u2 ⟨rfl, rfl⟩
 go_wp2_with fail
 have hHeld := hq KS _ (hHeld)
 refine zc hC hHeld ?_
 clear hC C
 refine zt 5 ?_
 refine zd ?_
 clear hHeld
 go_wp2
 go_ret
 exact ⟨rfl, HB0.out.trans (HU1.out.mono HB0.out.size)⟩
def GivesBool (w : World) (r : Bool) (e : Ending) (w' : World) : Prop := e = .returned (.bool r) ∧ Below w.heap.size w w'
theorem gives_bool {w w' : World} {r k : Bool} (h : r = k) (hb : Below w.heap.size w w') : GivesBool w r (.returned (.bool k)) w' := ⟨by rw [h], hb⟩
end Go.Proofs.YtjmfdildnojknaaGreat
namespace Go.Proofs.YtjmfdildnojknaaGreat
open Go.RowKit
open Go.AbMath
open Go.ProdMath
open Go.BatMath hiding AllB getD_lt take_all
theorem dr_get {w : World} {ad : Option Addr} {len cap : Nat} {l : List Dr} (h : RowAt drK w ad len cap l) {i : Nat} (hi : i < len) : ∃ b off x, ad = some ⟨b, off, none⟩ ∧ b < w.heap.size ∧ l[i]? = some x ∧ w.cell? ⟨b, off + i * 3, none⟩ = some (.int .i64 x.prod) ∧ w.cell? ⟨b, off + i * 3 + 1, none⟩ = some (.int .i64 x.first) ∧ w.cell? ⟨b, off + i * 3 + 2, none⟩ = some (.int .i64 x.last) := by
 obtain ⟨b, off, x, e, hb, hx, hc⟩ := h.get hi
 exact ⟨b, off, x, e, hb, hx, hc 0 _ rfl, hc 1 _ rfl, hc 2 _ rfl⟩
def GivesDrs (w : World) (l : List Dr) (e : Ending) (w' : World) : Prop := ∃ ad n cap, e = .returned (.slice ad n cap) ∧ RowAt drK w' ad n cap l ∧ Below w.heap.size w w'
theorem within_take {l : List Dr} {j : Nat} {x : Dr} (a b : Int) (h : l[j]? = some x) : withinD (l.take (j + 1)) a b = withinD (l.take j) a b ++ (if a < b ∧ x.first < b ∧ a ≤ x.last then [x] else []) := by
 unfold withinD
 rw [List.take_add_one, h, List.filter_append]
 congr 1
 show List.filter _ [x] = _
 by_cases hc : a < b ∧ x.first < b ∧ a ≤ x.last
 · rw [if_pos hc, List.filter_cons_of_pos (by simpa using hc)]; rfl
 rw [if_neg hc, List.filter_cons_of_neg (by simpa using hc)]; rfl
theorem within_len (l : List Dr) (a b : Int) : (withinD l a b).length ≤ l.length := List.length_filter_le _ _
end Go.Proofs.YtjmfdildnojknaaGreat
namespace Go.Proofs.YtjmfdildnojknaaGreat
open Go.ProdMath
theorem least_nil : IsLeast [] (-1) := .inl ⟨rfl, fun p hp => by cases hp⟩
theorem least_perm {l l' : List Pd} {v : Int} (h : IsLeast l v) (hp : l.Perm l') : IsLeast l' v := by
 rcases h with ⟨e, h⟩ | ⟨h0, ⟨p, hpm, hv⟩, hm⟩
 · exact .inl ⟨e, fun p h2 => h p (hp.mem_iff.2 h2)⟩
 exact .inr ⟨h0, ⟨p, hp.mem_iff.1 hpm, hv⟩, fun q hq => hm q (hp.mem_iff.2 hq)⟩
theorem least_low {l : List Pd} {v : Int} (h : IsLeast l v) : v = -1 ∨ 0 ≤ v := by
 rcases h with ⟨e, _⟩ | ⟨h0, _⟩
 · exact .inl e
 exact .inr h0
theorem least_skip {l : List Pd} {v : Int} {p : Pd} (h : IsLeast l v) (hp : p.opn < 0 ∨ (v ≠ -1 ∧ v ≤ p.opn)) : IsLeast (l ++ [p]) v := by
 rcases h with ⟨e, h⟩ | ⟨h0, ⟨q, hq, hv⟩, hm⟩
 · refine .inl ⟨e, fun q hq => ?_⟩
   rcases List.mem_append.1 hq with hq | hq
   · exact h q hq
   rw [List.mem_singleton.1 hq]
   rcases hp with h1 | h1
   · exact h1
   exact absurd e h1.1
 refine .inr ⟨h0, ⟨q, List.mem_append.2 (.inl hq), hv⟩, fun q2 hq2 h2 => ?_⟩
 rcases List.mem_append.1 hq2 with hq2 | hq2
 · exact hm q2 hq2 h2
 rw [List.mem_singleton.1 hq2] at h2 ⊢
 rcases hp with h1 | h1
 · omega
 exact h1.2
theorem least_take {l : List Pd} {v : Int} {p : Pd} (h : IsLeast l v) (hp : 0 ≤ p.opn) (hv : v = -1 ∨ p.opn ≤ v) : IsLeast (l ++ [p]) p.opn := by
 refine .inr ⟨hp, ⟨p, by simp, rfl⟩, fun q hq h2 => ?_⟩
 rcases List.mem_append.1 hq with hq | hq
 · rcases h with ⟨e, h⟩ | ⟨h0, _, hm⟩
   · have := h q hq; omega
   have := hm q hq h2
   rcases hv with hv | hv
   · omega
   omega
 rw [List.mem_singleton.1 hq]; omega
end Go.Proofs.YtjmfdildnojknaaGreat
namespace Go.Proofs.YtjmfdildnojknaaGreat
open Go.RowKit
open Go.SeqMath
open Go.ProdMath
open Go.BatMath hiding AllB getD_lt take_all
def GivesTabOpen (w : World) (l : List Pd) (e : Ending) (w' : World) : Prop := ∃ v, IsLeast l v ∧ e = .returned (.tuple #[.int .i64 v, .bool (decide (0 ≤ v))]) ∧ Below w.heap.size w w'
theorem tabOpen_any (w : World) (kt : Nat) (ad : Option Addr) (len cap : Nat) (ms : List PM) (h : TabAt w kt ad len cap ms) (hL : len ≤ 1000000) :
 Calls Tryz.prog 59 #[.pointer (some ⟨kt, 0, none⟩)] w (GivesTabOpen w (pds ms)) := by
 have H := qh h
 have hlen := h.pds.row.length
 have HLEN := qh hlen
 have t0 := h.box.c0
 clear h hlen
 go_enter Tryz.func59, Tryz.ntmps59
 go_wp2
 clear t0
 go_loopw [4, 12] (fun v4 v12 wr => ∃ (v : Int) (j : Nat), v4 = .int .i64 v ∧ v12 = .int .i64 (j : Int) ∧ j ≤ len ∧ Hid (IsLeast ((pds ms).take j) v) ∧ Hid (Below w.heap.size w wr)) (fun _ v12 _ => len - (intOf v12).toNat)
 case atStart => exact ⟨-1, 0, rfl, rfl, Nat.zero_le _, least_nil, Below.refl _ _⟩
 obtain ⟨v, j, rfl, rfl, hj, HLE, HB⟩ := hrel
 obtain ⟨wo, hwo⟩ := exq wr
 subst hwo
 by_cases hlt : j < len
 rotate_left
 · have hd : decide (j < len) = false := decide_eq_false hlt
   have HFIN : Hid (IsLeast (pds ms) v) := by
    have h1 := HLE.out
    have h2 := HLEN.out
    rw [List.take_of_length_le (by unfold pds; rw [List.length_map]; omega)] at h1
    exact h1
   go_wp2
   go_ret2
   exact ⟨v, HFIN.out, rfl, HB.out⟩
 have hd : decide (j < len) = true := decide_eq_true hlt
 have hjl : (j : Int) < (len : Int) := by omega
 obtain ⟨bk, off, m, rfl, hbk, hm, hla, c0, c1, c2, c3⟩ := (H.out.keep HB.out).pds.get hlt
 have htk : (pds ms).take (j + 1) = (pds ms).take j ++ [m.p] := by
  have : (pds ms)[j]? = some m.p := by unfold pds; rw [List.getElem?_map, hm]; rfl
  rw [List.take_add_one, this]; rfl
 have HTK := qh htk
 obtain ⟨⟨pid, pep, pl, po⟩, pd, pc⟩ := m
 simp only at c0 c1 c2 c3 HTK
 obtain ⟨pn, hpn⟩ := exq pl.length
 rw [← hpn] at c2
 clear htk hm hla hbk hpn
 go_upto_region 5 with fail
 obtain ⟨W1, hW1⟩ := exq (wo.alloc (.cells #[.int .i64 pid, .int .i64 pep, .slice pd pn pc, .int .i64 po] 58))
 obtain ⟨P, hP⟩ := exq wo.heap.size
 have HP1 : Hid (PBox W1 P pid pep (.slice pd pn pc) po) := by rw [hW1, hP]; exact pbox_new wo _ _ _ _
 have HB1 : Hid (Below w.heap.size w W1) := by rw [hW1]; exact HB.out.trans ((bal _ _).mono HB.out.size)
 rw [← hW1, ← hP]
 clear hW1 hP c0 c1 c2 c3
 have q3 := HP1.out.c3
 by_cases ho : 0 ≤ po
 rotate_left
 · have hd1 : decide (0 ≤ po) = false := decide_eq_false ho
   have HL2 : Hid (IsLeast ((pds ms).take (j + 1)) v) := by
    show IsLeast _ _
    rw [HTK.out]
    exact least_skip (p := ⟨pid, pep, pl, po⟩) HLE.out (.inl (by show po < 0; omega))
   clear ho
   go_wp2
   go_roundw
   case rel => exact ⟨v, j + 1, rfl, rfl, by omega, HL2.out, HB1.out⟩
   simp [intOf]; omega
 have hd1 : decide (0 ≤ po) = true := decide_eq_true ho
 have HOO := qh ho
 by_cases hv : v < 0
 · have hd2 : decide (v < 0) = true := decide_eq_true hv
   have HL2 : Hid (IsLeast ((pds ms).take (j + 1)) po) := by
    show IsLeast _ _
    rw [HTK.out]
    have hv1 : v = -1 := by rcases least_low HLE.out with h | h <;> omega
    exact least_take (p := ⟨pid, pep, pl, po⟩) HLE.out HOO.out (.inl hv1)
   clear hv ho
   go_wp2
   go_roundw
   case rel => exact ⟨po, j + 1, rfl, rfl, by omega, HL2.out, HB1.out⟩
   simp [intOf]; omega
 have hd2 : decide (v < 0) = false := decide_eq_false hv
 by_cases hpv : po < v
 · have hd3 : decide (po < v) = true := decide_eq_true hpv
   have HL2 : Hid (IsLeast ((pds ms).take (j + 1)) po) := by
    show IsLeast _ _
    rw [HTK.out]
    exact least_take (p := ⟨pid, pep, pl, po⟩) HLE.out HOO.out (.inr (Int.le_of_lt hpv))
   clear hv ho hpv
   go_wp2
   go_roundw
   case rel => exact ⟨po, j + 1, rfl, rfl, by omega, HL2.out, HB1.out⟩
   simp [intOf]; omega
 have hd3 : decide (po < v) = false := decide_eq_false hpv
 have HL2 : Hid (IsLeast ((pds ms).take (j + 1)) v) := by
  show IsLeast _ _
  rw [HTK.out]
  exact least_skip (p := ⟨pid, pep, pl, po⟩) HLE.out (.inr ⟨by omega, by show v ≤ po; omega⟩)
 clear hv ho hpv
 go_wp2
 go_roundw
 case rel => exact ⟨v, j + 1, rfl, rfl, by omega, HL2.out, HB1.out⟩
 simp [intOf]; omega
end Go.Proofs.YtjmfdildnojknaaGreat
namespace Go.Proofs.YtjmfdildnojknaaGreat
open Go.RowKit
open Go.FoMath
open Go.ProdMath
open Go.BatMath hiding AllB getD_lt take_all
def GivesI (w : World) (v : Int) (e : Ending) (w' : World) : Prop := e = .returned (.int .i64 v) ∧ Below w.heap.size w w'
structure FoRow (start : Int) (bs : List Bat) : Prop where
 ok : RowOk bs
 least : IsLeast (foldP [] bs) (firstOpen bs)
 chain : Chain (endD start bs) bs
 few : GotsOk bs
theorem refStable_any (w : World) (start : Int) (ad : Option Addr) (len cap : Nat) (ms : List BM) (h : BatsAt w ad len cap ms) (hL : len ≤ 5000) (hr : FoRow start (bats ms)) :
 Calls Tryz.prog 28 #[.int .i64 start, .slice ad len cap] w (GivesI w (stableD start (bats ms))) := by
 have H := qh h
 have HR := qh hr
 have HLL : Hid (len ≤ 5000) := hL
 clear h hr hL
 go_enter Tryz.func28, Tryz.ntmps28
 go_wp2_with fail
 refine (fold_any w ad len cap ms H.out (Nat.le_trans HLL.out (by decide)) (batsOk_of HR.out.ok)).mono ?_
 rintro e w1 ⟨kt, ta, tn, tc, ps, dd, dn, dc, rfl, htab, hps, -, -, hb⟩
 have HT := qh htab
 have HPS := qh hps
 have HB1 := qh hb
 have HTN : Hid (tn ≤ 1000000) := by
  show _ ≤ _
  have h1 := SnapMath.fold_len (bats ms) []
  have h2 : (bats ms).length = len := by unfold bats; rw [List.length_map]; exact H.out.row.length
  have h3 : ps.length = tn := htab.tab.pds.row.length
  have h4 := congrArg List.length hps
  unfold pds at h4
  rw [List.length_map] at h4
  have h5 := HLL.out
  rw [h2, List.length_nil] at h1
  omega
 clear htab hps hb
 go_wp2_with fail
 refine (tabOpen_any w1 kt ta tn tc ps HT.out.tab HTN.out).mono ?_
 rintro e w2 ⟨v, hv, rfl, hb⟩
 have HB2 := qh (HB1.out.trans (hb.mono HB1.out.size))
 rw [HPS.out] at hv
 have hvf : v = firstOpen (bats ms) := least_one hv HR.out.least
 have hlow := least_low HR.out.least
 subst hvf
 obtain ⟨f, hf⟩ := exq (firstOpen (bats ms))
 rw [← hf] at hlow ⊢
 have HF := qh hf
 clear hv hb hf
 by_cases h0 : 0 ≤ f
 · have hd : decide (0 ≤ f) = true := decide_eq_true h0
   have HS : Hid (stableD start (bats ms) = f) := by
    show stableD _ _ = _
    unfold stableD
    rw [← HF.out, if_neg (by omega)]
   clear hlow h0
   go_wp2
   go_ret
   exact ⟨by rw [HS.out]; rfl, HB2.out⟩
 have hd : decide (0 ≤ f) = false := decide_eq_false h0
 have HS : Hid (stableD start (bats ms) = endD start (bats ms)) := by
  show stableD _ _ = _
  unfold stableD
  rw [← HF.out, if_pos (by omega)]
 clear hlow h0
 go_wp2_with fail
 refine (refEnd_any w2 start ad len cap ms (H.out.keep HB2.out) (Nat.le_trans HLL.out (by decide)) HR.out.ok _ rfl).mono ?_
 rintro e w3 ⟨rfl, hb⟩
 have HB3 := qh (HB2.out.trans (hb.mono HB2.out.size))
 clear hb
 go_wp2
 go_ret
 exact ⟨by rw [HS.out]; rfl, HB3.out⟩
end Go.Proofs.YtjmfdildnojknaaGreat
namespace Go.Proofs.YtjmfdildnojknaaGreat
open Go.RowKit
open Go.FoMath
open Go.AbMath (withinD)
open Go.ProdMath
open Go.BatMath hiding AllB getD_lt take_all
structure Fd where
 recs : List Gt
 drs : List Dr
 next : Int
 stable : Int
def Fd.zero : Fd := ⟨[], [], 0, 0⟩
noncomputable def fetchD (start : Int) (bs : List Bat) (o n : Int) (only : Bool) : Fd × Int :=
 if n < 1 ∨ 64 < n then (Fd.zero, 1)
 else if o < start ∨ endD start bs < o then (Fd.zero, 20)
 else
  let top := if only = true then stableD start bs else endD start bs
  let recs := recordsD bs o top
  let nx := nextD recs n.toNat top o
  (⟨recs.take n.toNat, if only = true then withinD (foldR [] bs) o nx else [], nx, stableD start bs⟩, 0)
def FBox (w : World) (k : Nat) (v0 v1 : Value) (x2 x3 : Int) : Prop := w.heap[k]? = some (.cells #[v0, v1, .int .i64 x2, .int .i64 x3] 73 (0, 0))
section
variable {w w' : World} {k : Nat} {v0 v1 : Value} {x2 x3 : Int}
theorem FBox.c0 (h : FBox w k v0 v1 x2 x3) : w.cell? ⟨k, 0, none⟩ = some v0 := by rw [cell_of_row _ _ 0 _ _ _ h]; rfl
theorem FBox.c1 (h : FBox w k v0 v1 x2 x3) : w.cell? ⟨k, 1, none⟩ = some v1 := by rw [cell_of_row _ _ 1 _ _ _ h]; rfl
theorem FBox.c2 (h : FBox w k v0 v1 x2 x3) : w.cell? ⟨k, 2, none⟩ = some (.int .i64 x2) := by rw [cell_of_row _ _ 2 _ _ _ h]; rfl
theorem FBox.c3 (h : FBox w k v0 v1 x2 x3) : w.cell? ⟨k, 3, none⟩ = some (.int .i64 x3) := by rw [cell_of_row _ _ 3 _ _ _ h]; rfl
theorem FBox.free (h : FBox w k v0 v1 x2 x3) (j : Nat) : w.frozen? ⟨k, j, none⟩ = false := frozen_of_row w k j _ _ h
theorem FBox.lt (h : FBox w k v0 v1 x2 x3) : k < w.heap.size := lt_of_block h
theorem FBox.on (h : FBox w k v0 v1 x2 x3) (hb : Below w.heap.size w w') : FBox w' k v0 v1 x2 x3 := by
 have hlt := h.lt
 unfold FBox at *
 rw [hb.block k hlt]
 exact h
theorem FBox.off (h : FBox w k v0 v1 x2 x3) {j i : Nat} (hj : j ≠ k) (u : Value) : FBox (w.setCell ⟨j, i, none⟩ u) k v0 v1 x2 x3 := box_off h hj u
theorem FBox.s0 (h : FBox w k v0 v1 x2 x3) (u : Value) : FBox (w.setCell ⟨k, 0, none⟩ u) k u v1 x2 x3 := box_set h 0 _
theorem FBox.s1 (h : FBox w k v0 v1 x2 x3) (u : Value) : FBox (w.setCell ⟨k, 1, none⟩ u) k v0 u x2 x3 := box_set h 1 _
theorem FBox.s2 (h : FBox w k v0 v1 x2 x3) (n : Int) : FBox (w.setCell ⟨k, 2, none⟩ (.int .i64 n)) k v0 v1 n x3 := box_set h 2 _
theorem FBox.s3 (h : FBox w k v0 v1 x2 x3) (n : Int) : FBox (w.setCell ⟨k, 3, none⟩ (.int .i64 n)) k v0 v1 x2 n := box_set h 3 _
theorem fbox_new (w : World) (v0 v1 : Value) (x2 x3 : Int) : FBox (w.alloc (.cells #[v0, v1, .int .i64 x2, .int .i64 x3] 73)) w.heap.size v0 v1 x2 x3 := heap_alloc_new w _
end
theorem dr_past {w : World} {ad : Option Addr} {n cap k : Nat} {l : List Dr} {a0 a1 : Option Addr} {n0 c0 n1 c1 : Nat} {x2 x3 : Int} (h : RowAt drK w ad n cap l) (hf : FBox w k (.slice a0 n0 c0) (.slice a1 n1 c1) x2 x3) (j : Nat) (u : Value) : RowAt drK (w.setCell ⟨k, j, none⟩ u) ad n cap l := by
 by_cases hn : n = 0
 · exact ⟨h.length, h.fits, h.room, .inl hn⟩
 rcases h.cells with h0 | ⟨b, off, e, hlt, hc⟩
 · exact absurd h0 hn
 have hne : b ≠ k := fun hbk => by
  subst hbk
  have hl : 0 < l.length := by have := h.length; omega
  have h0 := hc 0 l[0] (List.getElem?_eq_getElem hl) 0 _ rfl
  have h2 := hc 0 l[0] (List.getElem?_eq_getElem hl) 2 _ rfl
  have h1 := hc 0 l[0] (List.getElem?_eq_getElem hl) 1 _ rfl
  rw [Nat.zero_mul, Nat.zero_add] at h0 h1 h2
  match off with
  | 0 => rw [Nat.zero_add, hf.c0] at h0; cases h0
  | 1 => rw [hf.c1] at h0; cases h0
  | m + 2 =>
    rw [cell_of_row _ _ _ _ _ _ hf, List.getElem?_toArray, List.getElem?_eq_none (by simp)] at h2
    cases h2
 exact h.off (fun a ha => by rw [e] at ha; cases ha; exact hne) j u
def FdAt (w : World) (v : Value) (f : Fd) : Prop := ∃ ra rn rc da dn dc, v = .agg #[.slice ra rn rc, .slice da dn dc, .int .i64 f.next, .int .i64 f.stable] ∧ RowAt gtK w ra rn rc f.recs ∧ RowAt drK w da dn dc f.drs
def GivesFd (w : World) (r : Fd × Int) (e : Ending) (w' : World) : Prop := ∃ v, e = .returned (.tuple #[v, .int .i64 r.2]) ∧ FdAt w' v r.1 ∧ Below w.heap.size w w'
end Go.Proofs.YtjmfdildnojknaaGreat
namespace Go.Proofs.YtjmfdildnojknaaGreat
open Go.RowKit
open Go.SeqMath
open Go.ProdMath
open Go.BatMath hiding AllB getD_lt take_all
structure MOk (N : Nat → Prop) (w : World) (km : Nat) (mc start : Int) (ad : Option Addr) (len cap : Nat) (ms : List BM) : Prop where
 box : MBox w km mc start (.slice ad len cap)
 bats : BatsAt w ad len cap ms
 row : ∀ a, ad = some a → km < a.block ∧ a.block < w.heap.size
 ins : ∀ m ∈ ms, ∀ a, m.ad = some a → km < a.block ∧ a.block < w.heap.size
 inN : (∀ a, ad = some a → N a.block) ∧ ∀ m ∈ ms, ∀ a, m.ad = some a → N a.block
 up : ∀ k, w.heap.size ≤ k → N k
theorem MOk.keep {N : Nat → Prop} {w w' : World} {km : Nat} {mc start : Int} {ad : Option Addr} {len cap : Nat} {ms : List BM} (h : MOk N w km mc start ad len cap ms) (hb : Below w.heap.size w w') : MOk N w' km mc start ad len cap ms :=
 ⟨h.box.on hb, h.bats.keep hb, fun a ha => ⟨(h.row a ha).1, Nat.lt_of_lt_of_le (h.row a ha).2 hb.size⟩, fun m hm a ha => ⟨(h.ins m hm a ha).1, Nat.lt_of_lt_of_le (h.ins m hm a ha).2 hb.size⟩, h.inN, fun k hk => h.up k (Nat.le_trans hb.size hk)⟩
theorem RecAt.grown {w w' : World} {m : BM} {r : Option Nat} (h : RecAt w m) (hg : w.grownBy w' r) (hr : ∀ a, m.ad = some a → some a.block ≠ r) : RecAt w' m := recsAt_row.2 ((recsAt_row.1 h).grown hg hr)
theorem MOk.grown {N : Nat → Prop} {w w' : World} {km k : Nat} {mc start : Int} {ad : Option Addr} {len cap : Nat} {ms : List BM} (h : MOk N w km mc start ad len cap ms) (hg : w.grownBy w' (some k)) (hk : k ≠ km) (hr : ∀ a, ad = some a → a.block ≠ k) (hi : ∀ m ∈ ms, ∀ a, m.ad = some a → a.block ≠ k) : MOk N w' km mc start ad len cap ms :=
 ⟨h.box.grown hg fun e => hk (Option.some.inj e), ⟨h.bats.row.grown hg fun a ha e => hr a ha (Option.some.inj e), fun m hm => RecAt.grown (h.bats.ins m hm) hg fun a ha e => hi m hm a ha (Option.some.inj e)⟩, fun a ha => ⟨(h.row a ha).1, Nat.lt_of_lt_of_le (h.row a ha).2 hg.size⟩, fun m hm a ha => ⟨(h.ins m hm a ha).1, Nat.lt_of_lt_of_le (h.ins m hm a ha).2 hg.size⟩, h.inN, fun k hk => h.up k (Nat.le_trans hg.size hk)⟩
def GivesPut (N : Nat → Prop) (w : World) (km : Nat) (mc start : Int) (r : (Int × Int) × List Bat) (e : Ending) (w' : World) : Prop :=
 ∃ ad len cap ms, e = .returned (.tuple #[.int .i64 r.1.1, .int .i64 r.1.2]) ∧ MOk N w' km mc start ad len cap ms ∧ bats ms = r.2 ∧ w.grownBy w' (some km)
theorem gives_put {N : Nat → Prop} {w w' : World} {km : Nat} {mc start : Int} {r : (Int × Int) × List Bat} {x y : Int} {bs : List Bat} {ad : Option Addr} {len cap : Nat} {ms : List BM} (hr : r = ((x, y), bs)) (h : MOk N w' km mc start ad len cap ms) (hb : bats ms = bs) (hg : w.grownBy w' (some km)) : GivesPut N w km mc start r (.returned (.tuple #[.int .i64 x, .int .i64 y])) w' := by
 subst hr
 exact ⟨ad, len, cap, ms, rfl, h, hb, hg⟩
theorem BoxAt.grown2 {w w' : World} {k km : Nat} {b0 b1 b2 b3 : Int} {b4 : Bool} {b5 : Int} {v : Value} (h : BoxAt w k b0 b1 b2 b3 b4 b5 v) (hg : w.grownBy w' (some km)) (hk : km ≠ k) : BoxAt w' k b0 b1 b2 b3 b4 b5 v := h.grows hg fun e => hk (Option.some.inj e)
theorem put_ok {N : Nat → Prop} {W W' : World} {km len cap len' cap' : Nat} {mc start : Int} {ad ad' : Option Addr} {ms : List BM} {mx : BM} (h : MOk N W km mc start ad len cap ms) (hg : W.grownBy W' (some km)) (hb : MBox W' km mc start (.slice ad' len' cap')) (hr : RowAt batK W' ad' len' cap' (ms ++ [mx])) (hk : ∀ a, ad' = some a → W.heap.size ≤ a.block ∧ a.block < W'.heap.size) (hx : RecAt W mx) (hxk : ∀ a, mx.ad = some a → km < a.block ∧ a.block < W.heap.size) (hxn : ∀ a, mx.ad = some a → N a.block) : MOk N W' km mc start ad' len' cap' (ms ++ [mx]) := by
 have hlt := h.box.lt
 have hall : ∀ m ∈ ms ++ [mx], RecAt W m ∧ ∀ a, m.ad = some a → km < a.block ∧ a.block < W.heap.size := by
  intro m hm
  rcases List.mem_append.1 hm with h1 | h1
  · exact ⟨h.bats.ins m h1, h.ins m h1⟩
  rw [List.mem_singleton.1 h1]; exact ⟨hx, hxk⟩
 refine ⟨hb, ⟨hr, fun m hm => RecAt.grown (hall m hm).1 hg fun a ha e => ?_⟩, fun a ha => ?_, fun m hm a ha => ?_, ⟨fun a ha => h.up _ (hk a ha).1, fun m hm a ha => ?_⟩, fun k hk2 => h.up k (Nat.le_trans hg.size hk2)⟩
 · have h1 := ((hall m hm).2 a ha).1
   have h2 := Option.some.inj e
   omega
 · have := hk a ha
   exact ⟨by omega, this.2⟩
 · have := (hall m hm).2 a ha
   exact ⟨this.1, Nat.lt_of_lt_of_le this.2 hg.size⟩
 rcases List.mem_append.1 hm with h1 | h1
 · exact h.inN.2 m h1 a ha
 rw [List.mem_singleton.1 h1] at ha
 exact hxn a ha
theorem modPut_any {N : Nat → Prop} (w : World) (km : Nat) (mc start : Int) (ad : Option Addr) (len cap : Nat) (ms : List BM) (h : MOk N w km mc start ad len cap ms) (hL : len ≤ 99999) (hok : RowOk (bats ms)) (hend : 0 ≤ endD start (bats ms) ∧ endD start (bats ms) ≤ 1099511627792) (b0 b1 b2 b3 : Int) (b4 : Bool) (b5 : Int) (recs : List Rc) (rd : Option Addr) (rc : Nat) (hr : RecsAt w rd recs.length rc recs) (ht : TextsOk recs) (hrn : recs.length ≤ 140737488355328) (hwf : b1 ≤ 9223372036854775807) (r : (Int × Int) × List Bat) (hput : putD mc start (bats ms) ⟨b0, b1, b2, b3, b4, b5, recs⟩ = r) :
 Calls Tryz.prog 43 #[.pointer (some ⟨km, 0, none⟩), .agg #[.int .i64 b0, .int .i64 b1, .int .i64 b2, .int .i64 b3, .bool b4, .int .i64 b5, .slice rd recs.length rc]] w (GivesPut N w km mc start r) := by
 have HUP : Hid (∀ k, w.heap.size ≤ k → N k) := h.up
 have hkm := h.box.lt
 have HOW : Hid (∀ a, ad = some a → a.block < w.heap.size) := fun a ha => (h.row a ha).2
 have HOI : Hid (∀ m ∈ ms, ∀ a, m.ad = some a → a.block < w.heap.size) := fun m hm a ha => (h.ins m hm a ha).2
 obtain ⟨W0, hW0⟩ := exq (w.alloc (.cells #[.int .i64 b0, .int .i64 b1, .int .i64 b2, .int .i64 b3, .bool b4, .int .i64 b5, .slice rd recs.length rc] 29))
 have HB0 := hwq hW0
 have HX0 := bx0 hW0
 have HM0 := qh (h.keep HB0.out)
 have HRE0 := qh (hr.keep HB0.out)
 have HOK := qh hok
 have HBO := qh (batsOk_of hok)
 have HTX := qh ht
 have HW0 := qh hW0
 clear h hr hok hW0 ht
 obtain ⟨X, hX⟩ := exq w.heap.size
 have hXw : w.heap.size ≤ X := by omega
 have hXk : km ≠ X := by omega
 have HXE := qh hX
 rw [← hX] at HX0
 obtain ⟨bs, hbs⟩ : ∃ bs, bats ms = bs := ⟨_, rfl⟩
 have HBS := qh hbs
 rw [hbs] at hend hput HBO HOK
 clear hbs
 obtain ⟨ca, ce, hc⟩ : ∃ ca ce, tcheckD (foldP [] bs) ⟨b0, b1, b2, b3, b4, b5, recs⟩ = (ca, ce) := ⟨_, _, rfl⟩
 obtain ⟨x, hx⟩ : ∃ x, bytesD bs = x := ⟨_, rfl⟩
 obtain ⟨s, hs⟩ : ∃ s, sizeB ⟨b0, b1, b2, b3, b4, b5, recs⟩ = s := ⟨_, rfl⟩
 obtain ⟨v, hv⟩ : ∃ v, endD start bs = v := ⟨_, rfl⟩
 obtain ⟨cnt, hcnt⟩ : ∃ cnt, (if b5 ≠ 0 then 1 else (recs.length : Int)) = cnt := ⟨_, rfl⟩
 have hcd : countD ⟨b0, b1, b2, b3, b4, b5, recs⟩ = cnt := hcnt
 have hbl : bs.length = len := by rw [← HBS.out]; unfold bats; rw [List.length_map]; exact HM0.out.bats.row.length
 have hxb := bytesD_bd bs
 rw [hx, hbl] at hxb
 have hsb := size_bd ⟨b0, b1, b2, b3, b4, b5, recs⟩
 rw [hs] at hsb
 rw [hv] at hend
 have hcb : 0 ≤ cnt ∧ cnt ≤ 140737488355328 := by rw [← hcnt]; split <;> omega
 have hput2 : r = if ce ≠ 0 then ((-1, ce), bs) else if 0 ≤ ca then ((ca, 0), bs) else if mc < x + s then ((-1, 17), bs) else if 1099511627776 < v + cnt then ((-1, 18), bs) else ((b0, 0), bs ++ [⟨b0, b1, b2, b3, b4, b5, recs⟩]) := by
  rw [← hput]
  unfold putD
  rw [hc, hx, hs, hv, hcd]
 have HPUT := qh hput2
 have HC := qh hc
 have HX_ := qh hx
 have HS_ := qh hs
 have HV := qh hv
 have HCNT := qh hcnt
 clear hput hput2 hc hx hs hv hcnt hcd hbl
 go_enter Tryz.func43, Tryz.ntmps43
 go_upto_region 1 with fail
 rw [← HW0.out, ← hX]
 clear HW0 hX
 have m2 := HM0.out.box.c2
 go_wp2_with fail
 have CF := fold_any W0 ad len cap ms HM0.out.bats (by omega) (by rw [HBS.out]; exact HBO.out)
 rw [HBS.out] at CF
 refine CF.mono ?_
 clear CF
 rintro e w1 ⟨kt, tad, tlen, tcap, ps, dd, dn, dc, rfl, htab, hps, _, _, hb1⟩
 have HT1 := qh htab
 have HPS := qh hps
 have HX1 := qh (HX0.out.on hb1)
 have HM1 := qh (HM0.out.keep hb1)
 have HRE1 := qh (HRE0.out.keep hb1)
 have HB1 := qh (HB0.out.trans (hb1.mono HB0.out.size))
 have htl : tlen ≤ 100000 := by
  have h1 := foldP_len [] bs
  have h2 := htab.tab.pds.row.length
  have h3 : (pds ps).length = ps.length := by unfold pds; rw [List.length_map]
  have h4 : bs.length = len := by rw [← HBS.out]; unfold bats; rw [List.length_map]; exact HM0.out.bats.row.length
  rw [← hps, h3] at h1
  simp at h1
  omega
 clear htab hps hb1 HX0 HM0 HRE0 HB0 m2
 obtain ⟨p0, p1, p2, p3, p4, p5, p6⟩ := HX1.out.cs
 go_wp2_with fail
 have CC := tabCheck_any w1 kt tad tlen tcap ps HT1.out.tab (by omega) ⟨b0, b1, b2, b3, b4, b5, recs⟩ rd recs.length rc HRE1.out HTX.out hrn hwf (ca, ce) (by rw [HPS.out]; exact HC.out) (by rw [HPS.out]; exact foldP_few bs (fun p hp => by cases hp))
 refine CC.mono ?_
 clear CC
 rintro e w2 ⟨rfl, hb2⟩
 have HX2 := qh (HX1.out.on hb2)
 have HM2 := qh (HM1.out.keep hb2)
 have HRE2 := qh (HRE1.out.keep hb2)
 have HB2 := qh (HB1.out.trans (hb2.mono HB1.out.size))
 have HG2 : Hid (w.grownBy w2 (some km)) := grow_below (grow_refl w _) HB2.out
 clear hb2 HX1 HM1 HRE1 HB1 HT1 HPS htl p0 p1 p2 p3 p4 p5 p6
 simp only
 by_cases he : ce = 0
 rotate_left
 · have hd : (ce == 0) = false := beq_false_of_ne he
   have hdn : (ce != 0) = true := by unfold bne; rw [hd]; rfl
   have HEND : Hid (r = ((-1, ce), bs)) := by show r = _; rw [HPUT.out, if_pos he]
   clear HPUT he
   go_wp2
   go_ret2
   exact gives_put HEND.out HM2.out HBS.out HG2.out
 have hd : (ce == 0) = true := by rw [he]; rfl
 have hdn : (ce != 0) = false := by rw [he]; rfl
 have hrr : rightE ⟨b0, b1, b2, b3, b4, b5, recs⟩ = 0 := tcheck_right (by rw [HC.out]; exact he)
 have h16 : recs.length ≤ 16 := (ok_of hrr).recs
 have hcb2 : cnt ≤ 16 := by rw [← HCNT.out]; split <;> omega
 have hput3 := HPUT.out
 rw [if_neg (by simp [he])] at hput3
 have HPUT3 := qh hput3
 clear hput3 HPUT hrr he
 by_cases h0 : 0 ≤ ca
 · have hd2 : decide (0 ≤ ca) = true := decide_eq_true h0
   have HEND : Hid (r = ((ca, 0), bs)) := by show r = _; rw [HPUT3.out, if_pos h0]
   clear HPUT3 h0
   go_wp2
   go_ret2
   exact gives_put HEND.out HM2.out HBS.out HG2.out
 have hd2 : decide (0 ≤ ca) = false := decide_eq_false h0
 have hput4 := HPUT3.out
 rw [if_neg h0] at hput4
 have HPUT4 := qh hput4
 clear hput4 HPUT3 h0
 have KS7 : Hid (∀ W, Below w2.heap.size w2 W → (fun (W : World) => W.cell? ⟨X, 0, none⟩ = some (.int .i64 b0) ∧ W.cell? ⟨X, 1, none⟩ = some (.int .i64 b1) ∧ W.cell? ⟨X, 2, none⟩ = some (.int .i64 b2) ∧ W.cell? ⟨X, 3, none⟩ = some (.int .i64 b3) ∧ W.cell? ⟨X, 4, none⟩ = some (.bool b4) ∧ W.cell? ⟨X, 5, none⟩ = some (.int .i64 b5) ∧ W.cell? ⟨X, 6, none⟩ = some (.slice rd recs.length rc) ∧ W.cell? ⟨km, 0, none⟩ = some (.int .i64 mc)) W) := by
  intro W hW
  have hX := HX2.out.on hW
  exact ⟨hX.c0, hX.c1, hX.c2, hX.c3, hX.c4, hX.c5, hX.c6, (HM2.out.box.on hW).c0⟩
 have hdrw : Below w2.heap.size w2 w2.drew := (Below.refl _ w2).drew
 have hwr : IntKind.i64.wrap (x + s) = x + s := IntWalk.i64_in _ (by omega)
 go_upto_region 7 with fail
 refine wp_region_noPanic ?_
 refine wp_region_z [] (fun (W : World) => W.cell? ⟨X, 0, none⟩ = some (.int .i64 b0) ∧ W.cell? ⟨X, 1, none⟩ = some (.int .i64 b1) ∧ W.cell? ⟨X, 2, none⟩ = some (.int .i64 b2) ∧ W.cell? ⟨X, 3, none⟩ = some (.int .i64 b3) ∧ W.cell? ⟨X, 4, none⟩ = some (.bool b4) ∧ W.cell? ⟨X, 5, none⟩ = some (.int .i64 b5) ∧ W.cell? ⟨X, 6, none⟩ = some (.slice rd recs.length rc) ∧ W.cell? ⟨km, 0, none⟩ = some (.int .i64 mc)) (by kernel_rfl) ?_
 have hHeld : (fun (W : World) => W.cell? ⟨X, 0, none⟩ = some (.int .i64 b0) ∧ W.cell? ⟨X, 1, none⟩ = some (.int .i64 b1) ∧ W.cell? ⟨X, 2, none⟩ = some (.int .i64 b2) ∧ W.cell? ⟨X, 3, none⟩ = some (.int .i64 b3) ∧ W.cell? ⟨X, 4, none⟩ = some (.bool b4) ∧ W.cell? ⟨X, 5, none⟩ = some (.int .i64 b5) ∧ W.cell? ⟨X, 6, none⟩ = some (.slice rd recs.length rc) ∧ W.cell? ⟨km, 0, none⟩ = some (.int .i64 mc)) _ := KS7.out _ hdrw
 obtain ⟨u0, hu0⟩ := exq w2.drew
 rw [← hu0] at hHeld hdrw
 rw [← hu0]
 clear hu0
 have HU0 := qh hdrw
 clear hdrw
 refine zt 0 ?_
 refine zt 2 ?_
 refine zt 5 ?_
 refine zt 6 ?_
 refine zt 7 ?_
 refine zt 8 ?_
 refine zr 1 (fun C hC => ?_)
 go_simp
 refine (modSize_any u0 km mc start ad len cap ms (HM2.out.box.on HU0.out) (HM2.out.bats.keep HU0.out) (by omega) (by rw [HBS.out]; exact HOK.out) x (by rw [HBS.out]; exact HX_.out)).mono ?_
 rintro e u1 ⟨rfl, hbb⟩
 have HU1 := qh (HU0.out.trans (hbb.mono HU0.out.size))
 clear hbb
 go_wp2_with fail
 have hHeld : (fun (W : World) => W.cell? ⟨X, 0, none⟩ = some (.int .i64 b0) ∧ W.cell? ⟨X, 1, none⟩ = some (.int .i64 b1) ∧ W.cell? ⟨X, 2, none⟩ = some (.int .i64 b2) ∧ W.cell? ⟨X, 3, none⟩ = some (.int .i64 b3) ∧ W.cell? ⟨X, 4, none⟩ = some (.bool b4) ∧ W.cell? ⟨X, 5, none⟩ = some (.int .i64 b5) ∧ W.cell? ⟨X, 6, none⟩ = some (.slice rd recs.length rc) ∧ W.cell? ⟨km, 0, none⟩ = some (.int .i64 mc)) u1 := KS7.out _ HU1.out
 refine zc hC hHeld ?_
 clear hC C
 have CS := refSize_any u1 ⟨b0, b1, b2, b3, b4, b5, recs⟩ rd recs.length rc (HRE2.out.keep HU1.out) HTX.out hrn hwf
 rw [HS_.out] at CS
 refine zr 3 (fun C hC => ?_)
 go_simp
 refine CS.mono ?_
 rintro e u2 ⟨rfl, hbb⟩
 have HU2 := qh (HU1.out.trans (hbb.mono HU1.out.size))
 clear hbb
 go_wp2_with fail
 have hHeld : (fun (W : World) => W.cell? ⟨X, 0, none⟩ = some (.int .i64 b0) ∧ W.cell? ⟨X, 1, none⟩ = some (.int .i64 b1) ∧ W.cell? ⟨X, 2, none⟩ = some (.int .i64 b2) ∧ W.cell? ⟨X, 3, none⟩ = some (.int .i64 b3) ∧ W.cell? ⟨X, 4, none⟩ = some (.bool b4) ∧ W.cell? ⟨X, 5, none⟩ = some (.int .i64 b5) ∧ W.cell? ⟨X, 6, none⟩ = some (.slice rd recs.length rc) ∧ W.cell? ⟨km, 0, none⟩ = some (.int .i64 mc)) u2 := KS7.out _ HU2.out
 refine zc hC hHeld ?_
 clear hC C
 clear CS
 refine zt 4 ?_
 refine zt 9 ?_
 refine zd ?_
 clear hHeld hwr
 obtain ⟨w3, hw3⟩ := exq u2
 subst hw3
 have HX3 := qh (HX2.out.on HU2.out)
 have HM3 := qh (HM2.out.keep HU2.out)
 have HRE3 := qh (HRE2.out.keep HU2.out)
 have HG3 := qh (grow_below HG2.out HU2.out)
 have HB3 := qh (HB2.out.trans (HU2.out.mono HB2.out.size))
 clear HX2 HM2 HRE2 HG2 HU0 HU1 HU2 HB2 KS7
 by_cases hcap : mc < x + s
 · have hd3 : decide (mc < x + s) = true := decide_eq_true hcap
   rw [hd3]
   have HEND : Hid (r = ((-1, 17), bs)) := by show r = _; rw [HPUT4.out, if_pos hcap]
   clear HPUT4 hcap
   go_wp2
   go_ret2
   exact gives_put HEND.out HM3.out HBS.out HG3.out
 have hd3 : decide (mc < x + s) = false := decide_eq_false hcap
 rw [hd3]
 have hput5 := HPUT4.out
 rw [if_neg hcap] at hput5
 have HPUT5 := qh hput5
 clear hput5 HPUT4 hcap
 have KS9 : Hid (∀ W, Below w3.heap.size w3 W → (fun (W : World) => W.cell? ⟨X, 0, none⟩ = some (.int .i64 b0) ∧ W.cell? ⟨X, 1, none⟩ = some (.int .i64 b1) ∧ W.cell? ⟨X, 2, none⟩ = some (.int .i64 b2) ∧ W.cell? ⟨X, 3, none⟩ = some (.int .i64 b3) ∧ W.cell? ⟨X, 4, none⟩ = some (.bool b4) ∧ W.cell? ⟨X, 5, none⟩ = some (.int .i64 b5) ∧ W.cell? ⟨X, 6, none⟩ = some (.slice rd recs.length rc)) W) := by
  intro W hW
  have hX := HX3.out.on hW
  exact ⟨hX.c0, hX.c1, hX.c2, hX.c3, hX.c4, hX.c5, hX.c6⟩
 have hdrw : Below w3.heap.size w3 w3.drew := (Below.refl _ w3).drew
 have hwr : IntKind.i64.wrap (v + cnt) = v + cnt := IntWalk.i64_in _ (by omega)
 go_upto_region 9 with fail
 refine wp_region_noPanic ?_
 refine wp_region_z [] (fun (W : World) => W.cell? ⟨X, 0, none⟩ = some (.int .i64 b0) ∧ W.cell? ⟨X, 1, none⟩ = some (.int .i64 b1) ∧ W.cell? ⟨X, 2, none⟩ = some (.int .i64 b2) ∧ W.cell? ⟨X, 3, none⟩ = some (.int .i64 b3) ∧ W.cell? ⟨X, 4, none⟩ = some (.bool b4) ∧ W.cell? ⟨X, 5, none⟩ = some (.int .i64 b5) ∧ W.cell? ⟨X, 6, none⟩ = some (.slice rd recs.length rc)) (by kernel_rfl) ?_
 have hHeld : (fun (W : World) => W.cell? ⟨X, 0, none⟩ = some (.int .i64 b0) ∧ W.cell? ⟨X, 1, none⟩ = some (.int .i64 b1) ∧ W.cell? ⟨X, 2, none⟩ = some (.int .i64 b2) ∧ W.cell? ⟨X, 3, none⟩ = some (.int .i64 b3) ∧ W.cell? ⟨X, 4, none⟩ = some (.bool b4) ∧ W.cell? ⟨X, 5, none⟩ = some (.int .i64 b5) ∧ W.cell? ⟨X, 6, none⟩ = some (.slice rd recs.length rc)) _ := KS9.out _ hdrw
 obtain ⟨y0, hy0⟩ := exq w3.drew
 rw [← hy0] at hHeld hdrw
 rw [← hy0]
 clear hy0
 have HY0 := qh hdrw
 clear hdrw
 refine zt 0 ?_
 refine zt 2 ?_
 refine zr 1 (fun C hC => ?_)
 go_simp
 refine (modEnd_any y0 km mc start ad len cap ms (HM3.out.box.on HY0.out) (HM3.out.bats.keep HY0.out) (by omega) (by rw [HBS.out]; exact HOK.out) v (by rw [HBS.out]; exact HV.out)).mono ?_
 rintro e y1 ⟨rfl, hbb⟩
 have HY1 := qh (HY0.out.trans (hbb.mono HY0.out.size))
 clear hbb
 go_wp2_with fail
 have hHeld : (fun (W : World) => W.cell? ⟨X, 0, none⟩ = some (.int .i64 b0) ∧ W.cell? ⟨X, 1, none⟩ = some (.int .i64 b1) ∧ W.cell? ⟨X, 2, none⟩ = some (.int .i64 b2) ∧ W.cell? ⟨X, 3, none⟩ = some (.int .i64 b3) ∧ W.cell? ⟨X, 4, none⟩ = some (.bool b4) ∧ W.cell? ⟨X, 5, none⟩ = some (.int .i64 b5) ∧ W.cell? ⟨X, 6, none⟩ = some (.slice rd recs.length rc)) y1 := KS9.out _ HY1.out
 refine zc hC hHeld ?_
 clear hC C
 refine zr 3 (fun C hC => ?_)
 go_simp
 refine (refCount_any y1 b0 b1 b2 b3 b4 b5 rd recs.length rc cnt HCNT.out).mono ?_
 rintro e y2 ⟨rfl, hbb⟩
 have HY2 := qh (HY1.out.trans (hbb.mono HY1.out.size))
 clear hbb
 go_wp2_with fail
 have hHeld : (fun (W : World) => W.cell? ⟨X, 0, none⟩ = some (.int .i64 b0) ∧ W.cell? ⟨X, 1, none⟩ = some (.int .i64 b1) ∧ W.cell? ⟨X, 2, none⟩ = some (.int .i64 b2) ∧ W.cell? ⟨X, 3, none⟩ = some (.int .i64 b3) ∧ W.cell? ⟨X, 4, none⟩ = some (.bool b4) ∧ W.cell? ⟨X, 5, none⟩ = some (.int .i64 b5) ∧ W.cell? ⟨X, 6, none⟩ = some (.slice rd recs.length rc)) y2 := KS9.out _ HY2.out
 refine zc hC hHeld ?_
 clear hC C
 refine zt 4 ?_
 refine zt 5 ?_
 refine zd ?_
 clear hHeld hwr
 obtain ⟨w4, hw4⟩ := exq y2
 subst hw4
 have HX4 := qh (HX3.out.on HY2.out)
 have HM4 := qh (HM3.out.keep HY2.out)
 have HRE4 := qh (HRE3.out.keep HY2.out)
 have HG4 := qh (grow_below HG3.out HY2.out)
 have HB4 := qh (HB3.out.trans (HY2.out.mono HB3.out.size))
 clear HX3 HM3 HRE3 HG3 HY0 HY1 HY2 HB3 KS9
 by_cases hof : 1099511627776 < v + cnt
 · have hd4 : decide (1099511627776 < v + cnt) = true := decide_eq_true hof
   rw [hd4]
   have HEND : Hid (r = ((-1, 18), bs)) := by show r = _; rw [HPUT5.out, if_pos hof]
   clear HPUT5 hof
   go_wp2
   go_ret2
   exact gives_put HEND.out HM4.out HBS.out HG4.out
 have hd4 : decide (1099511627776 < v + cnt) = false := decide_eq_false hof
 rw [hd4]
 have HEND : Hid (r = ((b0, 0), bs ++ [⟨b0, b1, b2, b3, b4, b5, recs⟩])) := by show r = _; rw [HPUT5.out, if_neg hof]
 clear HPUT5 hof
 have HVE : Hid (OwnRow recK (w4.alloc (.cells #[] 84)) w4.heap.size (.slice (some ⟨w4.heap.size, 0, none⟩) 0 0) []) := ownRow_lit recK_ok w4 _ [] (Nat.le_refl _) (by simp) _ rfl 0 rfl
 have HBE : Hid (Below w4.heap.size w4 (w4.alloc (.cells #[] 84))) := (bal _ _)
 have HRE5 := qh (recsAt_row.1 (HRE4.out.keep HBE.out))
 have p6 := (HX4.out.on HBE.out).c6
 go_wp2_with (at_builtin; refine list_row (by rfl) recK_ok (.tmp 46) (.tmp 48) rfl w4.heap.size [] recs _ rfl HVE.out HBE.out.size rd recs.length rc rfl HRE5.out (by rw [List.length_nil]; omega) ?_)
 intro v5 w5 hap
 obtain ⟨xd, xc, hv5, hxr, hxk⟩ := OwnRow.row recK_ok (l := recs) (n := recs.length) hap.1 rfl
 subst hv5
 have HB5 : Hid (Below w4.heap.size w4 w5) := HBE.out.grown hap.2.1 HBE.out.size fun q hq => (HVE.out.lt q hq).1
 have HX5 := qh (HX4.out.on HB5.out)
 have HM5 := qh (HM4.out.keep HB5.out)
 have HG5 := qh (grow_below HG4.out HB5.out)
 have HXR5 := qh hxr
 have HXK5 : Hid (∀ a, xd = some a → w.heap.size < a.block ∧ a.block < w5.heap.size) := fun a ha => by
  have h1 := hxk a ha
  have h2 := HX4.out.lt
  exact ⟨by omega, h1.2⟩
 clear hap hxr hxk HVE HBE HRE5 p6 HX4 HM4 HRE4 HG4
 have p6 := HX5.out.c6
 have f6 := HX5.out.free 6
 go_upto_region 12 with fail
 obtain ⟨W6, hW6⟩ := exq (w5.setCell ⟨X, 6, none⟩ (.slice xd recs.length xc))
 have HX6 : Hid (BoxAt W6 X b0 b1 b2 b3 b4 b5 (.slice xd recs.length xc)) := by rw [hW6]; exact HX5.out.s6 _
 have HM6 : Hid (MOk N W6 km mc start ad len cap ms) := by
  show MOk _ _ _ _ _ _ _ _ _
  rw [hW6]
  exact HM5.out.grown (grow_one w5 X 6 _) hXk.symm (fun a ha e => by have := HOW.out a ha; omega) (fun m hm a ha e => by have := HOI.out m hm a ha; omega)
 have HG6 : Hid (w.grownBy W6 (some km)) := by show World.grownBy _ _ _; rw [hW6]; exact grow_new HG5.out hXw _
 have HXR6 : Hid (RecsAt W6 xd recs.length xc recs) := by rw [hW6]; exact recsAt_row.2 (HXR5.out.off (fun a ha => by have := (HXK5.out a ha).1; have := HXE.out; omega) _ _)
 have HXK6 : Hid (∀ a, xd = some a → km < a.block ∧ a.block < W6.heap.size) := fun a ha => ⟨by have := (HXK5.out a ha).1; omega, by rw [hW6, size_set]; exact (HXK5.out a ha).2⟩
 have HXN6 : Hid (∀ a, xd = some a → N a.block) := fun a ha => HUP.out _ (Nat.le_of_lt (HXK5.out a ha).1)
 rw [← hW6]
 clear hW6 HX5 HM5 HG5 HXR5 HXK5 p6 f6
 obtain ⟨mx, hmx⟩ : ∃ mx : BM, mx = ⟨⟨b0, b1, b2, b3, b4, b5, recs⟩, xd, xc⟩ := ⟨_, rfl⟩
 have HMX := qh hmx
 clear hmx
 have hml : ms.length = len := HM6.out.bats.row.length
 have hfits := HM6.out.bats.row.fits
 have KS : Hid (∀ W, Below W6.heap.size W6 W → (fun (W : World) => W.cell? ⟨km, 2, none⟩ = some (.slice ad len cap) ∧ W.cell? ⟨X, 0, none⟩ = some (.int .i64 b0) ∧ W.cell? ⟨X, 1, none⟩ = some (.int .i64 b1) ∧ W.cell? ⟨X, 2, none⟩ = some (.int .i64 b2) ∧ W.cell? ⟨X, 3, none⟩ = some (.int .i64 b3) ∧ W.cell? ⟨X, 4, none⟩ = some (.bool b4) ∧ W.cell? ⟨X, 5, none⟩ = some (.int .i64 b5) ∧ W.cell? ⟨X, 6, none⟩ = some (.slice xd recs.length xc)) W) := by
  intro W hW
  have hX := HX6.out.on hW
  exact ⟨(HM6.out.box.on hW).c2, hX.c0, hX.c1, hX.c2, hX.c3, hX.c4, hX.c5, hX.c6⟩
 have hdrw : Below W6.heap.size W6 W6.drew := (Below.refl _ W6).drew
 refine wp_region_noPanic ?_
 refine zk [12] KS ?_
 have hHeld := KS.out _ hdrw
 obtain ⟨u0, hu0⟩ := exq W6.drew
 rw [← hu0] at hHeld hdrw
 rw [← hu0]
 clear hu0
 have HBu0 := qh hdrw
 clear hdrw
 refine zt 0 ?_
 refine zt 2 ?_
 refine zt 3 ?_
 refine zt 4 ?_
 refine zt 5 ?_
 refine zt 7 ?_
 refine wpAnyZ_ready (rs := [1, 8]) (by kernel_rfl) (by simp) ?_
 refine AllReadyZ.cons (o := ⟨_, _, _, _, _, _⟩) rfl (fun C hC => ?_) (AllReadyZ.cons (o := ⟨_, _, _, _, _, _⟩) rfl (fun C hC => ?_) AllReadyZ.nil)
 · skip
   go_simp
   obtain ⟨u1, hu1⟩ := exq (u0.alloc (.cells #[] 29))
   have hbb := wbq hu1
   have HBu1 := qh (HBu0.out.trans (hbb.mono HBu0.out.size))
   obtain ⟨gu1, hgu1⟩ := exq u0.heap.size
   have HOu1 : Hid (OwnRow batK u1 W6.heap.size (.slice (some ⟨gu1, 0, none⟩) 0 0) []) := by rw [hu1, hgu1]; exact ownRow_lit batK_ok u0 _ [] HBu0.out.size (by simp) _ rfl 0 rfl
   rw [← hu1, ← hgu1]
   clear hu1 hgu1 hbb
   have hHeld := KS.out _ HBu1.out
   refine zc hC hHeld ?_
   clear hC C
   refine wpAnyZ_ready (rs := [6, 8]) (by kernel_rfl) (by simp) ?_
   refine AllReadyZ.cons (o := ⟨_, _, _, _, _, _⟩) rfl (fun C hC => ?_) (AllReadyZ.cons (o := ⟨_, _, _, _, _, _⟩) rfl (fun C hC => ?_) AllReadyZ.nil)
   · skip
     refine held_row (by rfl) batK_ok (.tmp 52) (.tmp 56) rfl W6.heap.size [] ms _ rfl HOu1.out HBu1.out.size ad len cap rfl (HM6.out.bats.row.keep HBu1.out) (by rw [List.length_nil]; omega) ?_
     rintro vu2 u2 hap
     have HBu2 : Hid (Below W6.heap.size W6 u2) := HBu1.out.grown hap.2.1 HBu1.out.size fun q hq => (HOu1.out.lt q hq).1
     have HOu2 : Hid (OwnRow batK u2 W6.heap.size vu2 ms) := hap.1
     clear hap
     have hHeld := KS.out _ HBu2.out
     refine zc hC hHeld ?_
     clear hC C
     refine zr 8 (fun C hC => ?_)
     go_simp
     obtain ⟨u3, hu3⟩ := exq (u2.alloc (.cells #[.int .i64 b0, .int .i64 b1, .int .i64 b2, .int .i64 b3, .bool b4, .int .i64 b5, .slice xd recs.length xc] 29))
     have hbb := wbq hu3
     have HBu3 := qh (HBu2.out.trans (hbb.mono HBu2.out.size))
     obtain ⟨gx, hgx⟩ := exq u2.heap.size
     have HXu3 : Hid (RowAt batK u3 (some ⟨gx, 0, none⟩) 1 1 [mx]) := by rw [hu3, hgx, HMX.out]; exact rowAt_lit batK_ok u2 [⟨⟨b0, b1, b2, b3, b4, b5, recs⟩, xd, xc⟩] (by simp) _ rfl 1 rfl
     have HOu3 := qh (HOu2.out.on hbb)
     have HNEu3 : ∀ a, (some (⟨gx, 0, none⟩ : Addr)) = some a → some a.block ≠ (vu2 : Value).ownBlock := by
      intro a ha e
      cases ha
      have h1 : gx < u2.heap.size := (HOu2.out.lt _ e.symm).2
      omega
     rw [← hu3, ← hgx]
     clear hu3 hgx hbb
     have hHeld := KS.out _ HBu3.out
     refine zc hC hHeld ?_
     clear hC C
     refine zr 9 (fun C hC => ?_)
     refine held_row (by rfl) batK_ok (.tmp 57) (.tmp 59) rfl W6.heap.size ms [mx] _ rfl HOu3.out HBu3.out.size (some ⟨gx, 0, none⟩) 1 1 rfl HXu3.out (by omega) ?_
     rintro vu4 u4 hap
     have HBu4 : Hid (Below W6.heap.size W6 u4) := HBu3.out.grown hap.2.1 HBu3.out.size fun q hq => (HOu3.out.lt q hq).1
     have HOu4 : Hid (OwnRow batK u4 W6.heap.size vu4 (ms ++ [mx])) := hap.1
     clear hap
     have hHeld := KS.out _ HBu4.out
     refine zc hC hHeld ?_
     clear hC C
     refine zt 10 ?_
     refine zt 11 ?_
     obtain ⟨g, capz, cur, hvz, hblk, hbg, hcs⟩ := OwnRow.block (n := len + 1) HOu4.out (by rw [List.length_append]; simp; omega) (by omega)
     subst hvz
     have t0 := (HM6.out.box.on HBu4.out).c2
     have t1 := (HM6.out.box.on HBu4.out).free 2
     refine zr 12 (fun C hC => ?_)
     go_simp
     refine zl hC ?_
     clear hC C
     refine zd ?_
     obtain ⟨wz, hwz⟩ := exq (u4.setCell ⟨km, 2, none⟩ (.slice (some ⟨g, 0, none⟩) (len + 1) capz))
     have hkm6 := HM6.out.box.lt
     have HGz : Hid (W6.grownBy wz (some km)) := by show World.grownBy _ _ _; rw [hwz]; exact grow_set (grow_below (grow_refl W6 _) HBu4.out) 2 _
     have HOz : Hid (OwnRow batK wz W6.heap.size (.slice (some ⟨g, 0, none⟩) (len + 1) capz) (ms ++ [mx])) := by rw [hwz]; exact HOu4.out.off hkm6 _ _
     have HTBz : Hid (MBox wz km mc start (.slice (some ⟨g, 0, none⟩) (len + 1) capz)) := by rw [hwz]; exact (HM6.out.box.on HBu4.out).s2 _
     have p0 := (HX6.out.grown2 HGz.out hXk).c0
     try rw [← hwz]
     clear hwz t0 t1 hHeld
     go_wp2
     go_ret2
     obtain ⟨ad9, cap9, hv9, hr9, hk9⟩ := OwnRow.row batK_ok HOz.out (n := len + 1) (by rw [List.length_append]; simp; omega)
     cases hv9
     exact gives_put HEND.out (put_ok HM6.out HGz.out HTBz.out hr9 hk9 (by rw [HMX.out]; exact HXR6.out) (by rw [HMX.out]; exact HXK6.out) (by rw [HMX.out]; exact HXN6.out)) (by unfold bats; rw [List.map_append]; show bats ms ++ [mx.b] = _; rw [HBS.out, HMX.out]) (grow_trans HG6.out HGz.out)
   skip
   go_simp
   obtain ⟨u5, hu5⟩ := exq (u1.alloc (.cells #[.int .i64 b0, .int .i64 b1, .int .i64 b2, .int .i64 b3, .bool b4, .int .i64 b5, .slice xd recs.length xc] 29))
   have hbb := wbq hu5
   have HBu5 := qh (HBu1.out.trans (hbb.mono HBu1.out.size))
   obtain ⟨gx, hgx⟩ := exq u1.heap.size
   have HXu5 : Hid (RowAt batK u5 (some ⟨gx, 0, none⟩) 1 1 [mx]) := by rw [hu5, hgx, HMX.out]; exact rowAt_lit batK_ok u1 [⟨⟨b0, b1, b2, b3, b4, b5, recs⟩, xd, xc⟩] (by simp) _ rfl 1 rfl
   have HOu5 := qh (HOu1.out.on hbb)
   have HNEu5 : ∀ a, (some (⟨gx, 0, none⟩ : Addr)) = some a → some a.block ≠ (.slice (some ⟨gu1, 0, none⟩) 0 0 : Value).ownBlock := by
    intro a ha e
    cases ha
    have h1 : gx < u1.heap.size := (HOu1.out.lt _ e.symm).2
    omega
   rw [← hu5, ← hgx]
   clear hu5 hgx hbb
   have hHeld := KS.out _ HBu5.out
   refine zc hC hHeld ?_
   clear hC C
   refine zr 6 (fun C hC => ?_)
   refine held_row (by rfl) batK_ok (.tmp 52) (.tmp 56) rfl W6.heap.size [] ms _ rfl HOu5.out HBu5.out.size ad len cap rfl (HM6.out.bats.row.keep HBu5.out) (by rw [List.length_nil]; omega) ?_
   rintro vu6 u6 hap
   have HBu6 : Hid (Below W6.heap.size W6 u6) := HBu5.out.grown hap.2.1 HBu5.out.size fun q hq => (HOu5.out.lt q hq).1
   have HOu6 : Hid (OwnRow batK u6 W6.heap.size vu6 ms) := hap.1
   have HXu6 := qh (HXu5.out.grown hap.2.1 HNEu5)
   clear hap
   have hHeld := KS.out _ HBu6.out
   refine zc hC hHeld ?_
   clear hC C
   refine zr 9 (fun C hC => ?_)
   refine held_row (by rfl) batK_ok (.tmp 57) (.tmp 59) rfl W6.heap.size ms [mx] _ rfl HOu6.out HBu6.out.size (some ⟨gx, 0, none⟩) 1 1 rfl HXu6.out (by omega) ?_
   rintro vu7 u7 hap
   have HBu7 : Hid (Below W6.heap.size W6 u7) := HBu6.out.grown hap.2.1 HBu6.out.size fun q hq => (HOu6.out.lt q hq).1
   have HOu7 : Hid (OwnRow batK u7 W6.heap.size vu7 (ms ++ [mx])) := hap.1
   clear hap
   have hHeld := KS.out _ HBu7.out
   refine zc hC hHeld ?_
   clear hC C
   refine zt 10 ?_
   refine zt 11 ?_
   obtain ⟨g, capz, cur, hvz, hblk, hbg, hcs⟩ := OwnRow.block (n := len + 1) HOu7.out (by rw [List.length_append]; simp; omega) (by omega)
   subst hvz
   have t0 := (HM6.out.box.on HBu7.out).c2
   have t1 := (HM6.out.box.on HBu7.out).free 2
   refine zr 12 (fun C hC => ?_)
   go_simp
   refine zl hC ?_
   clear hC C
   refine zd ?_
   obtain ⟨wz, hwz⟩ := exq (u7.setCell ⟨km, 2, none⟩ (.slice (some ⟨g, 0, none⟩) (len + 1) capz))
   have hkm6 := HM6.out.box.lt
   have HGz : Hid (W6.grownBy wz (some km)) := by show World.grownBy _ _ _; rw [hwz]; exact grow_set (grow_below (grow_refl W6 _) HBu7.out) 2 _
   have HOz : Hid (OwnRow batK wz W6.heap.size (.slice (some ⟨g, 0, none⟩) (len + 1) capz) (ms ++ [mx])) := by rw [hwz]; exact HOu7.out.off hkm6 _ _
   have HTBz : Hid (MBox wz km mc start (.slice (some ⟨g, 0, none⟩) (len + 1) capz)) := by rw [hwz]; exact (HM6.out.box.on HBu7.out).s2 _
   have p0 := (HX6.out.grown2 HGz.out hXk).c0
   try rw [← hwz]
   clear hwz t0 t1 hHeld
   go_wp2
   go_ret2
   obtain ⟨ad9, cap9, hv9, hr9, hk9⟩ := OwnRow.row batK_ok HOz.out (n := len + 1) (by rw [List.length_append]; simp; omega)
   cases hv9
   exact gives_put HEND.out (put_ok HM6.out HGz.out HTBz.out hr9 hk9 (by rw [HMX.out]; exact HXR6.out) (by rw [HMX.out]; exact HXK6.out) (by rw [HMX.out]; exact HXN6.out)) (by unfold bats; rw [List.map_append]; show bats ms ++ [mx.b] = _; rw [HBS.out, HMX.out]) (grow_trans HG6.out HGz.out)
 skip
 go_simp
 obtain ⟨u8, hu8⟩ := exq (u0.alloc (.cells #[.int .i64 b0, .int .i64 b1, .int .i64 b2, .int .i64 b3, .bool b4, .int .i64 b5, .slice xd recs.length xc] 29))
 have hbb := wbq hu8
 have HBu8 := qh (HBu0.out.trans (hbb.mono HBu0.out.size))
 obtain ⟨gx, hgx⟩ := exq u0.heap.size
 have HXu8 : Hid (RowAt batK u8 (some ⟨gx, 0, none⟩) 1 1 [mx]) := by rw [hu8, hgx, HMX.out]; exact rowAt_lit batK_ok u0 [⟨⟨b0, b1, b2, b3, b4, b5, recs⟩, xd, xc⟩] (by simp) _ rfl 1 rfl
 rw [← hu8, ← hgx]
 clear hu8 hgx hbb
 have hHeld := KS.out _ HBu8.out
 refine zc hC hHeld ?_
 clear hC C
 refine zr 1 (fun C hC => ?_)
 go_simp
 obtain ⟨u9, hu9⟩ := exq (u8.alloc (.cells #[] 29))
 have hbb := wbq hu9
 have HBu9 := qh (HBu8.out.trans (hbb.mono HBu8.out.size))
 obtain ⟨gu9, hgu9⟩ := exq u8.heap.size
 have HOu9 : Hid (OwnRow batK u9 W6.heap.size (.slice (some ⟨gu9, 0, none⟩) 0 0) []) := by rw [hu9, hgu9]; exact ownRow_lit batK_ok u8 _ [] HBu8.out.size (by simp) _ rfl 0 rfl
 have HXu9 := qh (HXu8.out.keep hbb)
 have HNEu9 : ∀ a, (some (⟨gx, 0, none⟩ : Addr)) = some a → some a.block ≠ (Value.slice (some ⟨gu9, 0, none⟩) 0 0).ownBlock := by
  intro a ha e
  cases ha
  have h1 := HXu8.out.lt (by omega) _ rfl
  simp [Value.ownBlock] at e
  simp at h1
  omega
 rw [← hu9, ← hgu9]
 clear hu9 hgu9 hbb
 have hHeld := KS.out _ HBu9.out
 refine zc hC hHeld ?_
 clear hC C
 refine zr 6 (fun C hC => ?_)
 refine held_row (by rfl) batK_ok (.tmp 52) (.tmp 56) rfl W6.heap.size [] ms _ rfl HOu9.out HBu9.out.size ad len cap rfl (HM6.out.bats.row.keep HBu9.out) (by rw [List.length_nil]; omega) ?_
 rintro vu10 u10 hap
 have HBu10 : Hid (Below W6.heap.size W6 u10) := HBu9.out.grown hap.2.1 HBu9.out.size fun q hq => (HOu9.out.lt q hq).1
 have HOu10 : Hid (OwnRow batK u10 W6.heap.size vu10 ms) := hap.1
 have HXu10 := qh (HXu9.out.grown hap.2.1 HNEu9)
 clear hap
 have hHeld := KS.out _ HBu10.out
 refine zc hC hHeld ?_
 clear hC C
 refine zr 9 (fun C hC => ?_)
 refine held_row (by rfl) batK_ok (.tmp 57) (.tmp 59) rfl W6.heap.size ms [mx] _ rfl HOu10.out HBu10.out.size (some ⟨gx, 0, none⟩) 1 1 rfl HXu10.out (by omega) ?_
 rintro vu11 u11 hap
 have HBu11 : Hid (Below W6.heap.size W6 u11) := HBu10.out.grown hap.2.1 HBu10.out.size fun q hq => (HOu10.out.lt q hq).1
 have HOu11 : Hid (OwnRow batK u11 W6.heap.size vu11 (ms ++ [mx])) := hap.1
 clear hap
 have hHeld := KS.out _ HBu11.out
 refine zc hC hHeld ?_
 clear hC C
 refine zt 10 ?_
 refine zt 11 ?_
 obtain ⟨g, capz, cur, hvz, hblk, hbg, hcs⟩ := OwnRow.block (n := len + 1) HOu11.out (by rw [List.length_append]; simp; omega) (by omega)
 subst hvz
 have t0 := (HM6.out.box.on HBu11.out).c2
 have t1 := (HM6.out.box.on HBu11.out).free 2
 refine zr 12 (fun C hC => ?_)
 go_simp
 refine zl hC ?_
 clear hC C
 refine zd ?_
 obtain ⟨wz, hwz⟩ := exq (u11.setCell ⟨km, 2, none⟩ (.slice (some ⟨g, 0, none⟩) (len + 1) capz))
 have hkm6 := HM6.out.box.lt
 have HGz : Hid (W6.grownBy wz (some km)) := by show World.grownBy _ _ _; rw [hwz]; exact grow_set (grow_below (grow_refl W6 _) HBu11.out) 2 _
 have HOz : Hid (OwnRow batK wz W6.heap.size (.slice (some ⟨g, 0, none⟩) (len + 1) capz) (ms ++ [mx])) := by rw [hwz]; exact HOu11.out.off hkm6 _ _
 have HTBz : Hid (MBox wz km mc start (.slice (some ⟨g, 0, none⟩) (len + 1) capz)) := by rw [hwz]; exact (HM6.out.box.on HBu11.out).s2 _
 have p0 := (HX6.out.grown2 HGz.out hXk).c0
 try rw [← hwz]
 clear hwz t0 t1 hHeld
 go_wp2
 go_ret2
 obtain ⟨ad9, cap9, hv9, hr9, hk9⟩ := OwnRow.row batK_ok HOz.out (n := len + 1) (by rw [List.length_append]; simp; omega)
 cases hv9
 exact gives_put HEND.out (put_ok HM6.out HGz.out HTBz.out hr9 hk9 (by rw [HMX.out]; exact HXR6.out) (by rw [HMX.out]; exact HXK6.out) (by rw [HMX.out]; exact HXN6.out)) (by unfold bats; rw [List.map_append]; show bats ms ++ [mx.b] = _; rw [HBS.out, HMX.out]) (grow_trans HG6.out HGz.out)
end Go.Proofs.YtjmfdildnojknaaGreat
