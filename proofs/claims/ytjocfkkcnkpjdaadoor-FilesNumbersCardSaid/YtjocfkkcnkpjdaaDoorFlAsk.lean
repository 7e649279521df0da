/- Chapter 7's files, plain: what a call leaves of what it isn't asked for; how much there is at most. Chapter 7's asks, as they come in; the names that are asked for. Two file systems of the code at once; Within as a function; what is done to two that are alike but for a stop. -/
import Derived.Test.YtjocfkkcnkpjdaaDoorCfMath
import Derived.Test.YtjocfkkcnkpjdaaDoorCfKnown
import Derived.Test.YtjocfkkcnkpjdaaDoorWithin
/-! Chapter 7's files, plain: what a call leaves of what it isn't asked for; how much there is at most. -/
namespace Go.FsMath
open Go.RuneMath
set_option linter.unusedVariables false

theorem mem_of_ne {l : List Fl} {i : Nat} {f g : Fl} (hf : f ∈ l) (hg : l[i]? = some g) (hne : f.name ≠ g.name) : ∃ j, j ≠ i ∧ l[j]? = some f := by
  obtain ⟨j, hj⟩ := List.getElem?_of_mem hf
  refine ⟨j, fun e => ?_, hj⟩
  subst e
  rw [hj] at hg
  exact hne (by rw [Option.some.inj hg])
theorem has_at {l : List Fl} {n : ByteArray} (h : hasF l n = true) : ∃ g, l[atF l n]? = some g ∧ g.name = n := has_some h
theorem stay_set {l : List Fl} {i : Nat} {f g x : Fl} (hf : f ∈ l) (hg : l[i]? = some g) (hne : f.name ≠ g.name) : f ∈ l.set i x := by
  obtain ⟨j, hj, hjf⟩ := mem_of_ne hf hg hne
  refine List.mem_of_getElem? (i := j) ?_
  rw [List.getElem?_set, if_neg (fun e => hj e.symm)]
  exact hjf
theorem stay_drop {l : List Fl} {i : Nat} {f g : Fl} (hf : f ∈ l) (hg : l[i]? = some g) (hne : f.name ≠ g.name) : f ∈ dropF l i := by
  obtain ⟨j, hj, hjf⟩ := mem_of_ne hf hg hne
  unfold dropF
  rcases Nat.lt_or_ge j i with h | h
  · refine List.mem_append_left _ (List.mem_of_getElem? (i := j) ?_)
    rw [List.getElem?_take, if_pos h]
    exact hjf
  · refine List.mem_append_right _ (List.mem_of_getElem? (i := j - (i + 1)) ?_)
    rw [List.getElem?_drop, show i + 1 + (j - (i + 1)) = j by omega]
    exact hjf
theorem stay_put {l : List Fl} {i : Nat} {f x : Fl} (hf : f ∈ l) : f ∈ l.take i ++ x :: l.drop i := by
  have h : f ∈ l.take i ++ l.drop i := by rw [List.take_append_drop]; exact hf
  rcases List.mem_append.1 h with h1 | h1
  · exact List.mem_append_left _ h1
  · exact List.mem_append_right _ (List.mem_cons_of_mem _ h1)
theorem stay_ins {l : List Fl} {n : ByteArray} {f : Fl} (hf : f ∈ l) : f ∈ insF l n := by
  unfold insF
  split
  · exact hf
  · exact stay_put hf
theorem ins_at {l : List Fl} {n : ByteArray} : ∃ g, (insF l n)[atF l n]? = some g ∧ g.name = n := by
  unfold insF
  split
  · rename_i h
    exact has_some h
  · refine ⟨⟨n, [], 0⟩, ?_, rfl⟩
    rw [List.getElem?_append_right (by rw [List.length_take]; omega), List.length_take, Nat.min_eq_left (atF_le l n), Nat.sub_self]
    rfl
theorem stay_turn {l : List Fl} {i : Nat} {f g : Fl} {t : Fl → Fl} (hf : f ∈ l) (hg : l[i]? = some g) (hne : f.name ≠ g.name) : f ∈ turnF l i t := by
  unfold turnF
  rw [hg]
  exact stay_set hf hg hne
theorem stay_append {s : Fs} {n : ByteArray} {b : List Nat} {f : Fl} (hf : f ∈ s.l) (hne : f.name ≠ n) : f ∈ (appendF s n b).2.l := by
  unfold appendF
  split
  · exact hf
  · split
    · exact hf
    · split
      · exact hf
      · obtain ⟨g, hg, hn⟩ := ins_at (l := s.l) (n := n)
        exact stay_turn (stay_ins hf) hg (by rw [hn]; exact hne)
theorem stay_trunc {s : Fs} {n : ByteArray} {k : Int} {f : Fl} (hf : f ∈ s.l) (hne : f.name ≠ n) : f ∈ (truncF s n k).2.l := by
  unfold truncF
  split
  · rename_i g hg
    split
    · exact hf
    · rename_i hn
      split
      · exact hf
      · split
        · exact hf
        · exact stay_set hf hg (by rw [Decidable.not_not.1 hn]; exact hne)
  · exact hf
theorem stay_remove {s : Fs} {n : ByteArray} {f : Fl} (hf : f ∈ s.l) (hne : f.name ≠ n) : f ∈ (removeF s n).2.l := by
  unfold removeF
  split
  · exact hf
  · rename_i h
    split
    · exact hf
    · obtain ⟨g, hg, hn⟩ := has_some (by simpa using h)
      exact stay_drop hf hg (by rw [hn]; exact hne)
theorem stay_move {l : List Fl} {a b : ByteArray} {f : Fl} (hf : f ∈ l) (ha : hasF l a = true) (hne : f.name ≠ a) (hnb : f.name ≠ b) : f ∈ moveF l a b := by
  obtain ⟨g, hg, hn⟩ := has_some ha
  unfold moveF
  rw [hg]
  simp only
  have h1 : f ∈ dropF l (atF l a) := stay_drop hf hg (by rw [hn]; exact hne)
  refine stay_put ?_
  split
  · rename_i hb
    obtain ⟨g2, hg2, hn2⟩ := has_some hb
    exact stay_drop h1 hg2 (by rw [hn2]; exact hnb)
  · exact h1
theorem deed_l (s : Fs) : (deedF s).l = s.l := by
  unfold deedF
  split <;> rfl
theorem stay_rename {s : Fs} {a b : ByteArray} {f : Fl} (hf : f ∈ s.l) (hne : f.name ≠ a) (hnb : f.name ≠ b) : f ∈ (renameF s a b).2.l := by
  unfold renameF
  split
  · exact hf
  · rename_i h
    split
    · exact hf
    · split
      · exact hf
      · split
        · show f ∈ (deedF s).l
          rw [deed_l]
          exact hf
        · exact stay_move hf (by simpa using h) hne hnb
/-- What is durable whole is left by a crash. -/
theorem crash_whole {f : Fl} (h : f.lasts = f.b.length) (k : Int) (g : Option Nat) : crashOne f k g = f := by
  have h1 : keepN f k = 0 := by
    unfold keepN
    rw [h]
    omega
  have h2 : f.b.take (f.lasts + keepN f k) = f.b := List.take_of_length_le (by omega)
  have hx : ∀ (b : List Nat) (i g : Nat), b.length ≤ i → xorAt b i g = b := fun b i g hi => by
    refine List.ext_getElem? fun t => ?_
    unfold xorAt
    rw [List.getElem?_mapIdx]
    cases hb : b[t]? with
    | none => rfl
    | some x =>
      have := (List.getElem?_eq_some_iff.1 hb).1
      show some (if i ≤ t then _ else _) = _
      rw [if_neg (by omega)]
  unfold crashOne
  simp only [h2]
  obtain ⟨nm, b, lasts⟩ := f
  simp only at h ⊢
  cases g with
  | none =>
    show (⟨nm, b, b.length⟩ : Fl) = _
    rw [← h]
  | some g =>
    show (⟨nm, xorAt b (max lasts (b.length - 64)) g, (xorAt b (max lasts (b.length - 64)) g).length⟩ : Fl) = _
    rw [hx b (max lasts (b.length - 64)) g (by omega), ← h]
theorem stay_crash {l : List Fl} {f : Fl} (hf : f ∈ l) (h : f.lasts = f.b.length) (ks : List Int) (gs : List Nat) : f ∈ crashF l ks gs := by
  obtain ⟨j, hj⟩ := List.getElem?_of_mem hf
  refine List.mem_of_getElem? (i := j) ?_
  unfold crashF
  rw [List.getElem?_mapIdx, hj]
  show some (crashOne f (ks[j]?.getD 0) gs[j]?) = some f
  rw [crash_whole h]
theorem read_mem {l : List Fl} (h : SortedF l) {f : Fl} (hf : f ∈ l) : l[atF l f.name]? = some f := by
  obtain ⟨j, hj⟩ := List.getElem?_of_mem hf
  rw [at_of h hj]
  exact hj
/-! How much there is -/
structure Sm (s : Fs) (L M : Nat) (D : Int) : Prop where
  n : s.l.length ≤ L
  b : ∀ f ∈ s.l, f.b.length ≤ M
  d0 : 0 ≤ s.done
  d1 : s.done ≤ D
  l0 : -1 ≤ s.left
  l1 : s.left ≤ 1073741824
section
variable {s : Fs} {L M : Nat} {D : Int}
theorem Sm.more (h : Sm s L M D) {L' M' : Nat} {D' : Int} (hl : L ≤ L') (hm : M ≤ M') (hd : D ≤ D') : Sm s L' M' D' :=
  ⟨by have := h.n; omega, fun f hf => by have := h.b f hf; omega, h.d0, by have := h.d1; omega, h.l0, h.l1⟩
theorem Sm.nums (h : Sm s L M D) {l : List Fl} {L' M' : Nat} (hn : l.length ≤ L') (hb : ∀ f ∈ l, f.b.length ≤ M') : Sm ⟨l, (deedF s).left, (deedF s).done⟩ L' M' (D + 1) := by
  have h1 := h.d0
  have h2 := h.d1
  have h3 := h.l0
  have h4 := h.l1
  unfold deedF
  split
  · exact ⟨hn, hb, h1, by show s.done ≤ _; omega, h3, h4⟩
  · refine ⟨hn, hb, by show 0 ≤ s.done + 1; omega, by show s.done + 1 ≤ _; omega, ?_, ?_⟩
    · show -1 ≤ if 0 < s.left then s.left - 1 else s.left
      split <;> omega
    · show (if 0 < s.left then s.left - 1 else s.left) ≤ _
      split <;> omega
theorem drop_len (l : List Fl) (i : Nat) : (dropF l i).length ≤ l.length := by unfold dropF; rw [List.length_append, List.length_take, List.length_drop]; omega
theorem drop_all {l : List Fl} {i : Nat} {f : Fl} (h : f ∈ dropF l i) : f ∈ l := by
  unfold dropF at h
  rcases List.mem_append.1 h with h | h
  · exact List.mem_of_mem_take h
  · exact List.mem_of_mem_drop h
theorem Sm.append (h : Sm s L M D) (n : ByteArray) (b : List Nat) : Sm (appendF s n b).2 (L + 1) (M + b.length) (D + 1) := by
  have h0 := h.more (L' := L + 1) (M' := M + b.length) (D' := D + 1) (by omega) (by omega) (by omega)
  unfold appendF
  split
  · exact h0
  · split
    · exact h0
    · split
      · exact h0
      · have hi : (insF s.l n).length ≤ L + 1 ∧ ∀ f ∈ insF s.l n, f.b.length ≤ M := by
          unfold insF
          split
          · exact ⟨by have := h.n; omega, h.b⟩
          · refine ⟨by rw [List.length_append, List.length_cons, List.length_take, List.length_drop]; have := h.n; omega, fun f hf => ?_⟩
            rcases List.mem_append.1 hf with h1 | h1
            · exact h.b f (List.mem_of_mem_take h1)
            · rcases List.mem_cons.1 h1 with rfl | h1
              · exact Nat.zero_le _
              · exact h.b f (List.mem_of_mem_drop h1)
        refine h.nums ?_ ?_
        · unfold turnF
          split
          · rw [List.length_set]; exact hi.1
          · exact hi.1
        · intro f hf
          unfold turnF at hf
          split at hf
          · rename_i g hg
            rcases List.mem_or_eq_of_mem_set hf with h1 | rfl
            · have := hi.2 f h1; omega
            · have := hi.2 g (List.mem_of_getElem? hg)
              simp only [List.length_append]
              omega
          · have := hi.2 f hf; omega
theorem Sm.trunc (h : Sm s L M D) (n : ByteArray) (k : Int) : Sm (truncF s n k).2 (L + 1) M (D + 1) := by
  have h0 := h.more (L' := L + 1) (M' := M) (D' := D + 1) (by omega) (by omega) (by omega)
  unfold truncF
  split
  · rename_i g hg
    split
    · exact h0
    · split
      · exact h0
      · split
        · exact h0
        · refine h.nums (by rw [List.length_set]; have := h.n; omega) fun f hf => ?_
          rcases List.mem_or_eq_of_mem_set hf with h1 | rfl
          · exact h.b f h1
          · have := h.b g (List.mem_of_getElem? hg)
            simp only [List.length_take]
            omega
  · exact h0
theorem Sm.remove (h : Sm s L M D) (n : ByteArray) : Sm (removeF s n).2 (L + 1) M (D + 1) := by
  have h0 := h.more (L' := L + 1) (M' := M) (D' := D + 1) (by omega) (by omega) (by omega)
  unfold removeF
  split
  · exact h0
  · split
    · exact h0
    · exact h.nums (by have := drop_len s.l (atF s.l n); have := h.n; omega) fun f hf => h.b f (drop_all hf)
theorem Sm.sync (h : Sm s L M D) (n : ByteArray) : Sm (syncF s n).2 (L + 1) M (D + 1) := by
  have h0 := h.more (L' := L + 1) (M' := M) (D' := D + 1) (by omega) (by omega) (by omega)
  unfold syncF
  split
  · exact h0
  · split
    · exact h0
    · refine h.nums ?_ fun f hf => ?_
      · unfold turnF
        split
        · rw [List.length_set]; have := h.n; omega
        · have := h.n; omega
      · unfold turnF at hf
        split at hf
        · rename_i g hg
          rcases List.mem_or_eq_of_mem_set hf with h1 | rfl
          · exact h.b f h1
          · exact h.b g (List.mem_of_getElem? hg)
        · exact h.b f hf
theorem Sm.rename (h : Sm s L M D) (a b : ByteArray) : Sm (renameF s a b).2 (L + 1) M (D + 1) := by
  have h0 := h.more (L' := L + 1) (M' := M) (D' := D + 1) (by omega) (by omega) (by omega)
  unfold renameF
  split
  · exact h0
  · split
    · exact h0
    · split
      · exact h0
      · split
        · have := h.nums (l := s.l) (L' := L + 1) (M' := M) (by have := h.n; omega) h.b
          have e : deedF s = ⟨s.l, (deedF s).left, (deedF s).done⟩ := by
            conv => rhs; rw [← deed_l s]
          rw [e]
          exact this
        · have hm : (moveF s.l a b).length ≤ L + 1 ∧ ∀ f ∈ moveF s.l a b, f.b.length ≤ M := by
            unfold moveF
            split
            · rename_i x hx
              simp only
              have hr : ∀ (r : List Fl) (q : Nat) (y : Fl), r.length ≤ L → (∀ f ∈ r, f.b.length ≤ M) → y.b.length ≤ M → (r.take q ++ y :: r.drop q).length ≤ L + 1 ∧ ∀ f ∈ r.take q ++ y :: r.drop q, f.b.length ≤ M := fun r q y h1 h2 h3 => by
                refine ⟨by rw [List.length_append, List.length_cons, List.length_take, List.length_drop]; omega, fun f hf => ?_⟩
                rcases List.mem_append.1 hf with h4 | h4
                · exact h2 f (List.mem_of_mem_take h4)
                · rcases List.mem_cons.1 h4 with rfl | h4
                  · exact h3
                  · exact h2 f (List.mem_of_mem_drop h4)
              have hd1 := drop_len s.l (atF s.l a)
              have hn := h.n
              have hxb := h.b x (List.mem_of_getElem? hx)
              split
              · refine hr _ _ _ ?_ (fun f hf => h.b f (drop_all (drop_all hf))) hxb
                have := drop_len (dropF s.l (atF s.l a)) (atF (dropF s.l (atF s.l a)) b)
                omega
              · exact hr _ _ _ (by omega) (fun f hf => h.b f (drop_all hf)) hxb
            · exact ⟨by have := h.n; omega, h.b⟩
          exact h.nums hm.1 hm.2
theorem Sm.crash (h : Sm s L M D) (ks : List Int) (gs : List Nat) : Sm ⟨crashF s.l ks gs, -1, s.done⟩ (L + 1) M (D + 1) := by
  have h1 := h.d1
  refine ⟨by unfold crashF; rw [List.length_mapIdx]; have := h.n; omega, fun f hf => ?_, h.d0, by show s.done ≤ _; omega, by show (-1 : Int) ≤ -1; omega, by show (-1 : Int) ≤ _; omega⟩
  obtain ⟨j, hj⟩ := List.getElem?_of_mem hf
  unfold crashF at hj
  rw [List.getElem?_mapIdx] at hj
  cases hx : s.l[j]? with
  | none => rw [hx] at hj; cases hj
  | some x =>
    rw [hx] at hj
    have e := Option.some.inj hj
    have hb := h.b x (List.mem_of_getElem? hx)
    rw [← e]
    unfold crashOne
    simp only
    have hl : ∀ (b : List Nat) i g, (xorAt b i g).length = b.length := fun b i g => by unfold xorAt; exact List.length_mapIdx
    split
    · rw [hl, List.length_take]; omega
    · rw [List.length_take]; omega
theorem Sm.stop (h : Sm s L M D) (k : Int) (h0 : -1 ≤ k) (h1 : k ≤ 1073741824) : Sm ⟨s.l, k, s.done⟩ L M D := ⟨h.n, h.b, h.d0, h.d1, h0, h1⟩
end
end Go.FsMath

/-! Chapter 7's asks, as they come in; the names that are asked for. -/
namespace Go.Proofs.YtjocfkkcnkpjdaaDoor
open Go.RowKit
open Go.RuneMath
open Go.FsMath
set_option linter.unusedVariables false

structure Ak where
  kind : Int
  a : Int
  b : Int
  n : Int
  pad : Option Addr
  plen : Nat
  pcap : Nat
  ps : List Nat
  kad : Option Addr
  klen : Nat
  kcap : Nat
  ks : List Int
  gad : Option Addr
  glen : Nat
  gcap : Nat
  gs : List Nat
theorem infoAsk : (Tryd.prog.info? 26).map (fun i => (i.zero, i.size, i.bytes)) = some (some (.agg #[.int .i64 0, .int .i64 0, .int .i64 0, .int .i64 0, .slice none 0 0, .slice none 0 0, .slice none 0 0]), 7, 104) := by kernel_rfl
def askK : Kind Ak := ⟨fun x => [.int .i64 x.kind, .int .i64 x.a, .int .i64 x.b, .int .i64 x.n, .slice x.pad x.plen x.pcap, .slice x.kad x.klen x.kcap, .slice x.gad x.glen x.gcap], 7, 26, 22⟩
theorem askK_ok : askK.Ok 104 where
  und := Tryd.underlying22
  info := by
    obtain ⟨i, hi, hz, hs, hb⟩ := info_parts infoAsk
    exact ⟨i, _, hi, hz, hs, hb, rfl⟩
  len := fun _ => rfl
  pos := by decide
  one := fun r u hu => by
    simp only [askK, List.mem_cons, List.not_mem_nil, or_false] at hu
    rcases hu with rfl | rfl | rfl | rfl | rfl | rfl | rfl <;> rfl
  few := by decide
/-- What an ask holds, as it came in. -/
structure AskIn (W : World) (x : Ak) : Prop where
  p : RowAt byteK W x.pad x.plen x.pcap x.ps
  pa : AllB x.ps
  pl : x.plen ≤ 1048576
  k : RowAt keepK W x.kad x.klen x.kcap x.ks
  ki : ∀ k ∈ x.ks, -9223372036854775808 ≤ k ∧ k ≤ 9223372036854775807
  g : RowAt byteK W x.gad x.glen x.gcap x.gs
  ga : AllB x.gs
  kind0 : -9223372036854775808 ≤ x.kind ∧ x.kind ≤ 9223372036854775807
  a0 : -9223372036854775808 ≤ x.a ∧ x.a ≤ 9223372036854775807
  b0 : -9223372036854775808 ≤ x.b ∧ x.b ≤ 9223372036854775807
  n0 : -9223372036854775808 ≤ x.n ∧ x.n ≤ 9223372036854775807
/-- The cells of one ask. -/
structure AskAt (W : World) (b o : Nat) (x : Ak) : Prop where
  c0 : W.cell? ⟨b, o, none⟩ = some (.int .i64 x.kind)
  c1 : W.cell? ⟨b, o + 1, none⟩ = some (.int .i64 x.a)
  c2 : W.cell? ⟨b, o + 2, none⟩ = some (.int .i64 x.b)
  c3 : W.cell? ⟨b, o + 3, none⟩ = some (.int .i64 x.n)
  c4 : W.cell? ⟨b, o + 4, none⟩ = some (.slice x.pad x.plen x.pcap)
  c5 : W.cell? ⟨b, o + 5, none⟩ = some (.slice x.kad x.klen x.kcap)
  c6 : W.cell? ⟨b, o + 6, none⟩ = some (.slice x.gad x.glen x.gcap)
theorem ask_get {w : World} {ad : Option Addr} {len cap : Nat} {l : List Ak} (h : RowAt askK w ad len cap l) {i : Nat} (hi : i < len) : ∃ b off x, ad = some ⟨b, off, none⟩ ∧ b < w.heap.size ∧ l[i]? = some x ∧ AskAt w b (off + i * 7) x := by
  obtain ⟨b, off, x, e, hb, hx, hc⟩ := h.get hi
  have h0 := hc 0 _ rfl
  have h1 := hc 1 _ rfl
  have h2 := hc 2 _ rfl
  have h3 := hc 3 _ rfl
  have h4 := hc 4 _ rfl
  have h5 := hc 5 _ rfl
  have h6 := hc 6 _ rfl
  refine ⟨b, off, x, e, hb, hx, ?_, ?_, ?_, ?_, ?_, ?_, ?_⟩
  · exact h0
  · exact h1
  · exact h2
  · exact h3
  · exact h4
  · exact h5
  · exact h6
theorem AskAt.on {w w' : World} {b o : Nat} {x : Ak} {B : Nat} (h : AskAt w b o x) (hb : Below B w w') (hl : b < B) : AskAt w' b o x :=
  ⟨(hb.cell (p := ⟨b, _, none⟩) hl).trans h.c0, (hb.cell (p := ⟨b, _, none⟩) hl).trans h.c1, (hb.cell (p := ⟨b, _, none⟩) hl).trans h.c2, (hb.cell (p := ⟨b, _, none⟩) hl).trans h.c3, (hb.cell (p := ⟨b, _, none⟩) hl).trans h.c4, (hb.cell (p := ⟨b, _, none⟩) hl).trans h.c5, (hb.cell (p := ⟨b, _, none⟩) hl).trans h.c6⟩
def nZ : ByteArray := ⟨#[122, 46, 108, 111, 103]⟩
def nmL : List ByteArray := [nA, nB, ⟨#[115, 116, 97, 114, 116]⟩, ⟨#[228, 184, 150]⟩, ⟨#[65]⟩, ⟨#[]⟩, nZ]
theorem nm_at {k : Nat} (h : k ≤ 6) : ∃ s, nmL[k]? = some s ∧ s.size ≤ 1073741824 ∧ (k ≤ 3 → nZ ≠ s) := by
  match k, h with
  | 0, _ => exact ⟨_, rfl, by decide, fun _ => by decide⟩
  | 1, _ => exact ⟨_, rfl, by decide, fun _ => by decide⟩
  | 2, _ => exact ⟨_, rfl, by decide, fun _ => by decide⟩
  | 3, _ => exact ⟨_, rfl, by decide, fun _ => by decide⟩
  | 4, _ => exact ⟨_, rfl, by decide, fun h => by omega⟩
  | 5, _ => exact ⟨_, rfl, by decide, fun h => by omega⟩
  | 6, _ => exact ⟨_, rfl, by decide, fun h => by omega⟩
set_option maxRecDepth 100000 in
theorem names_any (w : World) : Calls Tryd.prog 19 #[] w fun e w' => ∃ g, e = .returned (.slice (some ⟨g, 0, none⟩) 7 7) ∧ Hid (∀ k s, nmL[k]? = some s → w'.cell? ⟨g, k, none⟩ = some (.string s)) ∧ Hid (Below w.heap.size w w' ∧ w.heap.size ≤ g ∧ g < w'.heap.size) := by
  go_enter Tryd.func19, Tryd.ntmps19
  go_wp2
  go_ret
  have h1 : RowAt strK (w.alloc (.cells (strK.all nmL).toArray 9)) (some ⟨w.heap.size, 0, none⟩) 7 7 nmL := rowAt_lit strK_ok w nmL (by decide) _ rfl 7 rfl
  refine ⟨w.heap.size, rfl, fun k s hk => ?_, alloc_below _ _, Nat.le_refl _, by simp⟩
  obtain ⟨b, off, s2, e, _, hs2, hc⟩ := str_get h1 (i := k) (by have := (List.getElem?_eq_some_iff.1 hk).1; exact this)
  cases e
  rw [hk] at hs2
  cases hs2
  rw [Nat.zero_add] at hc
  exact hc
theorem One.sorted {W w1 w : World} {X : Nat → Prop} {kf : Nat} {s : Fs} (h : One W X w1 w kf s) : SortedF s.l := by
  obtain ⟨km, ms, hok, hcl, _⟩ := h.ex
  rw [← hcl]
  exact hok.sorted
theorem One.reset {W w1 w : World} {X : Nat → Prop} {kf : Nat} {s : Fs} (h : One W X w1 w kf s) : One W (fun j => j < W.heap.size) W w kf s := by
  obtain ⟨km, ms, hok, hcl, hf⟩ := h.ex
  exact ⟨h.below, h.below.size, fun j hj => ⟨hj, h.below.block j hj⟩, km, ms, hok, hcl, fun j hj => ⟨(hf j hj).1, fun hx => by have := (hf j hj).1; omega⟩⟩
theorem One.cell {W w1 w : World} {X : Nat → Prop} {kf : Nat} {s : Fs} (h : One W X w1 w kf s) {b o : Nat} (hb : X b) {v : Value} (hc : w1.cell? ⟨b, o, none⟩ = some v) : w.cell? ⟨b, o, none⟩ = some v := by
  have e := (h.same b hb).2
  unfold World.cell? at hc ⊢
  simp only [e]
  exact hc
theorem Sm.fsnum {s : Fs} {L M : Nat} {D : Int} (h : Sm s L M D) (hD : D ≤ 1000000) : FsNum s.left s.done := num_ok h.d0 (by have := h.d1; omega) h.l0 (by have := h.l1; omega)
end Go.Proofs.YtjocfkkcnkpjdaaDoor

/-! Two file systems of the code at once; Within as a function; what is done to two that are alike but for a stop. -/
namespace Go.FsMath
/-- Two file systems that are alike; the first may do n deeds in all. -/
structure Par (n : Int) (s t : Fs) : Prop where
  l : s.l = t.l
  d : s.done = t.done
  a : s.left = n - s.done
  b : t.left = -1
  le : s.done ≤ n
theorem may_pos {l : List Fl} {k d : Int} (h : k ≠ 0) : mayF ⟨l, k, d⟩ = true := by unfold mayF; simpa using h
theorem deed_pos {l : List Fl} {k d : Int} (h : 0 < k) : deedF ⟨l, k, d⟩ = ⟨l, k - 1, d + 1⟩ := by
  unfold deedF
  rw [if_neg (by show ¬ k = 0; omega)]
  show (⟨l, if 0 < k then k - 1 else k, d + 1⟩ : Fs) = _
  rw [if_pos h]
theorem deed_free {l : List Fl} {d : Int} : deedF ⟨l, -1, d⟩ = ⟨l, -1, d + 1⟩ := by
  unfold deedF
  rw [if_neg (by show ¬ (-1 : Int) = 0; omega)]
  show (⟨l, if (0 : Int) < -1 then -1 - 1 else -1, d + 1⟩ : Fs) = _
  rw [if_neg (by omega)]
theorem may_zero {l : List Fl} {d : Int} : mayF ⟨l, 0, d⟩ = false := by unfold mayF; simp
theorem Par.same {n : Int} {l : List Fl} {d : Int} (h : d ≤ n) : Par n ⟨l, n - d, d⟩ ⟨l, -1, d⟩ := ⟨rfl, rfl, rfl, rfl, h⟩
theorem Par.step {n : Int} {l : List Fl} {d : Int} (h : d < n) : Par n ⟨l, n - d - 1, d + 1⟩ ⟨l, -1, d + 1⟩ := ⟨rfl, rfl, by show n - d - 1 = n - (d + 1); omega, rfl, by show d + 1 ≤ n; omega⟩
section
variable {n : Int} {l : List Fl} {d : Int}
theorem par_append (h : d < n) (nm : ByteArray) (b : List Nat) : Par n (appendF ⟨l, n - d, d⟩ nm b).2 (appendF ⟨l, -1, d⟩ nm b).2 := by
  unfold appendF
  rw [may_pos (by omega), may_pos (by omega), deed_pos (by omega), deed_free]
  simp only
  split
  · exact Par.same (by omega)
  · split
    · exact Par.same (by omega)
    · exact Par.step h
theorem par_remove (h : d < n) (nm : ByteArray) : Par n (removeF ⟨l, n - d, d⟩ nm).2 (removeF ⟨l, -1, d⟩ nm).2 := by
  unfold removeF
  rw [may_pos (by omega), may_pos (by omega), deed_pos (by omega), deed_free]
  simp only
  split
  · exact Par.same (by omega)
  · exact Par.step h
theorem par_sync (h : d < n) (nm : ByteArray) : Par n (syncF ⟨l, n - d, d⟩ nm).2 (syncF ⟨l, -1, d⟩ nm).2 := by
  unfold syncF
  rw [may_pos (by omega), may_pos (by omega), deed_pos (by omega), deed_free]
  simp only
  split
  · exact Par.same (by omega)
  · exact Par.step h
theorem par_rename (h : d < n) (a b : ByteArray) : Par n (renameF ⟨l, n - d, d⟩ a b).2 (renameF ⟨l, -1, d⟩ a b).2 := by
  unfold renameF
  rw [may_pos (by omega), may_pos (by omega), deed_pos (by omega), deed_free]
  simp only
  split
  · exact Par.same (by omega)
  · split
    · exact Par.same (by omega)
    · simp only [Bool.true_eq_false, if_false]
      split
      · exact Par.step h
      · exact Par.step h
theorem idle_append (nm : ByteArray) (b : List Nat) : (appendF ⟨l, 0, d⟩ nm b).2 = ⟨l, 0, d⟩ := by
  unfold appendF
  rw [may_zero]
  simp only
  split
  · rfl
  · split <;> rfl
theorem idle_remove (nm : ByteArray) : (removeF ⟨l, 0, d⟩ nm).2 = ⟨l, 0, d⟩ := by
  unfold removeF
  rw [may_zero]
  split <;> rfl
theorem idle_sync (nm : ByteArray) : (syncF ⟨l, 0, d⟩ nm).2 = ⟨l, 0, d⟩ := by
  unfold syncF
  rw [may_zero]
  split <;> rfl
theorem idle_rename (a b : ByteArray) : (renameF ⟨l, 0, d⟩ a b).2 = ⟨l, 0, d⟩ := by
  unfold renameF
  rw [may_zero]
  split
  · rfl
  · split <;> rfl
end
end Go.FsMath
namespace Go.Proofs.YtjocfkkcnkpjdaaDoor
open Go.RowKit
open Go.RuneMath
open Go.FsMath
set_option linter.unusedVariables false

theorem mod_cases {n m : Int} (hm : 0 < m) : n % m = n.tmod m ∨ (n.tmod m < 0 ∧ n % m = n.tmod m + m) := by
  have h1 := Int.tmod_add_mul_tdiv n m
  have h2 := Int.emod_add_mul_ediv n m
  have h3 := Int.emod_nonneg n (b := m) (by omega)
  have h4 := Int.emod_lt_of_pos n hm
  have h5 := Int.tmod_lt_of_pos n hm
  have h6 : -m < n.tmod m := by
    have := Int.tmod_lt_of_pos (-n) hm
    rw [Int.neg_tmod] at this
    omega
  have h7 : n.tmod m - n % m = m * (n / m - n.tdiv m) := by rw [Int.mul_sub]; omega
  generalize n / m - n.tdiv m = q at h7
  have h8 : -2 < q := by
    by_cases hq : q < -1
    · have : m * q ≤ m * (-2) := Int.mul_le_mul_of_nonneg_left (by omega) (by omega)
      omega
    · omega
  have h9 : q < 1 := by
    by_cases hq : q < 1
    · exact hq
    · have : m * 1 ≤ m * q := Int.mul_le_mul_of_nonneg_left (by omega) (by omega)
      omega
  have h10 : q = 0 ∨ q = -1 := by omega
  rcases h10 with rfl | rfl
  · exact .inl (by omega)
  · exact .inr ⟨by omega, by omega⟩
def WithAns (n hi : Int) (w : World) (e : Ending) (w' : World) : Prop := ∃ k : Nat, k = (n % (hi + 1)).toNat ∧ e = .returned (.int .i64 k) ∧ (k : Int) ≤ hi ∧ w = w'
theorem as_fun {X n hi : Int} {w : World} (hX : X = n % (hi + 1)) (h0 : 0 ≤ hi) : WithAns n hi w (.returned (.int .i64 X)) w := by
  have m3 : n % (hi + 1) < hi + 1 := Int.emod_lt_of_pos _ (by omega)
  have m4 : 0 ≤ n % (hi + 1) := Int.emod_nonneg _ (by omega)
  exact ⟨_, rfl, by rw [Int.toNat_of_nonneg m4, hX], by omega, rfl⟩
theorem within_fun (n hi : Int) (w : World) (hn : -9223372036854775808 ≤ n ∧ n ≤ 9223372036854775807) (hh : 0 ≤ hi ∧ hi ≤ 281474976710656) :
    Calls Tryd.prog 14 #[.int .i64 n, .int .i64 0, .int .i64 hi] w (WithAns n hi w) := by
  by_cases h : 0 ≤ n ∧ n ≤ hi
  · refine (within_in n hi w h.1 h.2).mono ?_
    rintro e w' ⟨rfl, rfl⟩
    exact as_fun (Int.emod_eq_of_lt h.1 (by omega)).symm hh.1
  · have hg : (decide (0 ≤ n) && decide (n ≤ hi)) = false := by
      simp only [Bool.and_eq_false_iff, decide_eq_false_iff_not]; omega
    have m1 : n.tmod (hi + 1) < hi + 1 := Int.tmod_lt_of_pos _ (by omega)
    have m2 : -(hi + 1) < n.tmod (hi + 1) := by
      have := Int.tmod_lt_of_pos (-n) (b := hi + 1) (by omega)
      rw [Int.neg_tmod] at this
      omega
    have m3 : n % (hi + 1) < hi + 1 := Int.emod_lt_of_pos _ (by omega)
    have m4 : 0 ≤ n % (hi + 1) := Int.emod_nonneg _ (by omega)
    have m5 := Lib.hid (mod_cases (n := n) (m := hi + 1) (by omega))
    go_enter Tryd.func14, Tryd.ntmps14
    go_wp2
    all_goals
      go_ret
      exact as_fun (by have := m5.out; omega) hh.1
/-- Two file systems that were made behind W; the blocks E stay as they are in w1. -/
structure Two (W : World) (E : Nat → Prop) (w1 w : World) (kf : Nat) (sf : Fs) (kg : Nat) (sg : Fs) : Prop where
  below : Below W.heap.size W w
  size : w1.heap.size ≤ w.heap.size
  same : ∀ j, E j → j < w1.heap.size ∧ w.heap[j]? = w1.heap[j]?
  ex : ∃ kmf msf kmg msg, CfOk w kf kmf sf.left sf.done msf ∧ cls msf = sf.l ∧ CfOk w kg kmg sg.left sg.done msg ∧ cls msg = sg.l ∧ (∀ j, Foot kf kmf msf j → W.heap.size ≤ j ∧ ¬ Foot kg kmg msg j ∧ ¬ E j) ∧ ∀ j, Foot kg kmg msg j → W.heap.size ≤ j ∧ ¬ E j
section
variable {W w1 w w' : World} {E : Nat → Prop} {kf kg : Nat} {sf sg : Fs}
theorem Two.swap (h : Two W E w1 w kf sf kg sg) : Two W E w1 w kg sg kf sf := by
  obtain ⟨kmf, msf, kmg, msg, h1, h2, h3, h4, h5, h6⟩ := h.ex
  exact ⟨h.below, h.size, h.same, kmg, msg, kmf, msf, h3, h4, h1, h2, fun j hj => ⟨(h6 j hj).1, fun hf => (h5 j hf).2.1 hj, (h6 j hj).2⟩, fun j hj => ⟨(h5 j hj).1, (h5 j hj).2.2⟩⟩
theorem Two.on (h : Two W E w1 w kf sf kg sg) (hb : Below w.heap.size w w') : Two W E w1 w' kf sf kg sg := by
  obtain ⟨kmf, msf, kmg, msg, h1, h2, h3, h4, h5, h6⟩ := h.ex
  exact ⟨h.below.trans (hb.mono h.below.size), Nat.le_trans h.size hb.size, fun j hj => ⟨(h.same j hj).1, (hb.block j (Nat.lt_of_lt_of_le (h.same j hj).1 h.size)).trans (h.same j hj).2⟩, kmf, msf, kmg, msg, h1.on hb, h2, h3.on hb, h4, h5, h6⟩
theorem Two.held (h : Two W E w1 w kf sf kg sg) (hb : Below w.heap.size w w') : ∃ D, Two W D w' w' kf sf kg sg ∧ (∀ j, E j → D j) ∧ ∀ j, w.heap.size ≤ j → j < w'.heap.size → D j := by
  obtain ⟨kmf, msf, kmg, msg, h1, h2, h3, h4, h5, h6⟩ := h.ex
  refine ⟨fun j => j < w'.heap.size ∧ ¬ Foot kf kmf msf j ∧ ¬ Foot kg kmg msg j, ⟨h.below.trans (hb.mono h.below.size), Nat.le_refl _, fun j hj => ⟨hj.1, rfl⟩, kmf, msf, kmg, msg, h1.on hb, h2, h3.on hb, h4, fun j hj => ⟨(h5 j hj).1, (h5 j hj).2.1, fun hd => hd.2.1 hj⟩, fun j hj => ⟨(h6 j hj).1, fun hd => hd.2.2 hj⟩⟩, fun j hj => ⟨Nat.lt_of_lt_of_le (h.same j hj).1 (Nat.le_trans h.size hb.size), fun hf => (h5 j hf).2.2 hj, fun hf => (h6 j hf).2 hj⟩, fun j h7 h8 => ⟨h8, fun hf => ?_, fun hf => ?_⟩⟩
  · have := h1.lt hf; omega
  · have := h3.lt hf; omega
theorem Two.first (h : Two W E w1 w kf sf kg sg) : ∃ X, One W X w w kf sf ∧ ∀ w' sf', One W X w w' kf sf' → Two W E w1 w' kf sf' kg sg := by
  obtain ⟨kmf, msf, kmg, msg, h1, h2, h3, h4, h5, h6⟩ := h.ex
  refine ⟨fun j => j < w.heap.size ∧ ¬ Foot kf kmf msf j, ⟨h.below, Nat.le_refl _, fun j hj => ⟨hj.1, rfl⟩, kmf, msf, h1, h2, fun j hj => ⟨(h5 j hj).1, fun hx => hx.2 hj⟩⟩, fun w' sf' ho => ?_⟩
  obtain ⟨km', ms', hok, hcl, hf⟩ := ho.ex
  have hxg : ∀ j, Foot kg kmg msg j → (j < w.heap.size ∧ ¬ Foot kf kmf msf j) := fun j hj => ⟨h3.lt hj, fun hF => (h5 j hF).2.1 hj⟩
  have hxe : ∀ j, E j → (j < w.heap.size ∧ ¬ Foot kf kmf msf j) := fun j hj => ⟨Nat.lt_of_lt_of_le (h.same j hj).1 h.size, fun hF => (h5 j hF).2.2 hj⟩
  exact ⟨ho.below, Nat.le_trans h.size ho.size, fun j hj => ⟨(h.same j hj).1, (ho.same j (hxe j hj)).2.trans (h.same j hj).2⟩, km', ms', kmg, msg, hok, hcl, h3.same fun j hj => (ho.same j (hxg j hj)).2, h4, fun j hj => ⟨(hf j hj).1, fun hg => (hf j hj).2 (hxg j hg), fun he => (hf j hj).2 (hxe j he)⟩, h6⟩
theorem two_new {X : Nat → Prop} (h : One W X w1 w kf sf) (h2 : One W (fun j => j < w.heap.size) w w' kg sg) : Two W (fun _ => False) w' w' kf sf kg sg := by
  obtain ⟨km, ms, hok, hcl, hf⟩ := h.ex
  obtain ⟨km2, ms2, hok2, hcl2, hf2⟩ := h2.ex
  exact ⟨h2.below, Nat.le_refl _, fun j hj => hj.elim, km, ms, km2, ms2, hok.same fun j hj => (h2.same j (hok.lt hj)).2, hcl, hok2, hcl2, fun j hj => ⟨(hf j hj).1, fun hg => (hf2 j hg).2 (hok.lt hj), fun he => he⟩, fun j hj => ⟨(hf2 j hj).1, fun he => he⟩⟩
theorem Two.cell (h : Two W E w1 w kf sf kg sg) {b o : Nat} (hb : E b) {v : Value} (hc : w1.cell? ⟨b, o, none⟩ = some v) : w.cell? ⟨b, o, none⟩ = some v := by
  have e := (h.same b hb).2
  unfold World.cell? at hc ⊢
  simp only [e]
  exact hc
theorem Two.ne (h : Two W E w1 w kf sf kg sg) : kf ≠ kg := by
  obtain ⟨kmf, msf, kmg, msg, h1, h2, h3, h4, h5, h6⟩ := h.ex
  intro e
  exact (h5 kf (.inl rfl)).2.1 (.inl e)
theorem One.all {X : Nat → Prop} (h : One W X w1 w kf sf) : ∀ f ∈ sf.l, AllB f.b ∧ f.name.size ≤ 1073741824 := by
  obtain ⟨km, ms, hok, hcl, _⟩ := h.ex
  intro f hf
  rw [← hcl] at hf
  obtain ⟨m, hm, rfl⟩ := List.mem_map.1 hf
  exact ⟨(hok.row m hm).2.1, (hok.right m hm).2⟩
/-- A call on the first of two. -/
theorem two_did (h : Two W E w1 w kf sf kg sg) {P : World → Fs → Ending → World → Prop} {g : Nat} {args : Array Value} {r : Int × Fs}
    (hc : ∀ X, One W X w w kf sf → Calls Tryd.prog g args w (Did W X w kf r)) : Calls Tryd.prog g args w fun e w' => e = .returned (.int .i64 r.1) ∧ Hid (Two W E w1 w' kf r.2 kg sg) := by
  obtain ⟨X, h1, h2⟩ := h.first
  exact (hc X h1).mono fun e w' hd => ⟨hd.1, h2 w' r.2 hd.2.out⟩
end
end Go.Proofs.YtjocfkkcnkpjdaaDoor
