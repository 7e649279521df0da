/- Chapter 7's asks, as they come in; the names that are asked for. -/
import Derived.Test.YtjocfkkcnkpjdaaDoorCfKnown
import Derived.Test.YtjocfkkcnkpjdaaDoorFlMath
import Derived.Test.YtjocfkkcnkpjdaaDoorWithin
namespace Go.Proofs.YtjocfkkcnkpjdaaDoor
open Go.RowKit
open Go.RuneMath
open Go.FsMath
set_option linter.unusedVariables false

structure Ak where
  kind : Int
  a : Int
  b : Int
  n : Int
  pad : Option Addr
  plen : Nat
  pcap : Nat
  ps : List Nat
  kad : Option Addr
  klen : Nat
  kcap : Nat
  ks : List Int
  gad : Option Addr
  glen : Nat
  gcap : Nat
  gs : List Nat
theorem infoAsk : (Tryd.prog.info? 26).map (fun i => (i.zero, i.size, i.bytes)) = some (some (.agg #[.int .i64 0, .int .i64 0, .int .i64 0, .int .i64 0, .slice none 0 0, .slice none 0 0, .slice none 0 0]), 7, 104) := by kernel_rfl
def askK : Kind Ak := ⟨fun x => [.int .i64 x.kind, .int .i64 x.a, .int .i64 x.b, .int .i64 x.n, .slice x.pad x.plen x.pcap, .slice x.kad x.klen x.kcap, .slice x.gad x.glen x.gcap], 7, 26, 22⟩
theorem askK_ok : askK.Ok 104 where
  und := Tryd.underlying22
  info := by
    obtain ⟨i, hi, hz, hs, hb⟩ := info_parts infoAsk
    exact ⟨i, _, hi, hz, hs, hb, rfl⟩
  len := fun _ => rfl
  pos := by decide
  one := fun r u hu => by
    simp only [askK, List.mem_cons, List.not_mem_nil, or_false] at hu
    rcases hu with rfl | rfl | rfl | rfl | rfl | rfl | rfl <;> rfl
  few := by decide
/-- What an ask holds, as it came in. -/
structure AskIn (W : World) (x : Ak) : Prop where
  p : RowAt byteK W x.pad x.plen x.pcap x.ps
  pa : AllB x.ps
  pl : x.plen ≤ 1048576
  k : RowAt keepK W x.kad x.klen x.kcap x.ks
  ki : ∀ k ∈ x.ks, -9223372036854775808 ≤ k ∧ k ≤ 9223372036854775807
  g : RowAt byteK W x.gad x.glen x.gcap x.gs
  ga : AllB x.gs
  kind0 : -9223372036854775808 ≤ x.kind ∧ x.kind ≤ 9223372036854775807
  a0 : -9223372036854775808 ≤ x.a ∧ x.a ≤ 9223372036854775807
  b0 : -9223372036854775808 ≤ x.b ∧ x.b ≤ 9223372036854775807
  n0 : -9223372036854775808 ≤ x.n ∧ x.n ≤ 9223372036854775807
/-- The cells of one ask. -/
structure AskAt (W : World) (b o : Nat) (x : Ak) : Prop where
  c0 : W.cell? ⟨b, o, none⟩ = some (.int .i64 x.kind)
  c1 : W.cell? ⟨b, o + 1, none⟩ = some (.int .i64 x.a)
  c2 : W.cell? ⟨b, o + 2, none⟩ = some (.int .i64 x.b)
  c3 : W.cell? ⟨b, o + 3, none⟩ = some (.int .i64 x.n)
  c4 : W.cell? ⟨b, o + 4, none⟩ = some (.slice x.pad x.plen x.pcap)
  c5 : W.cell? ⟨b, o + 5, none⟩ = some (.slice x.kad x.klen x.kcap)
  c6 : W.cell? ⟨b, o + 6, none⟩ = some (.slice x.gad x.glen x.gcap)
theorem ask_get {w : World} {ad : Option Addr} {len cap : Nat} {l : List Ak} (h : RowAt askK w ad len cap l) {i : Nat} (hi : i < len) : ∃ b off x, ad = some ⟨b, off, none⟩ ∧ b < w.heap.size ∧ l[i]? = some x ∧ AskAt w b (off + i * 7) x := by
  obtain ⟨b, off, x, e, hb, hx, hc⟩ := h.get hi
  have h0 := hc 0 _ rfl
  have h1 := hc 1 _ rfl
  have h2 := hc 2 _ rfl
  have h3 := hc 3 _ rfl
  have h4 := hc 4 _ rfl
  have h5 := hc 5 _ rfl
  have h6 := hc 6 _ rfl
  refine ⟨b, off, x, e, hb, hx, ?_, ?_, ?_, ?_, ?_, ?_, ?_⟩
  · exact h0
  · exact h1
  · exact h2
  · exact h3
  · exact h4
  · exact h5
  · exact h6
theorem AskAt.on {w w' : World} {b o : Nat} {x : Ak} {B : Nat} (h : AskAt w b o x) (hb : Below B w w') (hl : b < B) : AskAt w' b o x :=
  ⟨(hb.cell (p := ⟨b, _, none⟩) hl).trans h.c0, (hb.cell (p := ⟨b, _, none⟩) hl).trans h.c1, (hb.cell (p := ⟨b, _, none⟩) hl).trans h.c2, (hb.cell (p := ⟨b, _, none⟩) hl).trans h.c3, (hb.cell (p := ⟨b, _, none⟩) hl).trans h.c4, (hb.cell (p := ⟨b, _, none⟩) hl).trans h.c5, (hb.cell (p := ⟨b, _, none⟩) hl).trans h.c6⟩
def nZ : ByteArray := ⟨#[122, 46, 108, 111, 103]⟩
def nmL : List ByteArray := [nA, nB, ⟨#[115, 116, 97, 114, 116]⟩, ⟨#[228, 184, 150]⟩, ⟨#[65]⟩, ⟨#[]⟩, nZ]
theorem nm_at {k : Nat} (h : k ≤ 6) : ∃ s, nmL[k]? = some s ∧ s.size ≤ 1073741824 ∧ (k ≤ 3 → nZ ≠ s) := by
  match k, h with
  | 0, _ => exact ⟨_, rfl, by decide, fun _ => by decide⟩
  | 1, _ => exact ⟨_, rfl, by decide, fun _ => by decide⟩
  | 2, _ => exact ⟨_, rfl, by decide, fun _ => by decide⟩
  | 3, _ => exact ⟨_, rfl, by decide, fun _ => by decide⟩
  | 4, _ => exact ⟨_, rfl, by decide, fun h => by omega⟩
  | 5, _ => exact ⟨_, rfl, by decide, fun h => by omega⟩
  | 6, _ => exact ⟨_, rfl, by decide, fun h => by omega⟩
set_option maxRecDepth 100000 in
theorem names_any (w : World) : Calls Tryd.prog 19 #[] w fun e w' => ∃ g, e = .returned (.slice (some ⟨g, 0, none⟩) 7 7) ∧ Hid (∀ k s, nmL[k]? = some s → w'.cell? ⟨g, k, none⟩ = some (.string s)) ∧ Hid (Below w.heap.size w w' ∧ w.heap.size ≤ g ∧ g < w'.heap.size) := by
  go_enter Tryd.func19, Tryd.ntmps19
  go_wp2
  go_ret
  have h1 : RowAt strK (w.alloc (.cells (strK.all nmL).toArray 9)) (some ⟨w.heap.size, 0, none⟩) 7 7 nmL := rowAt_lit strK_ok w nmL (by decide) _ rfl 7 rfl
  refine ⟨w.heap.size, rfl, fun k s hk => ?_, alloc_below _ _, Nat.le_refl _, by simp⟩
  obtain ⟨b, off, s2, e, _, hs2, hc⟩ := str_get h1 (i := k) (by have := (List.getElem?_eq_some_iff.1 hk).1; exact this)
  cases e
  rw [hk] at hs2
  cases hs2
  rw [Nat.zero_add] at hc
  exact hc
theorem One.sorted {W w1 w : World} {X : Nat → Prop} {kf : Nat} {s : Fs} (h : One W X w1 w kf s) : SortedF s.l := by
  obtain ⟨km, ms, hok, hcl, _⟩ := h.ex
  rw [← hcl]
  exact hok.sorted
theorem One.reset {W w1 w : World} {X : Nat → Prop} {kf : Nat} {s : Fs} (h : One W X w1 w kf s) : One W (fun j => j < W.heap.size) W w kf s := by
  obtain ⟨km, ms, hok, hcl, hf⟩ := h.ex
  exact ⟨h.below, h.below.size, fun j hj => ⟨hj, h.below.block j hj⟩, km, ms, hok, hcl, fun j hj => ⟨(hf j hj).1, fun hx => by have := (hf j hj).1; omega⟩⟩
theorem One.cell {W w1 w : World} {X : Nat → Prop} {kf : Nat} {s : Fs} (h : One W X w1 w kf s) {b o : Nat} (hb : X b) {v : Value} (hc : w1.cell? ⟨b, o, none⟩ = some v) : w.cell? ⟨b, o, none⟩ = some v := by
  have e := (h.same b hb).2
  unfold World.cell? at hc ⊢
  simp only [e]
  exact hc
theorem Sm.fsnum {s : Fs} {L M : Nat} {D : Int} (h : Sm s L M D) (hD : D ≤ 1000000) : FsNum s.left s.done := num_ok h.d0 (by have := h.d1; omega) h.l0 (by have := h.l1; omega)
end Go.Proofs.YtjocfkkcnkpjdaaDoor
