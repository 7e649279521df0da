/- Batches, acts that are handed in, opened: what they hold; how long it is at most. -/
import Derived.Test.YtjmfdildnojknaaGreatKORK15
set_option maxRecDepth 100000
set_option maxHeartbeats 16000000
set_option linter.unusedVariables false
namespace Go.Proofs.YtjmfdildnojknaaGreat
open Go.ChangeShapes Go.WideShapes Go.Deep Go.RowKit
open Go.ProdMath
open Go.BatMath hiding AllB getD_lt take_all In64
theorem rowAt_keyP {α : Type} {K : Kind α} {w : World} {a : Addr} {len cap sz : Nat} (Q : α → Prop) (hsz : K.size = sz) (hne : ∀ x : α, ∃ u, (K.enc x)[0]? = some u) (hl : len ≤ cap) (x0 : α) (key : ∀ i, i < len → ∃ x : α, (∀ j u, (K.enc x)[j]? = some u → w.cell? (a.add (i * sz + j)) = some u) ∧ Q x) :
 ∃ l, RowAt K w (some a) len cap l ∧ ∀ x ∈ l, Q x := by
 subst hsz
 have hch : ∃ f : Nat → α, ∀ i, i < len → (∀ j u, (K.enc (f i))[j]? = some u → w.cell? (a.add (i * K.size + j)) = some u) ∧ Q (f i) := by
  refine Classical.axiomOfChoice (r := fun i (x : α) => i < len → (∀ j u, (K.enc x)[j]? = some u → w.cell? (a.add (i * K.size + j)) = some u) ∧ Q x) fun i => ?_
  by_cases h : i < len
  · obtain ⟨r, hr⟩ := key i h
    exact ⟨r, fun _ => hr⟩
  exact ⟨x0, fun h' => absurd h' h⟩
 obtain ⟨f, hf⟩ := hch
 refine ⟨(List.range len).map f, ⟨by simp, hl, (fun e => by cases e), ?_⟩, fun x hx => ?_⟩
 · by_cases h0 : len = 0
   · exact .inl h0
   obtain ⟨b, off, spot⟩ := a
   obtain ⟨u, hu⟩ := hne (f 0)
   have h1 := (hf 0 (by omega)).1 0 u hu
   have hsp : spot = none := by simpa [Addr.add] using World.cell?_spot h1
   subst hsp
   refine .inr ⟨b, off, rfl, ?_, fun i r hi j u hj => ?_⟩
   · rw [Go.WideShapes.add_plain] at h1
     exact World.block_lt_of_cell? w _ h1
   obtain ⟨hlt, e⟩ := List.getElem?_eq_some_iff.1 hi
   have hil : i < len := by simpa using hlt
   have e : f i = r := by simpa using e
   subst e
   have h2 := (hf i hil).1 j u hj
   rw [Go.WideShapes.add_plain] at h2
   exact h2
 obtain ⟨i, hi, rfl⟩ := List.mem_map.1 hx
 exact (hf i (List.mem_range.1 hi)).2
section
variable {H : Type} {enc : TypeId × Value → H} {w : World}
theorem open_batcells {fuel : Nat} {cs : List Value} {x : DataW H × List MemPlace} (h : DataW.trod enc Tryz.prog w 0 (fun _ => true) true fuel 29 cs = some x) (hcl : cs.length = 7) (hs : ∀ n ∈ x.1.weights Tryz.prog 29, n ≤ reachBytes) :
 ∃ m : BM, cs = batK.enc m ∧ RecAt w m ∧ TextsOk m.b.recs ∧ m.b.recs.length ≤ 140737488355328 ∧ Bat.wf m.b := by
 have hC2 : Tryz.prog.cellsOf 2 = 1 := by kernel_rfl
 have hC3 : Tryz.prog.cellsOf 3 = 1 := by kernel_rfl
 have hC4 : Tryz.prog.cellsOf 4 = 1 := by kernel_rfl
 have hC22 : Tryz.prog.cellsOf 27 = 1 := by kernel_rfl
 obtain ⟨xs, n, _, hx, _, hlen, hg⟩ := DataW.trod_struct Tryz.underlying29 h
 obtain ⟨c0, c1, c2, c3, c4, c5, c6, rfl⟩ : ∃ c0 c1 c2 c3 c4 c5 c6, cs = [c0, c1, c2, c3, c4, c5, c6] := by
  match cs, hcl with
  | [c0, c1, c2, c3, c4, c5, c6], _ => exact ⟨c0, c1, c2, c3, c4, c5, c6, rfl⟩
 have hlen7 : xs.length = 7 := hlen
 obtain ⟨y0, y1, y2, y3, y4, y5, y6, rfl⟩ : ∃ y0 y1 y2 y3 y4 y5 y6, xs = [y0, y1, y2, y3, y4, y5, y6] := by
  match xs, hlen7 with
  | [y0, y1, y2, y3, y4, y5, y6], _ => exact ⟨y0, y1, y2, y3, y4, y5, y6, rfl⟩
 have g0 : DataW.trod enc Tryz.prog w 0 (fun _ => true) true n 2 (([c0, c1, c2, c3, c4, c5, c6].drop 0).take (Tryz.prog.cellsOf 2)) = [y0, y1, y2, y3, y4, y5, y6][0]? := hg 0 _ rfl
 rw [hC2] at g0
 have g1 : DataW.trod enc Tryz.prog w 0 (fun _ => true) true n 2 (([c0, c1, c2, c3, c4, c5, c6].drop 1).take (Tryz.prog.cellsOf 2)) = [y0, y1, y2, y3, y4, y5, y6][1]? := hg 1 _ rfl
 rw [hC2] at g1
 have g2 : DataW.trod enc Tryz.prog w 0 (fun _ => true) true n 3 (([c0, c1, c2, c3, c4, c5, c6].drop 2).take (Tryz.prog.cellsOf 3)) = [y0, y1, y2, y3, y4, y5, y6][2]? := hg 2 _ rfl
 rw [hC3] at g2
 have g3 : DataW.trod enc Tryz.prog w 0 (fun _ => true) true n 2 (([c0, c1, c2, c3, c4, c5, c6].drop 3).take (Tryz.prog.cellsOf 2)) = [y0, y1, y2, y3, y4, y5, y6][3]? := hg 3 _ rfl
 rw [hC2] at g3
 have g4 : DataW.trod enc Tryz.prog w 0 (fun _ => true) true n 4 (([c0, c1, c2, c3, c4, c5, c6].drop 4).take (Tryz.prog.cellsOf 4)) = [y0, y1, y2, y3, y4, y5, y6][4]? := hg 4 _ rfl
 rw [hC4] at g4
 have g5 : DataW.trod enc Tryz.prog w 0 (fun _ => true) true n 3 (([c0, c1, c2, c3, c4, c5, c6].drop 5).take (Tryz.prog.cellsOf 3)) = [y0, y1, y2, y3, y4, y5, y6][5]? := hg 5 _ rfl
 rw [hC3] at g5
 have g6 : DataW.trod enc Tryz.prog w 0 (fun _ => true) true n 27 (([c0, c1, c2, c3, c4, c5, c6].drop 6).take (Tryz.prog.cellsOf 27)) = [y0, y1, y2, y3, y4, y5, y6][6]? := hg 6 _ rfl
 rw [hC22] at g6
 obtain ⟨n0, e0, _, w0⟩ := DataW.trod_int Tryz.underlying2 (g0.trans rfl)
 obtain ⟨n1, e1, _, w1⟩ := DataW.trod_int Tryz.underlying2 (g1.trans rfl)
 obtain ⟨n2, e2, _, w2⟩ := DataW.trod_int Tryz.underlying3 (g2.trans rfl)
 obtain ⟨n3, e3, _, w3⟩ := DataW.trod_int Tryz.underlying2 (g3.trans rfl)
 obtain ⟨n4, e4, _⟩ := DataW.trod_bool Tryz.underlying4 (g4.trans rfl)
 obtain ⟨n5, e5, _, w5⟩ := DataW.trod_int Tryz.underlying3 (g5.trans rfl)
 have g6' : DataW.trod enc Tryz.prog w 0 (fun _ => true) true n 27 [c6] = some y6 := g6.trans rfl
 have hsl : ∃ ad len cap, c6 = .slice ad len cap := by
  rcases open_slice Tryz.underlying27 g6' with ⟨hcs, _⟩ | ⟨a, l, c, m, n, D, Pl, hcs, _⟩
  · exact ⟨none, 0, 0, by simpa using hcs⟩
  exact ⟨some a, l, c, by simpa using hcs⟩
 obtain ⟨ad, len, cap, rfl⟩ := hsl
 have hd : x.1 = .agg [y0.1, y1.1, y2.1, y3.1, y4.1, y5.1, y6.1] := congrArg Prod.fst hx
 obtain ⟨l, hr, ht, hl⟩ := open_recs g6' (fun k hk => hs k (by
  rw [hd]
  exact weights_field (P := Tryz.prog) (j := 6) Tryz.underlying29 rfl rfl k hk))
 simp at e0 e1 e2 e3 e4 e5
 subst e0 e1 e2 e3 e4 e5
 have hll := hr.length
 subst hll
 exact ⟨⟨⟨n0, n1, n2, n3, n4, n5, l⟩, ad, cap⟩, rfl, hr, ht, hl, ⟨wf_in w0, wf_in w1, wf_in w2, wf_in w3, wf_in w5⟩⟩
theorem open_bats {fuel len cap : Nat} {ad : Option Addr} {x : DataW H × List MemPlace} (h : DataW.trod enc Tryz.prog w 0 (fun _ => true) true fuel 42 [.slice ad len cap] = some x) (hs : ∀ n ∈ x.1.weights Tryz.prog 42, n ≤ reachBytes) :
 ∃ ms, BatsAt w ad len cap ms ∧ BatsOk (bats ms) ∧ len ≤ 140737488355328 := by
 have hB : Tryz.prog.bytesOf 29 = 72 := by kernel_rfl
 have hC : Tryz.prog.cellsOf 29 = 7 := by kernel_rfl
 rcases open_slice Tryz.underlying42 h with ⟨hcs, _⟩ | ⟨a, l, c, m, n, D, Pl, hcs, _, hl, hm, hmm, hx, hi⟩
 · simp at hcs
   obtain ⟨rfl, rfl, rfl⟩ := hcs
   exact ⟨[], ⟨rowAt_nil w, fun m hm => by cases hm⟩, (fun b hb => by cases hb), Nat.zero_le _⟩
 simp at hcs
 obtain ⟨rfl, rfl, rfl⟩ := hcs
 obtain rfl : m = cap := by simpa using hmm
 have hx1 : x.1 = .slice ((List.range len).map D) ((List.range (m - len)).map fun j => D (len + j)) := congrArg Prod.fst hx
 rw [hx1] at hs
 have hlen : len ≤ 140737488355328 := by
  have := hs _ (weights_slice2 (P := Tryz.prog) (e := 29) Tryz.underlying42)
  rw [hB] at this
  simp only [List.length_map, List.length_range, reachBytes] at this
  omega
 obtain ⟨ms, hr, hq⟩ := rowAt_keyP (K := batK) (w := w) (a := a) (len := len) (cap := m) (sz := 7) (fun m => RecAt w m ∧ TextsOk m.b.recs ∧ m.b.recs.length ≤ 140737488355328 ∧ Bat.wf m.b) rfl (fun x => ⟨_, rfl⟩) hl ⟨Bat.zero, none, 0⟩ (fun i hil => by
  obtain ⟨cs', hc, ht⟩ := hi i (by omega)
  rw [hC] at hc
  obtain ⟨_, hcl, hat⟩ := World.cells?_some hc
  have hmem : D i ∈ (List.range len).map D := List.mem_map.2 ⟨i, List.mem_range.2 hil, rfl⟩
  obtain ⟨m1, e, hm1⟩ := open_batcells ht hcl (fun k hk => hs k (weights_elem (P := Tryz.prog) Tryz.underlying42 hmem k hk))
  subst e
  refine ⟨m1, fun j u hj => ?_, hm1⟩
  have hj7 : j < 7 := (List.getElem?_eq_some_iff.1 hj).1
  have h := hat j (by omega)
  rw [Go.Deep.add_add] at h
  rw [h]
  exact hj)
 refine ⟨ms, ⟨hr, fun m hm => (hq m hm).1⟩, fun b hb => ?_, hlen⟩
 obtain ⟨m1, hm1, rfl⟩ := List.mem_map.1 hb
 exact ⟨(hq m1 hm1).2.1, (hq m1 hm1).2.2.2.prod.2, (hq m1 hm1).2.2.1⟩
end
end Go.Proofs.YtjmfdildnojknaaGreat
