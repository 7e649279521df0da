/- A fetch that is handed in, opened: its records, what was dropped; how long they are at most. -/
import Derived.Test.YtipaebflkebdjaaKa14
import Derived.Test.YtipaebflkebdjaaKa10
namespace Go.Proofs.Ytipaebflkebdjaa
open Go.ChangeShapes Go.WideShapes Go.Deep Go.RowKit
open Go.FoMath
open Go.ProdMath
open Go.BatMath hiding AllB getD_lt take_all
set_option linter.unusedVariables false

section
variable {H : Type} {enc : TypeId × Value → H} {w : World}
set_option maxRecDepth 100000 in
theorem open_drops {fuel len cap : Nat} {ad : Option Addr} {x : DataW H × List MemPlace} (h : DataW.trod enc Try.prog w 0 (fun _ => true) true fuel 32 [.slice ad len cap] = some x) (hs : ∀ n ∈ x.1.weights Try.prog 32, n ≤ reachBytes) :
 ∃ l, RowAt drK w ad len cap l ∧ len ≤ 140737488355328 := by
 have hB : Try.prog.bytesOf 79 = 24 := by kernel_rfl
 have hC : Try.prog.cellsOf 79 = 3 := by kernel_rfl
 have hL : Try.prog.cellsOf 2 = 1 := by kernel_rfl
 rcases open_slice Try.underlying32 h with ⟨hcs, _⟩ | ⟨a, l, c, m, n, D, Pl, hcs, _, hl, hm, hmm, hx, hi⟩
 · simp at hcs
   obtain ⟨rfl, rfl, rfl⟩ := hcs
   exact ⟨[], rowAt_nil w, Nat.zero_le _⟩
 · simp at hcs
   obtain ⟨rfl, rfl, rfl⟩ := hcs
   obtain rfl : m = cap := by simpa using hmm
   have hx1 : x.1 = .slice ((List.range len).map D) ((List.range (m - len)).map fun j => D (len + j)) := congrArg Prod.fst hx
   rw [hx1] at hs
   have hlen : len ≤ 140737488355328 := by
    have := hs _ (weights_slice2 (P := Try.prog) (e := 79) Try.underlying32)
    rw [hB] at this
    simp only [List.length_map, List.length_range, reachBytes] at this
    omega
   obtain ⟨l, hr⟩ := rowAt_key (K := drK) (w := w) (a := a) (len := len) (cap := m) (sz := 3) rfl (fun x => ⟨_, rfl⟩) hl ⟨0, 0, 0⟩ (fun i hil => by
    obtain ⟨cs', hc, ht⟩ := hi i (by omega)
    rw [hC] at hc
    obtain ⟨_, hcl, hat⟩ := World.cells?_some hc
    obtain ⟨zs, n2, _, _, _, hzl, hg⟩ := DataW.trod_struct Try.underlying79 ht
    have g0 : DataW.trod enc Try.prog w 0 (fun _ => true) true n2 2 ((cs'.drop 0).take (Try.prog.cellsOf 2)) = zs[0]? := hg 0 _ rfl
    have g1 : DataW.trod enc Try.prog w 0 (fun _ => true) true n2 2 ((cs'.drop 1).take (Try.prog.cellsOf 2)) = zs[1]? := hg 1 _ rfl
    have g2 : DataW.trod enc Try.prog w 0 (fun _ => true) true n2 2 ((cs'.drop 2).take (Try.prog.cellsOf 2)) = zs[2]? := hg 2 _ rfl
    rw [hL] at g0 g1 g2
    obtain ⟨c1, c2, c3, rfl⟩ : ∃ c1 c2 c3, cs' = [c1, c2, c3] := by
     match cs', hcl with
     | [c1, c2, c3], _ => exact ⟨c1, c2, c3, rfl⟩
    have hzl2 : zs.length = 3 := hzl
    obtain ⟨z0, z1, z2, rfl⟩ : ∃ z0 z1 z2, zs = [z0, z1, z2] := by
     match zs, hzl2 with
     | [z0, z1, z2], _ => exact ⟨z0, z1, z2, rfl⟩
    obtain ⟨n1, e1, _, _⟩ := DataW.trod_int Try.underlying2 (g0.trans rfl)
    obtain ⟨n2', e2, _, _⟩ := DataW.trod_int Try.underlying2 (g1.trans rfl)
    obtain ⟨n3, e3, _, _⟩ := DataW.trod_int Try.underlying2 (g2.trans rfl)
    simp at e1 e2 e3
    subst e1 e2 e3
    refine ⟨⟨n1, n2', n3⟩, fun j u hj => ?_⟩
    have hj5 : j < 3 := (List.getElem?_eq_some_iff.1 hj).1
    have h := hat j (by omega)
    rw [Go.Deep.add_add] at h
    rw [h]
    exact hj)
   exact ⟨l, hr, hlen⟩
set_option maxRecDepth 100000 in
theorem open_gots {fuel len cap : Nat} {ad : Option Addr} {x : DataW H × List MemPlace} (h : DataW.trod enc Try.prog w 0 (fun _ => true) true fuel 31 [.slice ad len cap] = some x) (hs : ∀ n ∈ x.1.weights Try.prog 31, n ≤ reachBytes) :
 ∃ l, RowAt gtK w ad len cap l ∧ len ≤ 140737488355328 := by
 have hB : Try.prog.bytesOf 61 = 48 := by kernel_rfl
 have hC : Try.prog.cellsOf 61 = 4 := by kernel_rfl
 have hR : Try.prog.cellsOf 59 = 2 := by kernel_rfl
 have hL : Try.prog.cellsOf 2 = 1 := by kernel_rfl
 have hS : Try.prog.cellsOf 9 = 1 := by kernel_rfl
 rcases open_slice Try.underlying31 h with ⟨hcs, _⟩ | ⟨a, l, c, m, n, D, Pl, hcs, _, hl, hm, hmm, hx, hi⟩
 · simp at hcs
   obtain ⟨rfl, rfl, rfl⟩ := hcs
   exact ⟨[], rowAt_nil w, Nat.zero_le _⟩
 · simp at hcs
   obtain ⟨rfl, rfl, rfl⟩ := hcs
   obtain rfl : m = cap := by simpa using hmm
   have hx1 : x.1 = .slice ((List.range len).map D) ((List.range (m - len)).map fun j => D (len + j)) := congrArg Prod.fst hx
   rw [hx1] at hs
   have hlen : len ≤ 140737488355328 := by
    have := hs _ (weights_slice2 (P := Try.prog) (e := 61) Try.underlying31)
    rw [hB] at this
    simp only [List.length_map, List.length_range, reachBytes] at this
    omega
   obtain ⟨l, hr⟩ := rowAt_key (K := gtK) (w := w) (a := a) (len := len) (cap := m) (sz := 4) rfl (fun x => ⟨_, rfl⟩) hl ⟨0, 0, ⟨⟨#[]⟩, ⟨#[]⟩⟩⟩ (fun i hil => by
    obtain ⟨cs', hc, ht⟩ := hi i (by omega)
    rw [hC] at hc
    obtain ⟨_, hcl, hat⟩ := World.cells?_some hc
    obtain ⟨zs, n2, _, _, _, hzl, hg⟩ := DataW.trod_struct Try.underlying61 ht
    have g0 : DataW.trod enc Try.prog w 0 (fun _ => true) true n2 2 ((cs'.drop 0).take (Try.prog.cellsOf 2)) = zs[0]? := hg 0 _ rfl
    have g1 : DataW.trod enc Try.prog w 0 (fun _ => true) true n2 2 ((cs'.drop 1).take (Try.prog.cellsOf 2)) = zs[1]? := hg 1 _ rfl
    have g2 : DataW.trod enc Try.prog w 0 (fun _ => true) true n2 59 ((cs'.drop 2).take (Try.prog.cellsOf 59)) = zs[2]? := hg 2 _ rfl
    rw [hL] at g0 g1
    rw [hR] at g2
    obtain ⟨c1, c2, c3, c4, rfl⟩ : ∃ c1 c2 c3 c4, cs' = [c1, c2, c3, c4] := by
     match cs', hcl with
     | [c1, c2, c3, c4], _ => exact ⟨c1, c2, c3, c4, rfl⟩
    have hzl2 : zs.length = 3 := hzl
    obtain ⟨z0, z1, z2, rfl⟩ : ∃ z0 z1 z2, zs = [z0, z1, z2] := by
     match zs, hzl2 with
     | [z0, z1, z2], _ => exact ⟨z0, z1, z2, rfl⟩
    obtain ⟨n1, e1, _, _⟩ := DataW.trod_int Try.underlying2 (g0.trans rfl)
    obtain ⟨n2', e2, _, _⟩ := DataW.trod_int Try.underlying2 (g1.trans rfl)
    obtain ⟨ys, n3, _, _, _, hyl, hq⟩ := DataW.trod_struct Try.underlying59 (g2.trans rfl)
    have q0 : DataW.trod enc Try.prog w 0 (fun _ => true) true n3 9 ((([c3, c4] : List Value).drop 0).take (Try.prog.cellsOf 9)) = ys[0]? := hq 0 _ rfl
    have q1 : DataW.trod enc Try.prog w 0 (fun _ => true) true n3 9 ((([c3, c4] : List Value).drop 1).take (Try.prog.cellsOf 9)) = ys[1]? := hq 1 _ rfl
    rw [hS] at q0 q1
    have hyl2 : ys.length = 2 := hyl
    obtain ⟨y0, y1, rfl⟩ : ∃ y0 y1, ys = [y0, y1] := by
     match ys, hyl2 with
     | [y0, y1], _ => exact ⟨y0, y1, rfl⟩
    obtain ⟨s0, e3, _, _⟩ := DataW.trod_string Try.underlying9 (q0.trans rfl)
    obtain ⟨s1, e4, _, _⟩ := DataW.trod_string Try.underlying9 (q1.trans rfl)
    simp at e1 e2 e3 e4
    subst e1 e2 e3 e4
    refine ⟨⟨n1, n2', ⟨s0, s1⟩⟩, fun j u hj => ?_⟩
    have hj5 : j < 4 := (List.getElem?_eq_some_iff.1 hj).1
    have h := hat j (by omega)
    rw [Go.Deep.add_add] at h
    rw [h]
    exact hj)
   exact ⟨l, hr, hlen⟩
set_option maxRecDepth 100000 in
theorem open_fetch {v : Value} {d : DataW H} {p : List MemPlace} {r : Reach} {b0 : Nat} (hv : Value.okWide Try.prog w r b0 34 v) (h : DataW.Trod enc Try.prog w 0 (fun _ => true) true 34 v d p) (hs : ∀ n ∈ d.weights Try.prog 34, n ≤ reachBytes) :
 ∃ ra rn rc da dn dc nx st l ds, v = .agg #[.slice ra rn rc, .slice da dn dc, .int .i64 nx, .int .i64 st] ∧ RowAt gtK w ra rn rc l ∧ rn ≤ 140737488355328 ∧ RowAt drK w da dn dc ds ∧ dn ≤ 140737488355328 := by
 have hL : Try.prog.cellsOf 2 = 1 := by kernel_rfl
 have hG : Try.prog.cellsOf 31 = 1 := by kernel_rfl
 have hD : Try.prog.cellsOf 32 = 1 := by kernel_rfl
 obtain ⟨cs, rfl, hsz⟩ := okWide_struct Try.underlying34 hv
 obtain ⟨fuel, hf⟩ := h
 obtain ⟨xs, n, _, hx, _, hlen, hg⟩ := DataW.trod_struct Try.underlying34 hf
 have hC4 : Try.prog.cellsOf 34 = 4 := by kernel_rfl
 obtain ⟨c0, c1, c2, c3, rfl⟩ : ∃ c0 c1 c2 c3, cs = #[c0, c1, c2, c3] := by
  obtain ⟨l⟩ := cs
  match l, hsz.trans hC4 with
  | [c0, c1, c2, c3], _ => exact ⟨c0, c1, c2, c3, rfl⟩
 have hlen4 : xs.length = 4 := hlen
 obtain ⟨y0, y1, y2, y3, rfl⟩ : ∃ y0 y1 y2 y3, xs = [y0, y1, y2, y3] := by
  match xs, hlen4 with
  | [y0, y1, y2, y3], _ => exact ⟨y0, y1, y2, y3, rfl⟩
 have g0 : DataW.trod enc Try.prog w 0 (fun _ => true) true n 31 (([c0, c1, c2, c3].drop 0).take (Try.prog.cellsOf 31)) = [y0, y1, y2, y3][0]? := hg 0 _ rfl
 rw [hG] at g0
 have g1 : DataW.trod enc Try.prog w 0 (fun _ => true) true n 32 (([c0, c1, c2, c3].drop 1).take (Try.prog.cellsOf 32)) = [y0, y1, y2, y3][1]? := hg 1 _ rfl
 rw [hD] at g1
 have g2 : DataW.trod enc Try.prog w 0 (fun _ => true) true n 2 (([c0, c1, c2, c3].drop 2).take (Try.prog.cellsOf 2)) = [y0, y1, y2, y3][2]? := hg 2 _ rfl
 rw [hL] at g2
 have g3 : DataW.trod enc Try.prog w 0 (fun _ => true) true n 2 (([c0, c1, c2, c3].drop 3).take (Try.prog.cellsOf 2)) = [y0, y1, y2, y3][3]? := hg 3 _ rfl
 rw [hL] at g3
 have g0' : DataW.trod enc Try.prog w 0 (fun _ => true) true n 31 [c0] = some y0 := g0.trans rfl
 have g1' : DataW.trod enc Try.prog w 0 (fun _ => true) true n 32 [c1] = some y1 := g1.trans rfl
 obtain ⟨n2, e2, _, _⟩ := DataW.trod_int Try.underlying2 (g2.trans rfl)
 obtain ⟨n3, e3, _, _⟩ := DataW.trod_int Try.underlying2 (g3.trans rfl)
 have hs0 : ∃ ad len cap, c0 = .slice ad len cap := by
  rcases open_slice Try.underlying31 g0' with ⟨hcs, _⟩ | ⟨a, l, c, m, n, D, Pl, hcs, _⟩
  · exact ⟨none, 0, 0, by simpa using hcs⟩
  · exact ⟨some a, l, c, by simpa using hcs⟩
 have hs1 : ∃ ad len cap, c1 = .slice ad len cap := by
  rcases open_slice Try.underlying32 g1' with ⟨hcs, _⟩ | ⟨a, l, c, m, n, D, Pl, hcs, _⟩
  · exact ⟨none, 0, 0, by simpa using hcs⟩
  · exact ⟨some a, l, c, by simpa using hcs⟩
 obtain ⟨ra, rn, rc, rfl⟩ := hs0
 obtain ⟨da, dn, dc, rfl⟩ := hs1
 have hd : d = .agg [y0.1, y1.1, y2.1, y3.1] := congrArg Prod.fst hx
 obtain ⟨l, hr, hl⟩ := open_gots g0' (fun k hk => hs k (by
  rw [hd]
  exact weights_field2 (P := Try.prog) (j := 0) Try.underlying34 rfl rfl k hk))
 obtain ⟨ds, hrd, hld⟩ := open_drops g1' (fun k hk => hs k (by
  rw [hd]
  exact weights_field2 (P := Try.prog) (j := 1) Try.underlying34 rfl rfl k hk))
 simp at e2 e3
 subst e2 e3
 exact ⟨ra, rn, rc, da, dn, dc, n2, n3, l, ds, rfl, hr, hl, hrd, hld⟩
end
end Go.Proofs.Ytipaebflkebdjaa
