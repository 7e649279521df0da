/- A batch that is handed in, opened: its numbers, its records, how long its texts are at most. -/
import Derived.Test.YtlpmfhccfihnfaaBatPlain2
import Derived.Test.YtlpmfhccfihnfaaVarUse
import Derived.Deep.Slices
import Derived.Deep.Fields
import Derived.ChangeSame
import Derived.SizedLaws
import Derived.ProofKit
namespace Go.Proofs.Ytlpmfhccfihnfaa
open Go.ChangeShapes Go.WideShapes Go.Deep Go.RowKit
open Go.BatMath hiding AllB getD_lt take_all
set_option linter.unusedVariables false

theorem weights_all {H : Type} {P : Program} {e : TypeId} : ∀ {l : List (DataW H)} {d : DataW H}, d ∈ l → ∀ n ∈ d.weights P e, n ∈ DataW.weightsAll P e l
  | x :: l, d, h, n, hn => by
    unfold DataW.weightsAll
    rw [List.mem_append]
    rcases List.mem_cons.1 h with rfl | h
    · exact .inl hn
    · exact .inr (weights_all h n hn)
theorem weights_field {H : Type} {P : Program} {t : TypeId} {fs : Array Field} {parts : List (DataW H)} {j : Nat} {f : Field} {d : DataW H} (ht : P.underlying t = some (.struct fs)) (hf : fs[j]? = some f) (hd : parts[j]? = some d) : ∀ n ∈ d.weights P f.type, n ∈ DataW.weights P t (.agg parts) := by
  intro n hn
  simp only [DataW.weights, ht]
  exact DataW.weights_mem_each (j := j) (t := f.type) (by simp [hf]) hd n hn
theorem weights_elem {H : Type} {P : Program} {t e : TypeId} {elems spare : List (DataW H)} {d : DataW H} (ht : P.underlying t = some (.slice e)) (hd : d ∈ elems) : ∀ n ∈ d.weights P e, n ∈ DataW.weights P t (.slice elems spare) := by
  intro n hn
  simp only [DataW.weights, ht]
  exact List.mem_cons_of_mem _ (List.mem_append.2 (.inl (weights_all hd n hn)))
theorem weights_slice {H : Type} {P : Program} {t e : TypeId} {elems spare : List (DataW H)} (ht : P.underlying t = some (.slice e)) : (elems.length + spare.length) * P.bytesOf e ∈ DataW.weights P t (DataW.slice (H := H) elems spare) := by
  simp only [DataW.weights, ht]
  exact List.mem_cons_self
theorem wf_in {n : Int} (h : (Lit.int .i64 n).wf = true) : In64 n := by
  have := bounds_i64 h
  exact ⟨by omega, by omega⟩
section
variable {H : Type} {enc : TypeId × Value → H} {w : World}
set_option maxRecDepth 100000 in
theorem open_recs {fuel len cap : Nat} {ad : Option Addr} {x : DataW H × List MemPlace} (h : DataW.trod enc Try.prog w 0 (fun _ => true) true fuel 22 [.slice ad len cap] = some x) (hs : ∀ n ∈ x.1.weights Try.prog 22, n ≤ reachBytes) :
    ∃ l, RecsAt w ad len cap l ∧ TextsOk l ∧ len ≤ 140737488355328 := by
  have hB : Try.prog.bytesOf 58 = 32 := by kernel_rfl
  have hC : Try.prog.cellsOf 58 = 2 := by kernel_rfl
  have hS : Try.prog.cellsOf 9 = 1 := by kernel_rfl
  rcases open_slice Try.underlying22 h with ⟨hcs, _⟩ | ⟨a, l, c, m, n, D, Pl, hcs, _, hl, hm, hmm, hx, hi⟩
  · simp at hcs
    obtain ⟨rfl, rfl, rfl⟩ := hcs
    exact ⟨[], recsAt_nil w, fun r hr => (by cases hr), Nat.zero_le _⟩
  · simp at hcs
    obtain ⟨rfl, rfl, rfl⟩ := hcs
    obtain rfl : m = cap := by simpa using hmm
    have hx1 : x.1 = .slice ((List.range len).map D) ((List.range (m - len)).map fun j => D (len + j)) := congrArg Prod.fst hx
    rw [hx1] at hs
    have hlen : len ≤ 140737488355328 := by
      have := hs _ (weights_slice (P := Try.prog) (e := 58) Try.underlying22)
      rw [hB] at this
      simp only [List.length_map, List.length_range, reachBytes] at this
      omega
    have key : ∀ i, i < len → ∃ r : Rc, w.cell? (a.add (i * 2)) = some (.string r.key) ∧ w.cell? (a.add (i * 2 + 1)) = some (.string r.val) ∧ r.key.size ≤ 140737488355328 ∧ r.val.size ≤ 140737488355328 := by
      intro i hil
      obtain ⟨cs', hc, ht⟩ := hi i (by omega)
      rw [hC] at hc
      obtain ⟨_, hcl, hat⟩ := World.cells?_some hc
      obtain ⟨ys, n', _, hy, _, hyl, hf⟩ := DataW.trod_struct Try.underlying58 ht
      have h0 : DataW.trod enc Try.prog w 0 (fun _ => true) true n' 9 ((cs'.drop 0).take (Try.prog.cellsOf 9)) = ys[0]? := hf 0 _ rfl
      have h1 : DataW.trod enc Try.prog w 0 (fun _ => true) true n' 9 ((cs'.drop 1).take (Try.prog.cellsOf 9)) = ys[1]? := hf 1 _ rfl
      rw [hS] at h0 h1
      have hyl2 : ys.length = 2 := hyl
      obtain ⟨c0, c1, rfl⟩ : ∃ c0 c1, cs' = [c0, c1] := by
        match cs', hcl with
        | [c0, c1], _ => exact ⟨c0, c1, rfl⟩
      obtain ⟨y0, y1, rfl⟩ : ∃ y0 y1, ys = [y0, y1] := by
        match ys, hyl2 with
        | [y0, y1], _ => exact ⟨y0, y1, rfl⟩
      obtain ⟨s0, e0, hy0, _⟩ := DataW.trod_string Try.underlying9 (h0.trans rfl)
      obtain ⟨s1, e1, hy1, _⟩ := DataW.trod_string Try.underlying9 (h1.trans rfl)
      simp at e0 e1
      subst e0 e1
      have hDi : D i = .agg [y0.1, y1.1] := congrArg Prod.fst hy
      have hmem : D i ∈ (List.range len).map D := List.mem_map.2 ⟨i, List.mem_range.2 hil, rfl⟩
      have hbig : ∀ (fs : Array Field) (j : Nat) (f : Field) (d : DataW H) (s : ByteArray), Try.prog.underlying 58 = some (.struct fs) → fs[j]? = some f → [y0.1, y1.1][j]? = some d → d = .lit (.string s.data.toList) → s.size ≤ 140737488355328 := by
        intro fs j f d s hu hfj hdj hds
        have h1 : s.data.toList.length ∈ d.weights Try.prog f.type := by rw [hds]; simp [DataW.weights]
        have h2 := weights_field (P := Try.prog) hu hfj hdj _ h1
        rw [← hDi] at h2
        have h3 := hs _ (weights_elem (P := Try.prog) Try.underlying22 hmem _ h2)
        simp only [reachBytes, Array.length_toList] at h3
        show s.data.size ≤ _
        omega
      refine ⟨⟨s0, s1⟩, ?_, ?_, hbig _ 0 _ _ s0 Try.underlying58 rfl rfl (congrArg Prod.fst hy0), hbig _ 1 _ _ s1 Try.underlying58 rfl rfl (congrArg Prod.fst hy1)⟩
      · have := hat 0 (by omega)
        rw [Go.Deep.add_add, Nat.add_zero] at this
        exact this
      · have := hat 1 (by omega)
        rw [Go.Deep.add_add] at this
        exact this
    have hch : ∃ f : Nat → Rc, ∀ i, i < len → w.cell? (a.add (i * 2)) = some (.string (f i).key) ∧ w.cell? (a.add (i * 2 + 1)) = some (.string (f i).val) ∧ (f i).key.size ≤ 140737488355328 ∧ (f i).val.size ≤ 140737488355328 := by
      refine Classical.axiomOfChoice (r := fun i (r : Rc) => i < len → w.cell? (a.add (i * 2)) = some (.string r.key) ∧ w.cell? (a.add (i * 2 + 1)) = some (.string r.val) ∧ r.key.size ≤ 140737488355328 ∧ r.val.size ≤ 140737488355328) fun i => ?_
      by_cases h : i < len
      · obtain ⟨r, hr⟩ := key i h
        exact ⟨r, fun _ => hr⟩
      · exact ⟨⟨⟨#[]⟩, ⟨#[]⟩⟩, fun h' => absurd h' h⟩
    obtain ⟨f, hf⟩ := hch
    refine ⟨(List.range len).map f, ⟨by simp, hl, (fun e => by cases e), ?_⟩, ?_, hlen⟩
    · by_cases h0 : len = 0
      · exact .inl h0
      · obtain ⟨b, off, spot⟩ := a
        have h1 := (hf 0 (by omega)).1
        have hsp : spot = none := by simpa [Addr.add] using World.cell?_spot h1
        subst hsp
        refine .inr ⟨b, off, rfl, ?_, fun i r hi => ?_⟩
        · rw [Go.WideShapes.add_plain] at h1
          exact World.block_lt_of_cell? w _ h1
        · obtain ⟨hlt, e⟩ := List.getElem?_eq_some_iff.1 hi
          have hil : i < len := by simpa using hlt
          have e : f i = r := by simpa using e
          subst e
          have h2 := hf i hil
          rw [Go.WideShapes.add_plain, Go.WideShapes.add_plain, ← Nat.add_assoc] at h2
          exact ⟨h2.1, h2.2.1⟩
    · intro r hr
      obtain ⟨i, hi, rfl⟩ := List.mem_map.1 hr
      exact (hf i (List.mem_range.1 hi)).2.2
set_option maxRecDepth 100000 in
theorem open_batch {v : Value} {d : DataW H} {p : List MemPlace} {r : Reach} {b0 : Nat} (hv : Value.okWide Try.prog w r b0 24 v) (h : DataW.Trod enc Try.prog w 0 (fun _ => true) true 24 v d p) (hs : ∀ n ∈ d.weights Try.prog 24, n ≤ reachBytes) :
    ∃ b0 b1 b2 b3 b4 b5 l ad len cap, v = .agg #[.int .i64 b0, .int .i64 b1, .int .i64 b2, .int .i64 b3, .bool b4, .int .i64 b5, .slice ad len cap] ∧ RecsAt w ad len cap l ∧ TextsOk l ∧ len ≤ 140737488355328 ∧ Bat.wf ⟨b0, b1, b2, b3, b4, b5, l⟩ := by
  have hC2 : Try.prog.cellsOf 2 = 1 := by kernel_rfl
  have hC3 : Try.prog.cellsOf 3 = 1 := by kernel_rfl
  have hC4 : Try.prog.cellsOf 4 = 1 := by kernel_rfl
  have hC22 : Try.prog.cellsOf 22 = 1 := by kernel_rfl
  obtain ⟨cs, rfl, hsz⟩ := okWide_struct Try.underlying24 hv
  obtain ⟨fuel, hf⟩ := h
  obtain ⟨xs, n, _, hx, _, hlen, hg⟩ := DataW.trod_struct Try.underlying24 hf
  have hC7 : Try.prog.cellsOf 24 = 7 := by kernel_rfl
  obtain ⟨c0, c1, c2, c3, c4, c5, c6, rfl⟩ : ∃ c0 c1 c2 c3 c4 c5 c6, cs = #[c0, c1, c2, c3, c4, c5, c6] := by
    obtain ⟨l⟩ := cs
    match l, hsz.trans hC7 with
    | [c0, c1, c2, c3, c4, c5, c6], _ => exact ⟨c0, c1, c2, c3, c4, c5, c6, rfl⟩
  have hlen7 : xs.length = 7 := hlen
  obtain ⟨y0, y1, y2, y3, y4, y5, y6, rfl⟩ : ∃ y0 y1 y2 y3 y4 y5 y6, xs = [y0, y1, y2, y3, y4, y5, y6] := by
    match xs, hlen7 with
    | [y0, y1, y2, y3, y4, y5, y6], _ => exact ⟨y0, y1, y2, y3, y4, y5, y6, rfl⟩
  have g0 : DataW.trod enc Try.prog w 0 (fun _ => true) true n 2 (([c0, c1, c2, c3, c4, c5, c6].drop 0).take (Try.prog.cellsOf 2)) = [y0, y1, y2, y3, y4, y5, y6][0]? := hg 0 _ rfl
  rw [hC2] at g0
  have g1 : DataW.trod enc Try.prog w 0 (fun _ => true) true n 2 (([c0, c1, c2, c3, c4, c5, c6].drop 1).take (Try.prog.cellsOf 2)) = [y0, y1, y2, y3, y4, y5, y6][1]? := hg 1 _ rfl
  rw [hC2] at g1
  have g2 : DataW.trod enc Try.prog w 0 (fun _ => true) true n 3 (([c0, c1, c2, c3, c4, c5, c6].drop 2).take (Try.prog.cellsOf 3)) = [y0, y1, y2, y3, y4, y5, y6][2]? := hg 2 _ rfl
  rw [hC3] at g2
  have g3 : DataW.trod enc Try.prog w 0 (fun _ => true) true n 2 (([c0, c1, c2, c3, c4, c5, c6].drop 3).take (Try.prog.cellsOf 2)) = [y0, y1, y2, y3, y4, y5, y6][3]? := hg 3 _ rfl
  rw [hC2] at g3
  have g4 : DataW.trod enc Try.prog w 0 (fun _ => true) true n 4 (([c0, c1, c2, c3, c4, c5, c6].drop 4).take (Try.prog.cellsOf 4)) = [y0, y1, y2, y3, y4, y5, y6][4]? := hg 4 _ rfl
  rw [hC4] at g4
  have g5 : DataW.trod enc Try.prog w 0 (fun _ => true) true n 3 (([c0, c1, c2, c3, c4, c5, c6].drop 5).take (Try.prog.cellsOf 3)) = [y0, y1, y2, y3, y4, y5, y6][5]? := hg 5 _ rfl
  rw [hC3] at g5
  have g6 : DataW.trod enc Try.prog w 0 (fun _ => true) true n 22 (([c0, c1, c2, c3, c4, c5, c6].drop 6).take (Try.prog.cellsOf 22)) = [y0, y1, y2, y3, y4, y5, y6][6]? := hg 6 _ rfl
  rw [hC22] at g6
  obtain ⟨n0, e0, _, w0⟩ := DataW.trod_int Try.underlying2 (g0.trans rfl)
  obtain ⟨n1, e1, _, w1⟩ := DataW.trod_int Try.underlying2 (g1.trans rfl)
  obtain ⟨n2, e2, _, w2⟩ := DataW.trod_int Try.underlying3 (g2.trans rfl)
  obtain ⟨n3, e3, _, w3⟩ := DataW.trod_int Try.underlying2 (g3.trans rfl)
  obtain ⟨n4, e4, _⟩ := DataW.trod_bool Try.underlying4 (g4.trans rfl)
  obtain ⟨n5, e5, _, w5⟩ := DataW.trod_int Try.underlying3 (g5.trans rfl)
  have e6 : ((#[c0, c1, c2, c3, c4, c5, c6] : Array Value).toList.drop 6).take 1 = [c6] := rfl
  have g6' : DataW.trod enc Try.prog w 0 (fun _ => true) true n 22 [c6] = some y6 := g6.trans rfl
  have hsl : ∃ ad len cap, c6 = .slice ad len cap := by
    rcases open_slice Try.underlying22 g6' with ⟨hcs, _⟩ | ⟨a, l, c, m, n, D, Pl, hcs, _⟩
    · exact ⟨none, 0, 0, by simpa using hcs⟩
    · exact ⟨some a, l, c, by simpa using hcs⟩
  obtain ⟨ad, len, cap, rfl⟩ := hsl
  have hd : d = .agg [y0.1, y1.1, y2.1, y3.1, y4.1, y5.1, y6.1] := congrArg Prod.fst hx
  obtain ⟨l, hr, ht, hl⟩ := open_recs g6' (fun k hk => hs k (by
    rw [hd]
    exact weights_field (P := Try.prog) (j := 6) Try.underlying24 rfl rfl k hk))
  simp at e0 e1 e2 e3 e4 e5
  subst e0 e1 e2 e3 e4 e5
  exact ⟨n0, n1, n2, n3, n4, n5, l, ad, len, cap, rfl, hr, ht, hl, ⟨wf_in w0, wf_in w1, wf_in w2, wf_in w3, wf_in w5⟩⟩
end
end Go.Proofs.Ytlpmfhccfihnfaa
