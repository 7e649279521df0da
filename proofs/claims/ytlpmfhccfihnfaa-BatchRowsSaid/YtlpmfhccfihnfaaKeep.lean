/- 'append(v, xs...)' onto a row of the call's own, where v is read again behind it: what v holds stays. -/
import Derived.Test.YtlpmfhccfihnfaaBytes
import Derived.Below
namespace Go.Proofs.Ytlpmfhccfihnfaa
open Go.RowKit Go.OpenShut
set_option linter.unusedVariables false

theorem run_append_keep {P : Program} (w : World) (base : Nat) (t ty e : TypeId) (i : TypeInfo) (z : Value) (size bytes : Nat) (ht : P.underlying t = some (.slice e)) (hi : P.info? e = some i) (hz : i.zero = some z)
    (hsize : i.size = size) (hby : i.bytes = bytes) (hzs : z.cells.size = size) (hsz : 0 < size)
    (g cap : Nat) (n : Nat) (xs : List Value) (hown : w.ownsRow base e size (.slice (some ⟨g, 0, none⟩) n cap) n xs)
    (a : Addr) (m c : Nat) (news : List Value) (hl : news.length = m * size) (hnews : ∀ j u, news[j]? = some u → w.cell? (a.add j) = some u) (h1 : ∀ u ∈ news, u.oneCell' = true)
    (h63 : n + m ≤ maxLen) (hbytes : (n + m) * bytes ≤ 140737488355328) (hbase : base ≤ w.heap.size) :
    ∃ v' w', (Builtin.append_ #[t, t] ty #[.slice (some ⟨g, 0, none⟩) n cap, .slice (some a) m c]).run P w = .ok v' w' ∧ w'.ownsRow base e size v' (n + m) (xs ++ news) ∧ w.grownBy w' (some g) ∧
      v' ≠ .slice none 0 0 ∧ w'.ownsRow base e size (.slice (some ⟨g, 0, none⟩) n cap) n xs := by
  obtain ⟨v', w', hr, h2, h3, h4⟩ := run_append_own (P := P) w base t ty e i z size bytes ht hi hz hsize hby hzs hsz (.slice (some ⟨g, 0, none⟩) n cap) n xs hown a m c news hl hnews h1 h63 hbytes hbase
  have hne : v' ≠ .slice none 0 0 := fun h => by have := (h4.1 h).1; cases this
  refine ⟨v', w', hr, h2, h3, hne, ?_⟩
  subst hsize
  subst hby
  rcases hown.2 with ⟨h, _⟩ | ⟨g', cap', cur, h, hbg, hg, hnc, hcm, hcs, htake⟩
  · cases h
  · cases h
    refine ⟨hown.1, .inr ?_⟩
    by_cases hroom : n + m ≤ cap
    · have hfit : n * i.size + news.length ≤ cur.size := by rw [hl, hcs, ← Nat.add_mul]; exact Nat.mul_le_mul_right _ hroom
      have hr2 := run_append_room (P := P) w t ty e i ht hi g n cap cur hg a m c news hl hnews h1 hroom hfit
      rw [hr2] at hr
      cases hr
      refine ⟨g, cap, _, rfl, hbg, setRow_heap w g cur _ e _ hg, hnc, hcm, ?_, ?_⟩
      · simp only [List.size_toArray, List.length_append, List.length_take, List.length_drop, Array.length_toList]
        omega
      · rw [htake, List.append_assoc]
        rw [← hown.1]
        exact List.take_left
    · have holds : ∀ j u, xs[j]? = some u → w.cell? ((⟨g, 0, none⟩ : Addr).add j) = some u := hown.cells (g := g) rfl
      have hr2 := run_append_grow (P := P) w t ty e i z ht hi hz ⟨g, 0, none⟩ n cap xs hown.1 holds a m c news hl hnews (by omega) (by simp only [maxLen] at h63; omega) (growslice_fits (by omega) hbytes)
      rw [hr2] at hr
      cases hr
      have hlt : g < w.heap.size := (Array.getElem?_eq_some_iff.1 hg).1
      refine ⟨g, cap, cur, rfl, hbg, ?_, hnc, hcm, hcs, htake⟩
      exact (Below.heap_alloc w.drew _ g hlt).trans hg
/-- 'append(v, xs...)', v the call's own, xs any slice of bytes, nil too: v itself reads as it did, and so does every other block that was there. -/
theorem append_keep {w : World} {ops : Array Oper} {rest : List Oper} {o : Oper} {a : Act} {Q : Exit → Act → World → Prop} (hgd : o.guard = none) (s x : Operand)
    (ho : o.op = .call { callee := .builtin .append, args := #[s, x], argTypes := #[34, 34] })
    (base g cap n : Nat) (xs ys : List Nat) (hs : a.eval s = .slice (some ⟨g, 0, none⟩) n cap) (hown : w.ownsRow base 5 1 (.slice (some ⟨g, 0, none⟩) n cap) n (vals xs)) (hbase : base ≤ w.heap.size)
    (ad : Option Addr) (len cap' : Nat) (hx : a.eval x = .slice ad len cap') (hr : Row w ad len cap' ys) (hn : n + len ≤ 140737488355328)
    (w0 : World) (hb0 : Below base w0 w)
    (h : ∀ g' cp w', w'.ownsRow base 5 1 (.slice (some ⟨g', 0, none⟩) (n + len) cp) (n + len) (vals (xs ++ ys)) → w'.ownsRow base 5 1 (.slice (some ⟨g, 0, none⟩) n cap) n (vals xs) → Below base w0 w' →
      (∀ k, k < w.heap.size → k ≠ g → w'.heap[k]? = w.heap[k]?) → wpList Try.prog ops Q rest (a.put o.dst (.slice (some ⟨g', 0, none⟩) (n + len) cp)) w') :
    wpList Try.prog ops Q (o :: rest) a w := by
  obtain ⟨i0, hi, hz0, hz1, hz2⟩ := info_parts info5
  have hgb : base ≤ g := (pre_owns hown).2.2.2.1
  rcases ad with _ | ad
  · have hcap := hr.2 rfl
    have hl := hr.1.fits
    have hyl := hr.1.length
    subst hcap
    obtain rfl : len = 0 := by omega
    obtain rfl : ys = [] := List.eq_nil_of_length_eq_zero hyl
    refine wpList_append_own_none hgd s x 34 ho base 5 i0 1 Try.underlying34 hi _ n (vals xs) hs hown hx ?_
    exact h g cap w (by simpa using hown) hown hb0 (fun _ _ _ => rfl)
  · refine wpList_plain hgd fun K hK => ?_
    have hnews : ∀ j u, (vals ys)[j]? = some u → w.cell? (ad.add j) = some u := by
      intro j u hj
      have hjl : j < ys.length := by
        have := (List.getElem?_eq_some_iff.1 hj).1
        rwa [length_vals] at this
      obtain ⟨a', ha', hs'⟩ := hr.1.source (by have := hr.1.length; omega)
      obtain rfl := Option.some.inj ha'
      exact hs' j u hj
    obtain ⟨v', w', hrun, h2, h3, h4, h5⟩ := run_append_keep (P := Try.prog) w base 34 o.type 5 i0 (.int .u8 0) 1 1 Try.underlying34 hi hz0 hz1 hz2 rfl (by decide) g cap n (vals xs) hown ad len cap' (vals ys) (by rw [length_vals, hr.1.length]; simp) hnews (vals_one ys) (by unfold maxLen; omega) (by omega) hbase
    unfold Oper.wp execOp
    simp only [ho, resolve, invoke, builtin, Sem.run_bind, Sem.run_pure, Result.andThen_ok, List.map_toArray, List.map_cons, List.map_nil, hs, hx, hrun]
    rw [← vals_append] at h2
    have hb : Below base w0 w' := hb0.grown h3 hbase (fun k hk => by cases hk; exact hgb)
    rcases h2.2 with ⟨h', _⟩ | ⟨g', cp, cur, rfl, _⟩
    · exact absurd h' h4
    · exact hK _ _ (h g' cp w' h2 h5 hb (fun k hk hkg => h3.block k hk (fun e => hkg (by cases e; rfl))))
end Go.Proofs.Ytlpmfhccfihnfaa
