/- 'append' onto the call's own row of options: in a plain list of operations, and in a region that draws its order. -/
import Derived.Test.YtifogkacjfpipaaConfigOf
import Derived.OwnWalk
import Derived.Deep.RegionHeld3
namespace Go.Proofs.Ytifogkacjfpipaa
open Go.RowKit
open Go.RuneMath
set_option linter.unusedVariables false

theorem info20 : (Try.prog.info? 20).map (fun i => (i.zero, i.size, i.bytes)) = some (some .nilIface, 1, 16) := by kernel_rfl
theorem el_one (v : El) : v.val.oneCell' = true := by cases v <;> rfl
theorem run_opts_append (w : World) (base : Nat) (v : Value) (l ys : List El) (ty : Nat) (hown : Opts w base v l) (ad : Addr) (cap : Nat) (hr : ∀ (j : Nat) u, ys[j]? = some u → w.cell? (ad.add j) = some u.val) (hn : l.length + ys.length ≤ 1000) (hbase : base ≤ w.heap.size) :
    ∃ v' w', (Builtin.append_ #[46, 46] ty #[v, .slice (some ad) ys.length cap]).run Try.prog w = .ok v' w' ∧ Opts w' base v' (l ++ ys) ∧ w.grownBy w' v.ownBlock := by
  obtain ⟨i0, hi, hz0, hz1, hz2⟩ := info_parts info20
  have hnews : ∀ j u, (ys.map El.val)[j]? = some u → w.cell? (ad.add j) = some u := by
    intro j u hj
    rw [List.getElem?_map] at hj
    obtain ⟨y, hy, rfl⟩ := Option.map_eq_some_iff.1 hj
    exact hr j y hy
  obtain ⟨v', w', hrun, h2, h3, _⟩ := run_append_own (P := Try.prog) w base 46 ty 20 i0 .nilIface 1 16 Try.underlying46 hi hz0 hz1 hz2 rfl (by decide) v l.length (l.map El.val) hown ad ys.length cap (ys.map El.val) (by simp) hnews (by intro u hu; obtain ⟨y, _, rfl⟩ := List.mem_map.1 hu; exact el_one y) (by unfold maxLen; omega) (by omega) hbase
  refine ⟨v', w', hrun, ?_, h3⟩
  unfold Opts
  rw [List.map_append, List.length_append]
  exact h2
/-- In a region that draws its order. -/
theorem held_opts {w : World} {ops : Array Oper} {o : Oper} {a : Act} {K : Act → World → Prop} {Q : Exit → Act → World → Prop} {Z : Prop} [Decidable (Region.wanted o (yielded ops a.tmps) = true)] (hw : Region.wanted o (yielded ops a.tmps) = true) (s x : Operand)
    (ho : o.op = .call { callee := .builtin .append, args := #[s, x], argTypes := #[46, 46] })
    (base : Nat) (l ys : List El) (v : Value) (hs : a.eval s = v) (hown : Opts w base v l) (hbase : base ≤ w.heap.size)
    (ad : Addr) (len cap : Nat) (hlen : len = ys.length) (hx : a.eval x = .slice (some ad) len cap) (hr : ∀ (j : Nat) u, ys[j]? = some u → w.cell? (ad.add j) = some u.val) (hn : l.length + ys.length ≤ 1000)
    (h : ∀ v' w', Opts w' base v' (l ++ ys) → w.grownBy w' v.ownBlock → K (a.put o.dst v') w') :
    if Region.wanted o (yielded ops a.tmps) = true then Oper.wp Try.prog o a w K Q else Z := by
  subst hlen
  rw [if_pos hw]
  obtain ⟨v', w', hrun, h2, h3⟩ := run_opts_append w base v l ys o.type hown ad cap hr hn hbase
  unfold Oper.wp execOp
  simp only [ho, resolve, invoke, builtin, Sem.run_bind, Sem.run_pure, Result.andThen_ok, List.map_toArray, List.map_cons, List.map_nil, hs, hx, hrun]
  exact h v' w' h2 h3
/-- In a plain list of operations. -/
theorem list_opts {w : World} {ops : Array Oper} {rest : List Oper} {o : Oper} {a : Act} {Q : Exit → Act → World → Prop} (hw : Region.wanted o (yielded ops a.tmps) = true) (s x : Operand)
    (ho : o.op = .call { callee := .builtin .append, args := #[s, x], argTypes := #[46, 46] })
    (base : Nat) (l ys : List El) (v : Value) (hs : a.eval s = v) (hown : Opts w base v l) (hbase : base ≤ w.heap.size)
    (ad : Addr) (len cap : Nat) (hlen : len = ys.length) (hx : a.eval x = .slice (some ad) len cap) (hr : ∀ (j : Nat) u, ys[j]? = some u → w.cell? (ad.add j) = some u.val) (hn : l.length + ys.length ≤ 1000)
    (h : ∀ v' w', Opts w' base v' (l ++ ys) → w.grownBy w' v.ownBlock → wpList Try.prog ops Q rest (a.put o.dst v') w') :
    wpList Try.prog ops Q (o :: rest) a w := by
  refine BigFrame.wpList_want hw fun K hK => ?_
  have := held_opts (K := K) (Q := Q) (Z := True) hw s x ho base l ys v hs hown hbase ad len cap hlen hx hr hn (fun v' w' h2 h3 => hK _ _ (h v' w' h2 h3))
  rw [if_pos hw] at this
  exact this
theorem Opts.below {w w' : World} {base : Nat} {v : Value} {l : List El} (h : Opts w base v l) (hb : Below w.heap.size w w') : Opts w' base v l := by
  refine ⟨h.1, ?_⟩
  rcases h.2 with hn | ⟨g, cap, cur, rfl, hbg, hh, r⟩
  · exact .inl hn
  · exact .inr ⟨g, cap, cur, rfl, hbg, (hb.block g (lt_of_block hh)).trans hh, r⟩
theorem Opts.fill {w : World} {base k : Nat} {v : Value} {l : List El} {p q r s : Value} (h : Opts w base v l) (hk : k < base) : Opts ((((w.setCell ⟨k, 0, none⟩ p).setCell ⟨k, 1, none⟩ q).setCell ⟨k, 2, none⟩ r).setCell ⟨k, 3, none⟩ s) base v l :=
  ownsRow_setCell_below (ownsRow_setCell_below (ownsRow_setCell_below (ownsRow_setCell_below h (a := ⟨k, 0, none⟩) hk p) (a := ⟨k, 1, none⟩) hk q) (a := ⟨k, 2, none⟩) hk r) (a := ⟨k, 3, none⟩) hk s
theorem opts_nil (w : World) (base : Nat) : Opts w base (.slice none 0 0) [] := World.ownsRow_nil w base 20 1
/-- What an append leaves of a block below the rows. -/
theorem CfAt.grown {w w' : World} {base k : Nat} {x : Cf} {v : Value} {l : List El} (h : CfAt w k x) (ho : Opts w base v l) (hk : k < base) (hg : w.grownBy w' v.ownBlock) : CfAt w' k x := by
  unfold CfAt at *
  rw [hg.block k (lt_of_block h) (fun e => by have := (ho.lt k e.symm).1; omega)]
  exact h
theorem Below.opts {w0 w w' : World} {base B : Nat} {v : Value} {l : List El} (h : Below B w0 w) (ho : Opts w base v l) (hB : B ≤ base) (hs : B ≤ w.heap.size) (hg : w.grownBy w' v.ownBlock) : Below B w0 w' :=
  h.grown hg hs (fun k hk => by have := (ho.lt k hk).1; omega)
end Go.Proofs.Ytifogkacjfpipaa
