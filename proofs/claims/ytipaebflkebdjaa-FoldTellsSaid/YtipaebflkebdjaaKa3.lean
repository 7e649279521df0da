/- Parts of a proof, merged: Keep, Keep2, VarUse, Grow, BatBits, BatRecs, Kinds, RegionZ, Zt, BatSame, BatInner, CrcCommon, CrcOf, CrcSeal, SeqRight, CrcRef, CrcSealed, BatWrite, BatUse. -/
import Derived.Below
import Derived.Deep.RegionHeld3
import Derived.OwnWalk
import Derived.BigQuiet
import Derived.Deep.QuietTactic
import Derived.WalkKit
import Derived.ProofKit
import Derived.Laws.ResultCell
import Derived.Deep.CutRange
import Derived.Outline
import Derived.Test.YtipaebflkebdjaaRows
import Derived.IntWalk
import Derived.Lib.Hide
import Derived.Test.YtipaebflkebdjaaKa2
import Derived.Test.YtipaebflkebdjaaKa1
namespace Go.Proofs.Ytipaebflkebdjaa
open Go.RowKit Go.OpenShut
set_option linter.unusedVariables false

theorem run_append_keep {P : Program} (w : World) (base : Nat) (t ty e : TypeId) (i : TypeInfo) (z : Value) (size bytes : Nat) (ht : P.underlying t = some (.slice e)) (hi : P.info? e = some i) (hz : i.zero = some z)
 (hsize : i.size = size) (hby : i.bytes = bytes) (hzs : z.cells.size = size) (hsz : 0 < size)
 (g cap : Nat) (n : Nat) (xs : List Value) (hown : w.ownsRow base e size (.slice (some ⟨g, 0, none⟩) n cap) n xs)
 (a : Addr) (m c : Nat) (news : List Value) (hl : news.length = m * size) (hnews : ∀ j u, news[j]? = some u → w.cell? (a.add j) = some u) (h1 : ∀ u ∈ news, u.oneCell' = true)
 (h63 : n + m ≤ maxLen) (hbytes : (n + m) * bytes ≤ 140737488355328) (hbase : base ≤ w.heap.size) :
 ∃ v' w', (Builtin.append_ #[t, t] ty #[.slice (some ⟨g, 0, none⟩) n cap, .slice (some a) m c]).run P w = .ok v' w' ∧ w'.ownsRow base e size v' (n + m) (xs ++ news) ∧ w.grownBy w' (some g) ∧
   v' ≠ .slice none 0 0 ∧ w'.ownsRow base e size (.slice (some ⟨g, 0, none⟩) n cap) n xs := by
 obtain ⟨v', w', hr, h2, h3, h4⟩ := run_append_own (P := P) w base t ty e i z size bytes ht hi hz hsize hby hzs hsz (.slice (some ⟨g, 0, none⟩) n cap) n xs hown a m c news hl hnews h1 h63 hbytes hbase
 have hne : v' ≠ .slice none 0 0 := fun h => by have := (h4.1 h).1; cases this
 refine ⟨v', w', hr, h2, h3, hne, ?_⟩
 subst hsize
 subst hby
 rcases hown.2 with ⟨h, _⟩ | ⟨g', cap', cur, h, hbg, hg, hnc, hcm, hcs, htake⟩
 · cases h
 · cases h
   refine ⟨hown.1, .inr ?_⟩
   by_cases hroom : n + m ≤ cap
   · have hfit : n * i.size + news.length ≤ cur.size := by rw [hl, hcs, ← Nat.add_mul]; exact Nat.mul_le_mul_right _ hroom
     have hr2 := run_append_room (P := P) w t ty e i ht hi g n cap cur hg a m c news hl hnews h1 hroom hfit
     rw [hr2] at hr
     cases hr
     refine ⟨g, cap, _, rfl, hbg, setRow_heap w g cur _ e _ hg, hnc, hcm, ?_, ?_⟩
     · simp only [List.size_toArray, List.length_append, List.length_take, List.length_drop, Array.length_toList]
       omega
     · rw [htake, List.append_assoc]
       rw [← hown.1]
       exact List.take_left
   · have holds : ∀ j u, xs[j]? = some u → w.cell? ((⟨g, 0, none⟩ : Addr).add j) = some u := hown.cells (g := g) rfl
     have hr2 := run_append_grow (P := P) w t ty e i z ht hi hz ⟨g, 0, none⟩ n cap xs hown.1 holds a m c news hl hnews (by omega) (by simp only [maxLen] at h63; omega) (growslice_fits (by omega) hbytes)
     rw [hr2] at hr
     cases hr
     have hlt : g < w.heap.size := (Array.getElem?_eq_some_iff.1 hg).1
     refine ⟨g, cap, cur, rfl, hbg, ?_, hnc, hcm, hcs, htake⟩
     exact (Below.heap_alloc w.drew _ g hlt).trans hg
end Go.Proofs.Ytipaebflkebdjaa
namespace Go.Proofs.Ytipaebflkebdjaa
open Go.RowKit Go.OpenShut
set_option linter.unusedVariables false

theorem row_news {w : World} {ad : Addr} {len cap : Nat} {ys : List Nat} (hr : Row w (some ad) len cap ys) : ∀ j u, (vals ys)[j]? = some u → w.cell? (ad.add j) = some u := by
 intro j u hj
 have hjl : j < ys.length := by
  have := (List.getElem?_eq_some_iff.1 hj).1
  rwa [length_vals] at this
 obtain ⟨a', ha', hs'⟩ := hr.1.source (by have := hr.1.length; omega)
 obtain rfl := Option.some.inj ha'
 exact hs' j u hj
theorem run_keep_any (w : World) (base n : Nat) (v : Value) (xs ys : List Nat) (ty : TypeId) (hown : w.ownsRow base 5 1 v n (vals xs)) (ad : Addr) (len cap' : Nat) (hr : Row w (some ad) len cap' ys) (hlen : 0 < len) (hn : n + len ≤ 140737488355328) (hbase : base ≤ w.heap.size) :
 ∃ g' cp w', (Builtin.append_ #[116, 116] ty #[v, .slice (some ad) len cap']).run Try.prog w = .ok (.slice (some ⟨g', 0, none⟩) (n + len) cp) w' ∧ w'.ownsRow base 5 1 (.slice (some ⟨g', 0, none⟩) (n + len) cp) (n + len) (vals (xs ++ ys)) ∧
   w'.ownsRow base 5 1 v n (vals xs) ∧ w.grownBy w' v.ownBlock := by
 obtain ⟨i0, hi, hz0, hz1, hz2⟩ := info_parts info5
 have hcount : (vals ys).length = len * 1 := by rw [length_vals, hr.1.length]; simp
 rcases hown.2 with ⟨rfl, rfl⟩ | ⟨g, cap, cur, rfl, _⟩
 · obtain ⟨v', w', hrun, h2, h3, h4⟩ := run_append_own (P := Try.prog) w base 116 ty 5 i0 (.int .u8 0) 1 1 Try.underlying116 hi hz0 hz1 hz2 rfl (by decide) (.slice none 0 0) 0 (vals xs) hown ad len cap' (vals ys) hcount (row_news hr) (vals_one ys) (by unfold maxLen; omega) (by omega) hbase
   rw [← vals_append] at h2
   rcases h2.2 with ⟨h', h0⟩ | ⟨g', cp, cur, rfl, _⟩
   · omega
   · exact ⟨g', cp, w', hrun, h2, ⟨hown.1, .inl ⟨rfl, rfl⟩⟩, h3⟩
 · obtain ⟨v', w', hrun, h2, h3, h4, h5⟩ := run_append_keep (P := Try.prog) w base 116 ty 5 i0 (.int .u8 0) 1 1 Try.underlying116 hi hz0 hz1 hz2 rfl (by decide) g cap n (vals xs) hown ad len cap' (vals ys) hcount (row_news hr) (vals_one ys) (by unfold maxLen; omega) (by omega) hbase
   rw [← vals_append] at h2
   rcases h2.2 with ⟨h', _⟩ | ⟨g', cp, cur, rfl, _⟩
   · exact absurd h' h4
   · exact ⟨g', cp, w', hrun, h2, h5, h3⟩
/-- The operation, behind a guard that says yes or with none, in a region that draws its order. -/
theorem held_append {w : World} {ops : Array Oper} {o : Oper} {a : Act} {K : Act → World → Prop} {Q : Exit → Act → World → Prop} {Z : Prop} [Decidable (Region.wanted o (yielded ops a.tmps) = true)] (hw : Region.wanted o (yielded ops a.tmps) = true) (s x : Operand)
 (ho : o.op = .call { callee := .builtin .append, args := #[s, x], argTypes := #[116, 116] })
 (base n : Nat) (xs ys : List Nat) (v : Value) (hs : a.eval s = v) (hown : w.ownsRow base 5 1 v n (vals xs)) (hbase : base ≤ w.heap.size)
 (ad : Addr) (len cap' : Nat) (hx : a.eval x = .slice (some ad) len cap') (hr : Row w (some ad) len cap' ys) (hlen : 0 < len) (hn : n + len ≤ 140737488355328)
 (w0 : World) (hb0 : Below base w0 w)
 (h : ∀ g' cp w', w'.ownsRow base 5 1 (.slice (some ⟨g', 0, none⟩) (n + len) cp) (n + len) (vals (xs ++ ys)) → w'.ownsRow base 5 1 v n (vals xs) → Below base w0 w' → K (a.put o.dst (.slice (some ⟨g', 0, none⟩) (n + len) cp)) w') :
 if Region.wanted o (yielded ops a.tmps) = true then Oper.wp Try.prog o a w K Q else Z := by
 rw [if_pos hw]
 obtain ⟨g', cp, w', hrun, h2, h3, h4⟩ := run_keep_any w base n v xs ys o.type hown ad len cap' hr hlen hn hbase
 have hb : Below base w0 w' := hb0.grown h4 hbase (fun k hk => (hown.lt k hk).1)
 unfold Oper.wp execOp
 simp only [ho, resolve, invoke, builtin, Sem.run_bind, Sem.run_pure, Result.andThen_ok, List.map_toArray, List.map_cons, List.map_nil, hs, hx, hrun]
 exact h g' cp w' h2 h3 hb
end Go.Proofs.Ytipaebflkebdjaa
namespace Go.Proofs.Ytipaebflkebdjaa
open Go.RowKit
open Go.VarMath hiding AllB
set_option linter.unusedVariables false

theorem encN_all {n : Int} (h0 : -9223372036854775808 ≤ n) (h1 : n ≤ 9223372036854775807) : AllB (encN n) := enc_all (zig_lt h0 h1)
theorem encN_len {n : Int} (h0 : -9223372036854775808 ≤ n) (h1 : n ≤ 9223372036854775807) : 1 ≤ (encN n).length ∧ (encN n).length ≤ 10 := enc_len (zig_lt h0 h1)
def In64 (n : Int) : Prop := -9223372036854775808 ≤ n ∧ n ≤ 9223372036854775807
/-- A slice of int64 whose first len numbers are zs. -/
structure Nums (w : World) (ad : Option Addr) (len : Nat) (zs : List Int) : Prop where
 length : zs.length = len
 all : ∀ n ∈ zs, In64 n
 cells : len = 0 ∨ ∃ b off, ad = some ⟨b, off, none⟩ ∧ ∀ i, i < len → w.cell? ⟨b, off + i, none⟩ = some (.int .i64 (zs.getD i 0))
theorem Nums.keep {w w' : World} {ad : Option Addr} {len : Nat} {zs : List Int} (h : Nums w ad len zs) {B : Nat} (hb : Below B w w') (hB : w.heap.size ≤ B) : Nums w' ad len zs := by
 refine ⟨h.length, h.all, ?_⟩
 rcases h.cells with h0 | ⟨b, off, e, hc⟩
 · exact .inl h0
 · refine .inr ⟨b, off, e, fun i hi => ?_⟩
   have := hc i hi
   rw [hb.cell (p := ⟨b, off + i, none⟩) (by have := World.block_lt_of_cell? w _ this; exact Nat.lt_of_lt_of_le this hB)]
   exact this
theorem IsRow.nums {w : World} {a : Option Addr} {len cap : Nat} {zs : List Int} (h : IsRow .i64 w a len cap zs) : Nums w a len (zs.take len) ∧ len ≤ cap := by
 rcases h with ⟨rfl, rfl, rfl, rfl⟩ | ⟨x, rfl, hl, hm, hz, hc, hw⟩
 · exact ⟨⟨rfl, (fun x hx => by cases hx), .inl rfl⟩, Nat.le_refl _⟩
 · refine ⟨⟨by rw [List.length_take]; omega, ?_, ?_⟩, hl⟩
   · intro n hn
     have := bounds_i64 (hw n (List.mem_of_mem_take hn))
     exact ⟨by omega, by omega⟩
   · by_cases h0 : len = 0
     · exact .inl h0
     · obtain ⟨b, off, spot⟩ := x
       have h1 := hc 0 (by omega)
       have hs : spot = none := by simpa [Addr.add] using World.cell?_spot h1
       subst hs
       refine .inr ⟨b, off, rfl, fun i hi => ?_⟩
       have h2 := hc i (by omega)
       rw [add_at] at h2
       rw [h2]
       have e : (zs.take len).getD i 0 = zs.getD i 0 := by rw [List.getD_eq_getElem?_getD, List.getElem?_take, if_pos hi, ← List.getD_eq_getElem?_getD]
       rw [e]
end Go.Proofs.Ytipaebflkebdjaa
namespace Go.Proofs.Ytipaebflkebdjaa
open Go.RowKit
set_option linter.unusedVariables false

section
variable {w w' w1 w2 : World} {kt k : Nat}
theorem grow_refl (w : World) (r : Option Nat) : w.grownBy w r := ⟨rfl, rfl, rfl, Nat.le_refl _, fun _ _ _ => rfl⟩
theorem grow_trans {r : Option Nat} (h : w.grownBy w1 r) (h2 : w1.grownBy w2 r) : w.grownBy w2 r :=
 ⟨h2.os.trans h.os, h2.tape.trans h.tape, h2.output.trans h.output, Nat.le_trans h.size h2.size, fun k hk hn => (h2.block k (Nat.lt_of_lt_of_le hk h.size) hn).trans (h.block k hk hn)⟩
theorem grow_drewN {r : Option Nat} (h : w.grownBy w1 r) (n : Nat) : w.grownBy (w1.drewN n) r := grow_trans h ⟨rfl, rfl, rfl, Nat.le_refl _, fun _ _ _ => rfl⟩
theorem grow_alloc {r : Option Nat} (h : w.grownBy w1 r) (o : Obj) : w.grownBy (w1.alloc o) r := grow_trans h (World.grownBy_alloc w1 o r)
theorem grow_set (h : w.grownBy w1 (some kt)) (j : Nat) (u : Value) : w.grownBy (w1.setCell ⟨kt, j, none⟩ u) (some kt) :=
 grow_trans h ⟨rfl, rfl, rfl, by simp, fun k hk hn => by
  show (w1.heap.modify kt _)[k]? = _
  rw [Array.getElem?_modify, if_neg (fun e => hn (by rw [e]))]⟩
theorem grow_below {r : Option Nat} (h : w.grownBy w1 r) (hb : Below w1.heap.size w1 w2) : w.grownBy w2 r :=
 grow_trans h ⟨hb.os, hb.tape, hb.output, hb.size, fun k hk _ => hb.block k hk⟩
theorem grow_own {r : Option Nat} (h : w.grownBy w1 (some kt)) (h2 : w1.grownBy w2 r) (hr : ∀ k, r = some k → w.heap.size ≤ k) : w.grownBy w2 (some kt) :=
 ⟨h2.os.trans h.os, h2.tape.trans h.tape, h2.output.trans h.output, Nat.le_trans h.size h2.size, fun k hk hn => (h2.block k (Nat.lt_of_lt_of_le hk h.size) (fun e => by have := hr k e.symm; omega)).trans (h.block k hk hn)⟩
theorem grow_new {w w1 : World} {kt k j : Nat} (h : w.grownBy w1 (some kt)) (hk : w.heap.size ≤ k) (u : Value) : w.grownBy (w1.setCell ⟨k, j, none⟩ u) (some kt) :=
 ⟨h.os, h.tape, h.output, by simpa using h.size, fun i hi hn => by
  show (w1.heap.modify k _)[i]? = _
  rw [Array.getElem?_modify, if_neg (by omega)]
  exact h.block i hi hn⟩
theorem box_set {cs : Array Value} {t : TypeId} (h : w.heap[k]? = some (.cells cs t (0, 0))) (j : Nat) (u : Value) : (w.setCell ⟨k, j, none⟩ u).heap[k]? = some (.cells (cs.setIfInBounds j u) t (0, 0)) := by
 have hlt := lt_of_block h
 have h' : w.heap[k] = .cells cs t (0, 0) := by simpa [Array.getElem?_eq_getElem hlt] using h
 show (w.heap.modify k _)[k]? = _
 rw [Array.getElem?_eq_getElem (by simpa using hlt), Array.getElem_modify_self, h']
 rfl
theorem box_off {o : Obj} (h : w.heap[k]? = some o) {j i : Nat} (hj : j ≠ k) (u : Value) : (w.setCell ⟨j, i, none⟩ u).heap[k]? = some o := by
 rw [← h]
 show (w.heap.modify j _)[k]? = _
 rw [Array.getElem?_modify, if_neg hj]
end
theorem size_set (w : World) (a : Addr) (u : Value) : (w.setCell a u).heap.size = w.heap.size := by simp
theorem below_grown {W W' : World} {k B : Nat} (h : W.grownBy W' (some k)) (hk : B ≤ k) (hB : B ≤ W.heap.size) : Below B W W' :=
 ⟨h.os, h.tape, h.output, h.size, fun j hj => h.block j (Nat.lt_of_lt_of_le hj hB) (fun e => by cases e; omega)⟩
theorem results_cell_one {fn : Func} {p : Tmp} {ty : TypeId} (h : fn.results = #[.cell p ty]) (tmps : Array Value) (P : Program) (w : World) :
 (results fn tmps).run P w = ((asAddr (tmps.getD p undef)).run P w).andThen fun a w₁ => (loadVar ty a).run P w₁ := by
 simp only [results, h]
 simp [Sem.run_bind, Result.andThen]
end Go.Proofs.Ytipaebflkebdjaa
namespace Go.Proofs.Ytipaebflkebdjaa
open Go.RowKit
open Go.BatMath hiding AllB getD_lt take_all

set_option linter.unusedVariables false

section
variable {w : World} {k : Nat} {b0 b1 b2 b3 : Int} {b4 : Bool} {b5 : Int} {v : Value}
theorem BoxAt.s0 (h : BoxAt w k b0 b1 b2 b3 b4 b5 v) (n : Int) : BoxAt (w.setCell ⟨k, 0, none⟩ (.int .i64 n)) k n b1 b2 b3 b4 b5 v := box_set h 0 _
theorem BoxAt.s1 (h : BoxAt w k b0 b1 b2 b3 b4 b5 v) (n : Int) : BoxAt (w.setCell ⟨k, 1, none⟩ (.int .i64 n)) k b0 n b2 b3 b4 b5 v := box_set h 1 _
theorem BoxAt.s2 (h : BoxAt w k b0 b1 b2 b3 b4 b5 v) (n : Int) : BoxAt (w.setCell ⟨k, 2, none⟩ (.int .i64 n)) k b0 b1 n b3 b4 b5 v := box_set h 2 _
theorem BoxAt.s3 (h : BoxAt w k b0 b1 b2 b3 b4 b5 v) (n : Int) : BoxAt (w.setCell ⟨k, 3, none⟩ (.int .i64 n)) k b0 b1 b2 n b4 b5 v := box_set h 3 _
theorem BoxAt.s4 (h : BoxAt w k b0 b1 b2 b3 b4 b5 v) (n : Bool) : BoxAt (w.setCell ⟨k, 4, none⟩ (.bool n)) k b0 b1 b2 b3 n b5 v := box_set h 4 _
theorem BoxAt.s5 (h : BoxAt w k b0 b1 b2 b3 b4 b5 v) (n : Int) : BoxAt (w.setCell ⟨k, 5, none⟩ (.int .i64 n)) k b0 b1 b2 b3 b4 n v := box_set h 5 _
theorem BoxAt.s6 (h : BoxAt w k b0 b1 b2 b3 b4 b5 v) (u : Value) : BoxAt (w.setCell ⟨k, 6, none⟩ u) k b0 b1 b2 b3 b4 b5 u := box_set h 6 _
theorem BoxAt.off (h : BoxAt w k b0 b1 b2 b3 b4 b5 v) {j i : Nat} (hj : j ≠ k) (u : Value) : BoxAt (w.setCell ⟨j, i, none⟩ u) k b0 b1 b2 b3 b4 b5 v := box_off h hj u
theorem BoxAt.drew (h : BoxAt w k b0 b1 b2 b3 b4 b5 v) : BoxAt w.drew k b0 b1 b2 b3 b4 b5 v := h
end
theorem Byt.get {w : World} {ad : Option Addr} {len cap : Nat} {bs : List Nat} (h : Byt w ad len cap bs) (hp : 0 < len) : ∃ b off, ad = some ⟨b, off, none⟩ ∧ ∀ i, i < len → w.cell? ⟨b, off + i, none⟩ = some (.int .u8 (bs.getD i 0 : Nat)) := by
 rcases h.cells with h0 | h1
 · omega
 · exact h1
end Go.Proofs.Ytipaebflkebdjaa
namespace Go.Proofs.Ytipaebflkebdjaa
open Go.RowKit
open Go.BatMath hiding AllB getD_lt take_all
set_option linter.unusedVariables false

def recVals (l : List Rc) : List Value := l.flatMap fun r => [.string r.key, .string r.val]
theorem recVals_len : ∀ l : List Rc, (recVals l).length = l.length * 2
 | [] => rfl
 | r :: l => by rw [recVals, List.flatMap_cons, List.length_append]; have := recVals_len l; unfold recVals at this; rw [this]; simp; omega
theorem recVals_app (a b : List Rc) : recVals (a ++ b) = recVals a ++ recVals b := by simp [recVals]
theorem recVals_at : ∀ (l : List Rc) (i : Nat) (r : Rc), l[i]? = some r → (recVals l)[i * 2]? = some (.string r.key) ∧ (recVals l)[i * 2 + 1]? = some (.string r.val)
 | [], i, r, h => by cases h
 | x :: l, 0, r, h => by
   cases h
   exact ⟨rfl, rfl⟩
 | x :: l, i + 1, r, h => by
   have ih := recVals_at l i r h
   have e : recVals (x :: l) = .string x.key :: .string x.val :: recVals l := rfl
   rw [e, show (i + 1) * 2 = i * 2 + 1 + 1 by omega]
   exact ih
theorem recVals_one (l : List Rc) : ∀ u ∈ recVals l, u.oneCell' = true := by
 intro u hu
 obtain ⟨r, _, h⟩ := List.mem_flatMap.1 hu
 rcases List.mem_cons.1 h with rfl | h
 · rfl
 · rcases List.mem_cons.1 h with rfl | h
   · rfl
   · cases h
def OwnRecs (w : World) (base : Nat) (v : Value) (l : List Rc) : Prop := w.ownsRow base 59 2 v l.length (recVals l)
theorem ownRecs_nil (w : World) (base : Nat) : OwnRecs w base (.slice none 0 0) [] := World.ownsRow_nil w base 59 2
theorem OwnRecs.on {w w' : World} {base : Nat} {v : Value} {l : List Rc} (h : OwnRecs w base v l) (hb : Below w.heap.size w w') : OwnRecs w' base v l := by
 refine ⟨h.1, ?_⟩
 rcases h.2 with hn | ⟨g, cap, cur, rfl, hbg, hh, r⟩
 · exact .inl hn
 · exact .inr ⟨g, cap, cur, rfl, hbg, (hb.block g (lt_of_block hh)).trans hh, r⟩
/-- A cell of a block below the row is written. -/
theorem OwnRecs.set {w : World} {base k j : Nat} {u v : Value} {l : List Rc} (h : OwnRecs w base v l) (hk : k < base) : OwnRecs (w.setCell ⟨k, j, none⟩ u) base v l := by
 refine ⟨h.1, ?_⟩
 rcases h.2 with hn | ⟨g, cap, cur, rfl, hbg, hh, r⟩
 · exact .inl hn
 · exact .inr ⟨g, cap, cur, rfl, hbg, box_off hh (by omega) u, r⟩
theorem OwnRecs.at {w : World} {base : Nat} {v : Value} {l : List Rc} (h : OwnRecs w base v l) : ∃ ad cap, v = .slice ad l.length cap ∧ RecsAt w ad l.length cap l ∧ (∀ a, ad = some a → base ≤ a.block) := by
 rcases h.2 with ⟨hn, h0⟩ | ⟨g, cap, cur, rfl, hbg, hh, hc, _, _, ht⟩
 · have hl := List.eq_nil_of_length_eq_zero h0
   subst hl
   exact ⟨none, 0, hn, recsAt_nil w, fun a h => by cases h⟩
 · refine ⟨_, _, rfl, ⟨rfl, hc, (fun h => by cases h), .inr ⟨g, 0, rfl, lt_of_block hh, fun i r hi => ?_⟩⟩, fun a h => by cases h; exact hbg⟩
   have hil : i < l.length := (List.getElem?_eq_some_iff.1 hi).1
   obtain ⟨h1, h2⟩ := recVals_at l i r hi
   rw [← ht, List.getElem?_take, if_pos (by omega)] at h1 h2
   rw [Nat.zero_add]
   refine ⟨?_, ?_⟩
   · rw [cell_of_row w g _ _ _ _ hh]; simpa using h1
   · rw [cell_of_row w g _ _ _ _ hh]; simpa using h2
theorem infoRec : (Try.prog.info? 59).map (fun i => (i.zero, i.size, i.bytes)) = some (some (.agg #[.string ⟨#[]⟩, .string ⟨#[]⟩]), 2, 32) := by kernel_rfl
/-- What a block of records reads as, record by record. -/
def RecNews (w : World) (a : Addr) (l : List Rc) : Prop := ∀ j u, (recVals l)[j]? = some u → w.cell? (a.add j) = some u
theorem recNews_lit (w : World) (k s : ByteArray) (g : Nat) (hg : g = w.heap.size) : RecNews (w.alloc (.cells #[.string k, .string s] 59)) ⟨g, 0, none⟩ [⟨k, s⟩] := by
 subst hg
 intro j u hj
 rw [add_at, Nat.zero_add]
 have hh : (w.alloc (.cells #[.string k, .string s] 59)).heap[w.heap.size]? = some (.cells #[.string k, .string s] 59 (0, 0)) := heap_alloc_new w _
 rw [cell_of_row _ _ _ _ _ _ hh]
 simpa [recVals] using hj
theorem run_recs_append (w : World) (base : Nat) (v : Value) (l m : List Rc) (ty : Nat) (hown : OwnRecs w base v l) (ad : Addr) (cap : Nat) (hr : RecNews w ad m) (hn : l.length + m.length ≤ 1000000) (hbase : base ≤ w.heap.size) :
 ∃ v' w', (Builtin.append_ #[50, 50] ty #[v, .slice (some ad) m.length cap]).run Try.prog w = .ok v' w' ∧ OwnRecs w' base v' (l ++ m) ∧ w.grownBy w' v.ownBlock := by
 obtain ⟨i0, hi, hz0, hz1, hz2⟩ := info_parts infoRec
 obtain ⟨v', w', hrun, h2, h3, _⟩ := run_append_own (P := Try.prog) w base 50 ty 59 i0 (.agg #[.string ⟨#[]⟩, .string ⟨#[]⟩]) 2 32 Try.underlying50 hi hz0 hz1 hz2 rfl (by decide) v l.length (recVals l) hown ad m.length cap (recVals m) (recVals_len m) hr (recVals_one m) (by unfold maxLen; omega) (by omega) hbase
 refine ⟨v', w', hrun, ?_, h3⟩
 unfold OwnRecs
 rw [recVals_app, List.length_append]
 exact h2
theorem list_recs {w : World} {ops : Array Oper} {rest : List Oper} {o : Oper} {a : Act} {Q : Exit → Act → World → Prop} (hw : Region.wanted o (yielded ops a.tmps) = true) (s x : Operand)
 (ho : o.op = .call { callee := .builtin .append, args := #[s, x], argTypes := #[50, 50] })
 (base : Nat) (l m : List Rc) (v : Value) (hs : a.eval s = v) (hown : OwnRecs w base v l) (hbase : base ≤ w.heap.size)
 (ad : Addr) (n cap : Nat) (hnm : m.length = n) (hx : a.eval x = .slice (some ad) n cap) (hr : RecNews w ad m) (hn : l.length + n ≤ 1000000)
 (h : ∀ v' w', OwnRecs w' base v' (l ++ m) → w.grownBy w' v.ownBlock → wpList Try.prog ops Q rest (a.put o.dst v') w') :
 wpList Try.prog ops Q (o :: rest) a w := by
 subst hnm
 refine BigFrame.wpList_want hw fun K hK => ?_
 obtain ⟨v', w', hrun, h2, h3⟩ := run_recs_append w base v l m o.type hown ad cap hr hn hbase
 unfold Oper.wp execOp
 simp only [ho, resolve, invoke, builtin, Sem.run_bind, Sem.run_pure, Result.andThen_ok, List.map_toArray, List.map_cons, List.map_nil, hs, hx, hrun]
 exact hK _ _ (h v' w' h2 h3)
theorem BoxAt.grown {w w' : World} {k base : Nat} {b0 b1 b2 b3 : Int} {b4 : Bool} {b5 : Int} {u v : Value} {l : List Rc} (h : BoxAt w k b0 b1 b2 b3 b4 b5 u) (ho : OwnRecs w base v l) (hk : k < base) (hg : w.grownBy w' v.ownBlock) : BoxAt w' k b0 b1 b2 b3 b4 b5 u := by
 unfold BoxAt at *
 rw [hg.block k (lt_of_block h) (fun e => by have := (ho.lt k e.symm).1; omega)]
 exact h
theorem Below.recs {w0 w w' : World} {base B : Nat} {v : Value} {l : List Rc} (h : Below B w0 w) (ho : OwnRecs w base v l) (hB : B ≤ base) (hs : B ≤ w.heap.size) (hg : w.grownBy w' v.ownBlock) : Below B w0 w' :=
 h.grown hg hs (fun k hk => by have := (ho.lt k hk).1; omega)
/-- A cell of another block than the records' is written. -/
theorem RecsAt.put {w : World} {base j len cap : Nat} {ad : Option Addr} {l : List Rc} {u : Value} (h : RecsAt w ad len cap l) (hb : ∀ a, ad = some a → base < a.block) : RecsAt (w.setCell ⟨base, j, none⟩ u) ad len cap l := by
 refine ⟨h.length, h.fits, h.room, ?_⟩
 rcases h.cells with h0 | ⟨b, off, e, hlt, hc⟩
 · exact .inl h0
 · have hne : b ≠ base := by have := hb _ e; simp only at this; omega
   have hx : ∀ i, (w.setCell ⟨base, j, none⟩ u).cell? ⟨b, i, none⟩ = w.cell? ⟨b, i, none⟩ := fun i => World.cell?_of_block (a := ⟨b, i, none⟩) (by
    show (w.heap.modify base _)[b]? = _
    rw [Array.getElem?_modify, if_neg (Ne.symm hne)])
   refine .inr ⟨b, off, e, by simpa using hlt, fun i r hi => ?_⟩
   rw [hx, hx]
   exact hc i r hi
end Go.Proofs.Ytipaebflkebdjaa
namespace Go.Proofs.Ytipaebflkebdjaa
open Go.RowKit
open Go.SeqMath
open Go.BatMath hiding AllB getD_lt take_all
set_option linter.unusedVariables false

theorem RowAt.set {α : Type} {K : Kind α} {w : World} {k j len cap : Nat} {ad : Option Addr} {l : List α} {u : Value} (h : RowAt K w ad len cap l) (hb : len = 0 ∨ ∀ a, ad = some a → a.block ≠ k) : RowAt K (w.setCell ⟨k, j, none⟩ u) ad len cap l := by
 refine ⟨h.length, h.fits, h.room, ?_⟩
 rcases h.cells with h0 | ⟨b, off, e, hlt, hc⟩
 · exact .inl h0
 · rcases hb with h0 | hb
   · exact .inl h0
   have hne : b ≠ k := hb _ e
   refine .inr ⟨b, off, e, by simpa using hlt, fun i x hi m v hm => ?_⟩
   rw [World.cell?_of_block (a := ⟨b, off + (i * K.size + m), none⟩) (w := w) (by
    show (w.heap.modify k _)[b]? = _
    rw [Array.getElem?_modify, if_neg (Ne.symm hne)])]
   exact hc i x hi m v hm
def recK : Kind Rc := ⟨fun r => [.string r.key, .string r.val], 2, 59, 50⟩
theorem recK_ok : recK.Ok 32 where
 und := Try.underlying50
 info := by
  obtain ⟨i, hi, hz, hs, hb⟩ := info_parts infoRec
  exact ⟨i, _, hi, hz, hs, hb, rfl⟩
 len := fun _ => rfl
 pos := by decide
 one := fun r u hu => by
  simp only [recK, List.mem_cons, List.not_mem_nil, or_false] at hu
  rcases hu with rfl | rfl <;> rfl
 few := by decide
theorem recsAt_row {w : World} {ad : Option Addr} {len cap : Nat} {l : List Rc} : RecsAt w ad len cap l ↔ RowAt recK w ad len cap l := by
 constructor
 · intro h
   refine ⟨h.length, h.fits, h.room, ?_⟩
   rcases h.cells with h0 | ⟨b, off, e, hlt, hc⟩
   · exact .inl h0
   · refine .inr ⟨b, off, e, hlt, fun i x hi j u hj => ?_⟩
     obtain ⟨h1, h2⟩ := hc i x hi
     rcases j with _ | _ | j
     · cases hj; exact h1
     · cases hj; exact h2
     · simp [recK] at hj
 · intro h
   refine ⟨h.length, h.fits, h.room, ?_⟩
   rcases h.cells with h0 | ⟨b, off, e, hlt, hc⟩
   · exact .inl h0
   · exact .inr ⟨b, off, e, hlt, fun i x hi => ⟨hc i x hi 0 _ rfl, hc i x hi 1 _ rfl⟩⟩
end Go.Proofs.Ytipaebflkebdjaa
namespace Go.Proofs.Ytipaebflkebdjaa
open Go
set_option linter.unusedVariables false

section
variable {P : Program} {ops : Array Oper} {Q : Exit → Act → World → Prop} {md : Region.Mode} {S : World → Prop} {Z : List Nat}
/-- What has come up came up behind what it waits for. -/
def Closed (md : Region.Mode) (ops : Array Oper) (L : Array Bool) : Prop := ∀ j o, ops[j]? = some o → L.getD j false = true → ∀ e ∈ o.after, Region.binds md e = true → L.getD e.on false = true
def closedB (md : Region.Mode) (ops : Array Oper) (L : Array Bool) : Bool := (List.range ops.size).all fun j => !(L.getD j false) || match ops[j]? with | some o => o.after.all fun e => !(Region.binds md e) || L.getD e.on false | none => true
theorem closed_of {L : Array Bool} (h : closedB md ops L = true) : Closed md ops L := by
 intro j o ho hl e he hb
 have hj : j < ops.size := (Array.getElem?_eq_some_iff.1 ho).1
 have h1 := List.all_eq_true.1 h j (List.mem_range.2 hj)
 rw [hl, ho] at h1
 simp only [Bool.not_true, Bool.false_or, Array.all_eq_true'] at h1
 have h2 := h1 e he
 rw [hb] at h2
 simpa using h2
/-- Does z wait for i, by some steps? -/
def waitsB (md : Region.Mode) (ops : Array Oper) (i : Nat) : Nat → Nat → Bool
 | 0, _ => false
 | n + 1, z => match ops[z]? with | some o => o.after.any fun e => Region.binds md e && (e.on == i || waitsB md ops i n e.on) | none => false
theorem waits_closed {i : Nat} {L : Array Bool} (hc : Closed md ops L) : ∀ (n z : Nat), waitsB md ops i n z = true → L.getD z false = true → L.getD i false = true
 | 0, z, h, _ => by cases h
 | n + 1, z, h, hz => by
   unfold waitsB at h
   cases ho : ops[z]? with
   | none => rw [ho] at h; cases h
   | some o =>
     rw [ho] at h
     obtain ⟨e, he, h1⟩ := Array.any_eq_true'.1 h
     rw [Bool.and_eq_true, Bool.or_eq_true] at h1
     have h2 := hc z o ho hz e he h1.1
     rcases h1.2 with h3 | h3
     · rw [beq_iff_eq] at h3; rw [← h3]; exact h2
     · exact waits_closed hc n _ h3 h2
/-- None of Z has come up. -/
def ZFree (Z : List Nat) (L : Array Bool) : Prop := ∀ z ∈ Z, L.getD z false = false
/-- Whatever order is picked from here on; S holds behind every operation as long as none of Z has come up. -/
def wpAnyZ (P : Program) (md : Region.Mode) (ops : Array Oper) (Q : Exit → Act → World → Prop) (Z : List Nat) (S : World → Prop) : Nat → Array Bool → Act → World → Prop
 | 0, listed, a, w => Region.ready md ops listed = [] ∧ Q .normal a w
 | fuel + 1, listed, a, w =>
   (Region.ready md ops listed = [] → Q .normal a w) ∧
   ∀ i ∈ Region.ready md ops listed, wpOp P ops Q i (fun a' w' => (ZFree Z (listed.setIfInBounds i true) → S w') ∧ wpAnyZ P md ops Q Z S fuel (listed.setIfInBounds i true) a' w') a w
theorem wpAny_of_z : ∀ (fuel : Nat) (listed : Array Bool) (a : Act) (w : World), wpAnyZ P md ops Q Z S fuel listed a w → wpAny P md ops Q fuel listed a w
 | 0, _, _, _, h => h
 | fuel + 1, _, _, _, h => ⟨h.1, fun i hi => wpOp_mono (fun a' w' h' => wpAny_of_z fuel _ a' w' h'.2) (h.2 i hi)⟩
theorem closed_step {j : Nat} {L : Array Bool} (hc : Closed md ops L) (hj : j ∈ Region.ready md ops L) : Closed md ops (L.setIfInBounds j true) := by
 intro k o ho hl e he hb
 by_cases hkj : j = k
 · subst hkj
   obtain ⟨_, o', ho', hall⟩ := mem_ready.1 hj
   rw [ho] at ho'
   cases ho'
   exact getD_set_true (hall e he hb)
 · rw [getD_set_ne false hkj] at hl
   exact getD_set_true (hc k o ho hl e he hb)
theorem unlisted {i : Nat} {L : Array Bool} (h : L.getD i true = false) : L.getD i false = false := by
 rcases Nat.lt_or_ge i L.size with h' | h'
 · simp [h'] at h ⊢; exact h
 · simp [Array.getElem?_eq_none h'] at h
theorem wpAnyZ_first {i n : Nat} {oi : Oper} {v : Value} (hi : ops[i]? = some oi) (hsel : ∀ (j : Nat) (o : Oper) cs b, ops[j]? = some o → o.op ≠ .select cs b)
 (hQ : ∀ c a w, Q (.panic c) (a.put oi.dst v) w → Q (.panic c) a w) (hz : ∀ z ∈ Z, waitsB md ops i n z = true) (hiz : i ∉ Z) :
 ∀ (fuel : Nat) (listed : Array Bool) (a : Act) (w : World),
   (∀ j oj, ops[j]? = some oj → j ≠ i → listed.getD j true = false → (∀ e ∈ oj.after, Region.binds md e = true → e.on ≠ i) → oi.apart ops oj = true) →
   i ∈ Region.ready md ops listed → Closed md ops listed → YieldsIf P ops S oi v a → S w →
   wpAnyZ P md ops Q Z S fuel (listed.setIfInBounds i true) (a.put oi.dst v) w → wpAnyZ P md ops Q Z S (fuel + 1) listed a w := by
 have free : ∀ L, Closed md ops L → L.getD i true = false → ZFree Z L := fun L hc hu z hzZ => by
  cases hzl : L.getD z false
  · rfl
  · have := waits_closed hc n z (hz z hzZ) hzl
    rw [unlisted hu] at this
    cases this
 intro fuel
 induction fuel with
 | zero =>
   intro listed a w _ hr _ hy hS H
   refine ⟨fun h => (by rw [h] at hr; cases hr), fun j hj => ?_⟩
   by_cases hji : j = i
   · subst hji; exact hy.wpOp hi hS ⟨fun _ => hS, H⟩
   · have := ready_mono hj hji
     rw [H.1] at this
     cases this
 | succ fuel ih =>
   intro listed a w hfree hr hc hy hS H
   refine ⟨fun h => (by rw [h] at hr; cases hr), fun j hj => ?_⟩
   by_cases hji : j = i
   · subst hji; exact hy.wpOp hi hS ⟨fun _ => hS, H⟩
   · have h1 := H.2 j (ready_mono hj hji)
     obtain ⟨hjun, oj, hoj, hall⟩ := mem_ready.1 hj
     have hnot : ∀ e ∈ oj.after, Region.binds md e = true → e.on ≠ i := fun e he hb heq => by
      have h1 := hall e he hb
      have h0 := (mem_ready.1 hr).1
      rw [heq] at h1
      rw [unlisted h0] at h1
      cases h1
     have h2 := wpOp_putIf hoj (hfree j oj hoj hji hjun hnot) (fun cs b => hsel i oi cs b hi) (fun cs b => hsel j oj cs b hoj) hQ hy h1
     have hfree' : ∀ k ok, ops[k]? = some ok → k ≠ i → (listed.setIfInBounds j true).getD k true = false →
      (∀ e ∈ ok.after, Region.binds md e = true → e.on ≠ i) → oi.apart ops ok = true := fun k ok hk hki hun hno => by
      refine hfree k ok hk hki ?_ hno
      by_cases hjk : j = k
      · subst hjk; exact hjun
      · rw [getD_set_ne true hjk] at hun; exact hun
     have hr' := ready_mono hr (Ne.symm hji)
     have hc' := closed_step hc hj
     have hzf := free _ hc' (mem_ready.1 hr').1
     have hzf2 : ZFree Z ((listed.setIfInBounds i true).setIfInBounds j true) := fun z hzZ => by
      have hne : i ≠ z := fun e => hiz (e ▸ hzZ)
      rw [Array.setIfInBounds_comm _ _ (Ne.symm hji), getD_set_ne false hne]
      exact hzf z hzZ
     refine wpOp_mono (fun a' w' h3 => ⟨fun _ => h3.2.1 hzf2, ih (listed.setIfInBounds j true) a' w' hfree' hr' hc' h3.1 (h3.2.1 hzf2) ?_⟩) h2
     rw [Array.setIfInBounds_comm _ _ hji]
     exact h3.2.2
theorem wpAnyZ_take {i : Nat} {oi : Oper} {v : Value} {fuel : Nat} {listed : Array Bool} {a : Act} {w : World} (hi : ops[i]? = some oi)
 (hs : Region.noSelect ops = true) (hf : Region.free md ops listed i = true) (hr : (Region.ready md ops listed).contains i = true) (hc : closedB md ops listed = true) (hz : (Z.all fun z => waitsB md ops i 12 z && !(z == i)) = true)
 (hQ : ∀ c a w, Q (.panic c) (a.put oi.dst v) w → Q (.panic c) a w) (hy : YieldsIf P ops S oi v a) (hS : S w)
 (h : wpAnyZ P md ops Q Z S fuel (listed.setIfInBounds i true) (a.put oi.dst v) w) : wpAnyZ P md ops Q Z S (fuel + 1) listed a w := by
 have hz' := List.all_eq_true.1 hz
 refine wpAnyZ_first (n := 12) hi (Region.noSelect_spec hs) hQ (fun z hzZ => ?_) (fun hiZ => ?_) fuel listed a w (Region.free_spec hi hf) (by simpa using hr) (closed_of hc) hy hS h
 · have := hz' z hzZ; rw [Bool.and_eq_true] at this; exact this.1
 · have := hz' i hiZ; simp at this
/-- Each of the operations 'rs' comes up next. -/
def AllReadyZ (P : Program) (md : Region.Mode) (ops : Array Oper) (Q : Exit → Act → World → Prop) (Z : List Nat) (S : World → Prop) (fuel : Nat) (listed : Array Bool) (a : Act) (w : World) (rs : List Nat) : Prop :=
 ∀ i ∈ rs, wpOp P ops Q i (fun a' w' => (ZFree Z (listed.setIfInBounds i true) → S w') ∧ wpAnyZ P md ops Q Z S fuel (listed.setIfInBounds i true) a' w') a w
theorem AllReadyZ.nil {fuel : Nat} {listed : Array Bool} {a : Act} {w : World} : AllReadyZ P md ops Q Z S fuel listed a w [] := fun _ h => by cases h
theorem AllReadyZ.cons {fuel : Nat} {listed : Array Bool} {a : Act} {w : World} {i : Nat} {o : Oper} {rs : List Nat} (ho : ops[i]? = some o)
 (h : ∀ K' : Act → World → Prop, Shut (∀ a w, (ZFree Z (listed.setIfInBounds i true) → S w) → ((ZFree Z (listed.setIfInBounds i true) → S w) → wpAnyZ P md ops Q Z S fuel (listed.setIfInBounds i true) a w) → K' a w) → if Region.wanted o (yielded ops a.tmps) = true then Oper.wp P o a w K' Q else K' (a.put o.dst undef) w)
 (hs : AllReadyZ P md ops Q Z S fuel listed a w rs) : AllReadyZ P md ops Q Z S fuel listed a w (i :: rs) := fun j hj => by
 rcases List.mem_cons.1 hj with rfl | hj
 · exact wpOp_step ho (fun K' hK => h K' (fun a w hS hW => hK a w ⟨hS, hW hS⟩))
 · exact hs j hj
theorem wpAnyZ_ready {rs : List Nat} {fuel : Nat} {listed : Array Bool} {a : Act} {w : World} (hr : Region.ready md ops listed = rs) (hne : rs ≠ [])
 (h : AllReadyZ P md ops Q Z S fuel listed a w rs) : wpAnyZ P md ops Q Z S (fuel + 1) listed a w :=
 ⟨fun h0 => absurd (hr ▸ h0) hne, by rw [hr]; exact h⟩
theorem wpAnyZ_done {listed : Array Bool} {a : Act} {w : World} (hr : Region.ready md ops listed = []) (h : Q .normal a w) :
 ∀ fuel, wpAnyZ P md ops Q Z S fuel listed a w
 | 0 => ⟨hr, h⟩
 | _ + 1 => ⟨fun _ => h, by rw [hr]; simp⟩
theorem wp_region_z {id : Nat} {a : Act} {w : World} (Z : List Nat) (S : World → Prop) (hm : P.follows .mixedOrders = true)
 (h : wpAnyZ P .any ops Q Z S ops.size (Array.replicate ops.size false) a w.drew) : (Code.region id ops true).wp P Q a w :=
 wp_region_any hm (wpAny_of_z _ _ _ _ h)
theorem wpAnyZ_strengthen {S' : World → Prop} (h : ∀ w, S' w → S w) :
 ∀ (fuel : Nat) (listed : Array Bool) (a : Act) (w : World), wpAnyZ P md ops Q Z S' fuel listed a w → wpAnyZ P md ops Q Z S fuel listed a w
 | 0, _, _, _, hh => hh
 | fuel + 1, _, _, _, hh => ⟨hh.1, fun i hi => wpOp_mono (fun _ _ hk => ⟨fun hz => h _ (hk.1 hz), wpAnyZ_strengthen h fuel _ _ _ hk.2⟩) (hh.2 i hi)⟩
/-- One way alone is left, and one operation: it turns the worlds as it likes. -/
theorem zfree_no {i : Nat} {listed : Array Bool} {Z : List Nat} {p : Prop} (h : (Z.contains i && decide (i < listed.size)) = true) : ZFree Z (listed.setIfInBounds i true) → p := by
 intro hz
 rw [Bool.and_eq_true] at h
 have := hz i (by simpa using h.1)
 have hlt : i < listed.size := of_decide_eq_true h.2
 simp [hlt] at this
end
end Go.Proofs.Ytipaebflkebdjaa
namespace Go.Proofs.Ytipaebflkebdjaa
open Go
set_option linter.unusedVariables false

section
variable {P : Program} {ops : Array Oper} {Q : Exit → Act → World → Prop} {md : Region.Mode} {S : World → Prop} {Z : List Nat}
theorem zt (i : Nat) {v : Value} {o1 : Option Nat} {o2 o3 o4 o5 o6} {fuel : Nat} {listed l2 : Array Bool} {a a2 : Act} {w : World}
    (h : wpAnyZ P md ops Q Z S fuel l2 a2 w)
    (hi : ops[i]? = some ⟨o1, o2, o3, o4, o5, o6⟩ := by exact rfl)
    (hk : (Region.noSelect ops && (Region.free md ops listed i && ((Region.ready md ops listed).contains i && (closedB md ops listed && Z.all fun z => waitsB md ops i 12 z && !(z == i))))) = true := by kernel_rfl)
    (hQ : ∀ c a w, Q (.panic c) (a.put o1 v) w → Q (.panic c) a w := by exact fun _ _ _ h => h) (hS : S w := by assumption)
    (hy : YieldsIf P ops S ⟨o1, o2, o3, o4, o5, o6⟩ v a := by first | exact .inr ⟨by rfl, rfl⟩ | exact .inl ⟨by rfl, by intro W hSw; (try dsimp only at hSw); go_simp; (try with_reducible rfl)⟩)
    (hl : listed.setIfInBounds i true = l2 := by (try simp only [List.setIfInBounds_toArray, List.set_cons_zero, List.set_cons_succ]); exact rfl)
    (ha : a.put o1 v = a2 := by (try simp only [Act.put, List.setIfInBounds_toArray, List.set_cons_zero, List.set_cons_succ]); exact rfl) : wpAnyZ P md ops Q Z S (fuel + 1) listed a w := by
  simp only [Bool.and_eq_true] at hk
  obtain ⟨h1, h2, h3, h4, h5⟩ := hk
  subst hl ha
  exact wpAnyZ_take hi h1 h2 h3 h4 h5 hQ hy hS h
theorem zr (i : Nat) {o1 : Option Nat} {o2 o3 o4 o5 o6} {fuel : Nat} {listed : Array Bool} {a : Act} {w : World}
    (h : ∀ K' : Act → World → Prop, Shut (∀ a w, (ZFree Z (listed.setIfInBounds i true) → S w) → ((ZFree Z (listed.setIfInBounds i true) → S w) → wpAnyZ P md ops Q Z S fuel (listed.setIfInBounds i true) a w) → K' a w) → if Region.wanted ⟨o1, o2, o3, o4, o5, o6⟩ (yielded ops a.tmps) = true then Oper.wp P ⟨o1, o2, o3, o4, o5, o6⟩ a w K' Q else K' (a.put o1 undef) w)
    (ho : ops[i]? = some ⟨o1, o2, o3, o4, o5, o6⟩ := by exact rfl) (hr : Region.ready md ops listed = [i] := by kernel_rfl) :
    wpAnyZ P md ops Q Z S (fuel + 1) listed a w :=
  wpAnyZ_ready hr (by simp) (AllReadyZ.cons ho h AllReadyZ.nil)
theorem zc {C : Act → World → Prop} {fuel : Nat} {l l2 : Array Bool} {a a2 : Act} {w : World}
    (hC : Shut (∀ a w, (ZFree Z l → S w) → ((ZFree Z l → S w) → wpAnyZ P md ops Q Z S fuel l a w) → C a w)) (hS : S w) (h : wpAnyZ P md ops Q Z S fuel l2 a2 w)
    (hl : l = l2 := by (try simp only [List.setIfInBounds_toArray, List.set_cons_zero, List.set_cons_succ]); exact rfl)
    (ha : a = a2 := by (try simp only [Act.put, List.setIfInBounds_toArray, List.set_cons_zero, List.set_cons_succ]); exact rfl) : C a w := by
  subst hl ha
  exact hC.out _ _ (fun _ => hS) (fun _ => h)
end
end Go.Proofs.Ytipaebflkebdjaa
namespace Go.Proofs.Ytipaebflkebdjaa
open Go.RowKit
open Go.SeqMath
open Go.BatMath
set_option linter.unusedVariables false

theorem bel_drewN {B : Nat} {a w : World} (h : Below B a w) (n : Nat) : Below B a (w.drewN n) := h.trans ⟨rfl, rfl, rfl, Nat.le_refl _, fun _ _ => rfl⟩
theorem RecsAt.at {w W : World} {ad : Option Addr} {len cap : Nat} {l : List Rc} (h : RecsAt w ad len cap l) (hb : Below w.heap.size w W) (j : Nat) (hj : j < len) :
 ∃ bk off r, ad = some ⟨bk, off, none⟩ ∧ bk < w.heap.size ∧ l[j]? = some r ∧ W.cell? ⟨bk, off + j * 2, none⟩ = some (.string r.key) ∧ W.cell? ⟨bk, off + j * 2 + 1, none⟩ = some (.string r.val) := by
 have hl := h.length
 have hjl : j < l.length := by omega
 rcases h.cells with h0 | ⟨bk, off, e, hlt, hc⟩
 · omega
 · have hi : l[j]? = some (l[j]'hjl) := List.getElem?_eq_getElem hjl
   obtain ⟨h1, h2⟩ := hc j _ hi
   exact ⟨bk, off, _, e, hlt, hi, (hb.cell (p := ⟨bk, _, none⟩) hlt).trans h1, (hb.cell (p := ⟨bk, _, none⟩) hlt).trans h2⟩
end Go.Proofs.Ytipaebflkebdjaa
namespace Go.Proofs.Ytipaebflkebdjaa
open Go.RowKit
open Go.SeqMath
open Go.BatMath hiding AllB getD_lt take_all
open Go.VarMath (longB length_longB textB getB)
set_option linter.unusedVariables false

/-- The two boxes of the walk: the batch that is being read, and the result that is none yet. -/
structure Two (w : World) (p e s : Int) (t : Bool) (m : Int) (v : Value) (W : World) : Prop where
 bx : BoxAt W (w.heap.size + 1) 0 p e s t m v
 rs : BoxAt W w.heap.size 0 0 0 0 false 0 (.slice none 0 0)
 bel : Below w.heap.size w W
theorem Two.sz {w W : World} {p e s : Int} {t : Bool} {m : Int} {v : Value} (h : Two w p e s t m v W) : w.heap.size + 1 + 1 ≤ W.heap.size := h.bx.lt
theorem Two.drew {w W : World} {p e s : Int} {t : Bool} {m : Int} {v : Value} (h : Two w p e s t m v W) : Two w p e s t m v W.drew := ⟨h.bx, h.rs, h.bel.drew⟩
theorem Two.s1 {w W : World} {p e s : Int} {t : Bool} {m : Int} {v : Value} (h : Two w p e s t m v W) (n : Int) : Two w n e s t m v (W.setCell ⟨w.heap.size + 1, 1, none⟩ (.int .i64 n)) := ⟨h.bx.s1 n, h.rs.off (by omega) _, h.bel.setCell (Nat.le_succ _) _⟩
theorem Two.s2 {w W : World} {p e s : Int} {t : Bool} {m : Int} {v : Value} (h : Two w p e s t m v W) (n : Int) : Two w p n s t m v (W.setCell ⟨w.heap.size + 1, 2, none⟩ (.int .i64 n)) := ⟨h.bx.s2 n, h.rs.off (by omega) _, h.bel.setCell (Nat.le_succ _) _⟩
theorem Two.s3 {w W : World} {p e s : Int} {t : Bool} {m : Int} {v : Value} (h : Two w p e s t m v W) (n : Int) : Two w p e n t m v (W.setCell ⟨w.heap.size + 1, 3, none⟩ (.int .i64 n)) := ⟨h.bx.s3 n, h.rs.off (by omega) _, h.bel.setCell (Nat.le_succ _) _⟩
theorem Two.s6 {w W : World} {p e s : Int} {t : Bool} {m : Int} {v : Value} (h : Two w p e s t m v W) (n : Value) : Two w p e s t m n (W.setCell ⟨w.heap.size + 1, 6, none⟩ n) := ⟨h.bx.s6 n, h.rs.off (by omega) _, h.bel.setCell (Nat.le_succ _) _⟩
theorem Two.on {w W W' : World} {p e s : Int} {t : Bool} {m : Int} {v : Value} (h : Two w p e s t m v W) (hb : Below W.heap.size W W') : Two w p e s t m v W' := ⟨h.bx.on hb, h.rs.on hb, h.bel.trans (hb.mono h.bel.size)⟩
theorem Two.grown {w W W' : World} {p e s : Int} {t : Bool} {m : Int} {u v : Value} {l : List Rc} (h : Two w p e s t m u W) (ho : OwnRecs W (w.heap.size + 1 + 1) v l) (hg : W.grownBy W' v.ownBlock) : Two w p e s t m u W' :=
 ⟨h.bx.grown ho (by omega) hg, h.rs.grown ho (by omega) hg, Below.recs h.bel ho (by omega) h.bel.size hg⟩
/-- A cell of a block below the records' is written. -/
theorem RecsAt.set {w : World} {base j len cap : Nat} {ad : Option Addr} {l : List Rc} {u : Value} (h : RecsAt w ad len cap l) (hb : ∀ a, ad = some a → base + 1 + 1 ≤ a.block) : RecsAt (w.setCell ⟨base, j, none⟩ u) ad len cap l := by
 refine ⟨h.length, h.fits, h.room, ?_⟩
 rcases h.cells with h0 | ⟨b, off, e, hlt, hc⟩
 · exact .inl h0
 · have hne : b ≠ base := by have := hb _ e; simp only at this; omega
   have hx : ∀ i, (w.setCell ⟨base, j, none⟩ u).cell? ⟨b, i, none⟩ = w.cell? ⟨b, i, none⟩ := fun i => World.cell?_of_block (a := ⟨b, i, none⟩) (by
    show (w.heap.modify base _)[b]? = _
    rw [Array.getElem?_modify, if_neg (Ne.symm hne)])
   refine .inr ⟨b, off, e, by simpa using hlt, fun i r hi => ?_⟩
   rw [hx, hx]
   exact hc i r hi
end Go.Proofs.Ytipaebflkebdjaa
namespace Go.Proofs.Ytipaebflkebdjaa
open Go.RowKit
open Go.CrcMath hiding AllB
set_option linter.unusedVariables false

theorem xorc (c b : Nat) (hc : c < 4294967296) (hb : b < 256) : bits .xor .u32 (c : Int) (b : Int) = ((c ^^^ b : Nat) : Int) := u32_xor_nat c b hc (by omega)
theorem and1 (d : Nat) (h : d < 4294967296) : bits .and .u32 (d : Int) 1 = ((d % 2 : Nat) : Int) := by
 have := u32_and_nat d 1 h (by omega)
 rw [nat_mask1] at this
 exact this
theorem xorp (d : Nat) (h : d < 4294967296) : bits .xor .u32 ((d : Int) / 2) 2197175160 = ((d / 2 ^^^ poly : Nat) : Int) := by
 have := u32_xor_nat (d / 2) 2197175160 (by omega) (by omega)
 exact this
theorem bstep_odd (d : Nat) (h : d % 2 = 1) : bstep d = d / 2 ^^^ poly := if_pos h
theorem bstep_even (d : Nat) (h : ¬ d % 2 = 1) : bstep d = d / 2 := if_neg h
theorem u32_eq {a b : Int} (h : a = b) : Value.int .u32 a = Value.int .u32 b := by rw [h]
theorem ret_u32 {a b : Int} (h : a = b) : Ending.returned (.int .u32 a) = .returned (.int .u32 b) := by rw [h]


theorem cplc (c : Nat) (h : c < 4294967296) : bits .xor .u32 IntKind.u32.max (c : Int) = ((cpl c : Nat) : Int) := by
 have e : IntKind.u32.max = ((full : Nat) : Int) := by decide
 rw [e, u32_xor_nat full c full_lt h, cpl_eq]
theorem usig : IntKind.u32.signed = false := rfl
theorem xor00 : bits .xor .u32 IntKind.u32.max 4294967295 = 0 := by decide
theorem run_next (c : Nat) (bs : List Nat) (k : Nat) (h : k < bs.length) : run c (bs.take (k + 1)) = nxt (run c (bs.take k)) (bs.getD k 0) := by
 rw [List.take_succ_eq_append_getElem h, run_snoc, List.getD_eq_getElem?_getD, List.getElem?_eq_getElem h]; rfl
end Go.Proofs.Ytipaebflkebdjaa
namespace Go.Proofs.Ytipaebflkebdjaa
open Go.RowKit
open Go.CrcMath hiding AllB
set_option linter.unusedVariables false

theorem Byt.four {w : World} {ad : Option Addr} {len cap : Nat} {bs : List Nat} (h : Byt w ad len cap bs) (h4 : 4 ≤ len) :
 ∃ b off x0 x1 x2 x3 r, ad = some ⟨b, off, none⟩ ∧ bs = x0 :: x1 :: x2 :: x3 :: r ∧ x0 < 256 ∧ x1 < 256 ∧ x2 < 256 ∧ x3 < 256 ∧ r.length = len - 4 ∧
   w.cell? ⟨b, off, none⟩ = some (.int .u8 x0) ∧ w.cell? ⟨b, off + 1, none⟩ = some (.int .u8 x1) ∧ w.cell? ⟨b, off + 2, none⟩ = some (.int .u8 x2) ∧ w.cell? ⟨b, off + 3, none⟩ = some (.int .u8 x3) ∧
   Byt w (some ⟨b, if cap = 4 then off else off + 4, none⟩) (len - 4) (cap - 4) r := by
 have hl := h.length
 have hf := h.fits
 obtain ⟨x0, x1, x2, x3, r, rfl⟩ := four_of (bs := bs) (by omega)
 simp only [List.length_cons] at hl
 rcases h.cells with h0 | ⟨b, off, rfl, hc⟩
 · omega
 have ha := h.all
 refine ⟨b, off, x0, x1, x2, x3, r, rfl, rfl, ha _ (by simp), ha _ (by simp), ha _ (by simp), ha _ (by simp), by omega, ?_, ?_, ?_, ?_, ?_⟩
 · simpa using hc 0 (by omega)
 · simpa using hc 1 (by omega)
 · simpa using hc 2 (by omega)
 · simpa using hc 3 (by omega)
 · refine ⟨by omega, by omega, fun x hx => ha x (by simp [hx]), ?_⟩
   by_cases h5 : len - 4 = 0
   · exact .inl h5
   · refine .inr ⟨b, off + 4, by rw [if_neg (by omega)], fun i hi => ?_⟩
     have := hc (4 + i) (by omega)
     rw [Nat.add_assoc, this]
     rw [Nat.add_comm 4 i]
     rfl
end Go.Proofs.Ytipaebflkebdjaa
namespace Go.Proofs.Ytipaebflkebdjaa
open Go.RowKit
open Go.SeqMath
set_option linter.unusedVariables false

theorem seq_ret {a b : Int} (h : a = b) : Ending.returned (.int .i64 a) = .returned (.int .i64 b) := by rw [h]
theorem seq_right (n : Int) (w : World) (r : Bool) (hr : rightB n = r) :
 Calls Try.prog 92 #[.int .i64 n] w fun e w' => e = .returned (.bool r) ∧ w = w' := by
 subst hr
 by_cases h0 : 0 ≤ n
 · by_cases h1 : n ≤ 2147483647
   · rw [right_yes h0 h1]
     go_enter Try.func92, Try.ntmps92
     go_wp2
     go_ret
     exact ⟨rfl, rfl⟩
   · have h1' : 2147483647 < n := by omega
     rw [right_no (.inr h1')]
     go_enter Try.func92, Try.ntmps92
     go_wp2
     go_ret
     exact ⟨rfl, rfl⟩
 · have h0' : n < 0 := by omega
   rw [right_no (.inl h0')]
   go_enter Try.func92, Try.ntmps92
   go_wp2
   go_ret
   exact ⟨rfl, rfl⟩
end Go.Proofs.Ytipaebflkebdjaa
namespace Go.Proofs.Ytipaebflkebdjaa
open Go.RowKit
open Go.CrcMath hiding AllB
set_option linter.unusedVariables false
set_option maxHeartbeats 400000 in
theorem refNext_any (c b : Nat) (w : World) (hc : c < 4294967296) (hb : b < 256) :
 Calls Try.prog 95 #[.int .u32 c, .int .u8 b] w fun e w' => e = .returned (.int .u32 (nxt c b : Nat)) ∧ w = w' := by
 have hx := xorc c b hc hb
 obtain ⟨x, hxe⟩ : ∃ x, x = c ^^^ b := ⟨_, rfl⟩
 have hxl : x < 4294967296 := by rw [hxe]; exact xor_lt hc (by omega)
 rw [← hxe] at hx
 have HX : Hid (x = c ^^^ b) := hxe
 clear hxe
 go_enter Try.func95, Try.ntmps95
 go_wp2
 go_loop [0, 5] (fun s i => ∃ k : Nat, k ≤ 8 ∧ i = .int .i64 k ∧ s = .int .u32 (bsteps k x : Nat)) (fun _ i => (8 - intOf i).toNat)
 case atStart => exact ⟨0, by omega, rfl, rfl⟩
 case round =>
  obtain ⟨k, hk, rfl, rfl⟩ := hrel
  have hl := bsteps_lt hxl k
  obtain ⟨d, hd⟩ : ∃ d, d = bsteps k x := ⟨_, rfl⟩
  rw [← hd] at hl ⊢
  have HD : Hid (d = bsteps k x) := hd
  clear hd hx
  have h1 := and1 d hl
  have h2 := xorp d hl
  by_cases hlt : k < 8
  · by_cases ho : d % 2 = 1
    · have hb1 : (((d % 2 : Nat) : Int) == 1) = true := by simp; omega
      have S : Hid (bsteps (k + 1) x = d / 2 ^^^ poly) := by show bstep (bsteps k x) = _; rw [← HD.out]; exact bstep_odd d ho
      clear ho
      go_wp2
      go_round
      case rel => exact ⟨k + 1, by omega, by go_num, by rw [S.out]⟩
      case measure => simp [intOf]; omega
    · have hb1 : (((d % 2 : Nat) : Int) == 1) = false := by simp; omega
      have S : Hid (bsteps (k + 1) x = d / 2) := by show bstep (bsteps k x) = _; rw [← HD.out]; exact bstep_even d ho
      clear ho
      go_wp2
      go_round
      case rel => exact ⟨k + 1, by omega, by go_num, by rw [S.out]; exact u32_eq (by omega)⟩
      case measure => simp [intOf]; omega
  · have E : Hid (d = nxt c b) := by
     have : k = 8 := by omega
     subst this
     show d = bsteps 8 (c ^^^ b)
     rw [HD.out, HX.out]
    go_wp2
    go_ret
    exact ⟨ret_u32 (by rw [E.out]), rfl⟩
set_option maxHeartbeats 400000 in
theorem refCrc_any (w : World) (ad : Option Addr) (len cap : Nat) (bs : List Nat) (h : Byt w ad len cap bs) (hL : len ≤ 140737488355328) :
 Calls Try.prog 89 #[.slice ad len cap] w fun e w' => e = .returned (.int .u32 (ofB bs : Nat)) ∧ w = w' := by
 obtain ⟨hlen, hfit, hall, hcs⟩ := h
 rcases hcs with h0 | ⟨b, off, rfl, hcell⟩
 · subst h0
   obtain rfl : bs = [] := by simpa using hlen
   have E : Hid (ofB [] = 0) := by show _ = _; decide
   clear hlen hfit hall
   have hcp := xor00
   have hsg := usig
   go_enter Try.func89, Try.ntmps89
   go_wp2
   refine wp_loop_rounds 1 ?_
   rw [rounds_succ]
   go_wp2
   go_ret
   exact ⟨ret_u32 (by rw [E.out]; rfl), rfl⟩
 · have hmx : ∀ k, run full (bs.take k) < 4294967296 := fun k => run_lt _ _ full_lt (take_all hall k)
   have HM := Lib.hid hmx
   have HC := Lib.hid hcell
   have HA := Lib.hid hall
   have HL := Lib.hid hlen
   clear hmx hcell hall hlen
   go_enter Try.func89, Try.ntmps89
   go_wp2
   go_loop [3, 4] (fun s i => ∃ k : Nat, k ≤ len ∧ i = .int .i64 k ∧ s = .int .u32 (run full (bs.take k) : Nat)) (fun _ i => len - (intOf i).toNat)
   case atStart => exact ⟨0, by omega, rfl, rfl⟩
   case round =>
    obtain ⟨k, hk, rfl, rfl⟩ := hrel
    have hl := HM.out k
    obtain ⟨d, hd⟩ : ∃ d, d = run full (bs.take k) := ⟨_, rfl⟩
    rw [← hd] at hl ⊢
    have HD : Hid (d = run full (bs.take k)) := hd
    clear hd
    by_cases hlt : k < len
    · have hc := HC.out k hlt
      have hx8 := getD_all HA.out k
      obtain ⟨x, hx⟩ : ∃ x, x = bs.getD k 0 := ⟨_, rfl⟩
      rw [← hx] at hc hx8
      have S : Hid (run full (bs.take (k + 1)) = nxt d x) := by
       show _ = _
       rw [run_next _ _ _ (by rw [HL.out]; exact hlt), ← HD.out, ← hx]
      clear hx
      go_wp2_with (go_at_call 95; refine (refNext_any _ _ _ hl hx8).mono ?_; rintro e w' ⟨rfl, rfl⟩)
      go_round
      case rel => exact ⟨k + 1, by omega, by go_num, by rw [S.out]⟩
      case measure => simp [intOf]; omega
    · have hcp := cplc d hl
      have hsg := usig
      have E : Hid (cpl d = ofB bs) := by
       show _ = _
       rw [HD.out, List.take_of_length_le (by rw [HL.out]; omega)]; rfl
      go_wp2
      go_ret
      exact ⟨ret_u32 (by rw [E.out]), rfl⟩
end Go.Proofs.Ytipaebflkebdjaa
namespace Go.Proofs.Ytipaebflkebdjaa
open Go.RowKit
open Go.CrcMath hiding AllB
set_option linter.unusedVariables false
theorem lit4 (w : World) (c : Nat) (hc : c < 4294967296) : (w.alloc (.cells #[.int .u8 ((c : Int) % 256), .int .u8 ((c : Int) / 256 % 256), .int .u8 ((c : Int) / 65536 % 256), .int .u8 ((c : Int) / 16777216)] 5)).ownsRow w.heap.size 5 1 (.slice (some ⟨w.heap.size, 0, none⟩) 4 4) 4 (vals (leB c)) := by
 have h := World.ownsRow_lit (e := 5) (size := 1) (base := w.heap.size) w (vals (leB c)).toArray 4 (Nat.le_refl _) (by decide) rfl
 have e3 : (((c / 16777216 % 256 : Nat)) : Int) = (c : Int) / 16777216 := by omega
 have e : (vals (leB c)).toArray = #[.int .u8 ((c : Int) % 256), .int .u8 ((c : Int) / 256 % 256), .int .u8 ((c : Int) / 65536 % 256), .int .u8 ((c : Int) / 16777216)] := by
  show #[byte _, byte _, byte _, byte _] = _
  unfold byte
  rw [e3]; rfl
 rw [e] at h
 have e2 : (vals (leB c)) = [.int .u8 ((c : Int) % 256), .int .u8 ((c : Int) / 256 % 256), .int .u8 ((c : Int) / 65536 % 256), .int .u8 ((c : Int) / 16777216)] := congrArg Array.toList e
 rw [e2]
 exact h
set_option maxHeartbeats 400000 in
theorem sealed_some (w : World) (a : Addr) (len cap : Nat) (bs : List Nat) (h : Byt w (some a) len cap bs) (hL : len ≤ 140737488355300) :
 Calls Try.prog 78 #[.slice (some a) len cap] w (GivesMade w (sealB bs)) := by
 obtain ⟨i0, hi, hz0, hz1, hz2⟩ := info_parts info5
 have HB := Lib.hid h
 clear h
 go_enter Try.func78, Try.ntmps78
 go_wp2_with fail
 refine (refCrc_any _ _ _ _ _ HB.out (by omega)).mono ?_
 rintro e w' ⟨rfl, rfl⟩
 have hsl := ofB_lt HB.out.all
 obtain ⟨c, hc⟩ : ∃ c, c = ofB bs := ⟨_, rfl⟩
 rw [← hc] at hsl ⊢
 have HCC := Lib.hid hc
 clear hc
 have HX := Lib.hid (lit4 w c hsl)
 have HB1 : Hid (Below w.heap.size w (w.alloc (.cells #[.int .u8 ((c : Int) % 256), .int .u8 ((c : Int) / 256 % 256), .int .u8 ((c : Int) / 65536 % 256), .int .u8 ((c : Int) / 16777216)] 5))) := (Below.refl _ _).alloc (Nat.le_refl _) _
 go_wp2_with (at_builtin; refine wpList_append_own _ rfl (.tmp 17) (.tmp 18) 116 rfl w.heap.size 5 i0 (.int .u8 0) 1 1 Try.underlying116 hi hz0 hz1 hz2 rfl (by decide) _ 4 (vals (leB c)) rfl HX.out a len cap (vals bs) rfl ?c1 ?c2 (vals_one bs) ?c3 ?c4 ?c5 ?_)
 case c1 => rw [length_vals, HB.out.length]; simp
 case c2 =>
  intro j u hj
  have hjl : j < bs.length := by
   have := (List.getElem?_eq_some_iff.1 hj).1
   rwa [length_vals] at this
  obtain ⟨a', ha', hs⟩ := HB.out.source (by have := HB.out.length; omega)
  obtain rfl := Option.some.inj ha'
  have h1 := hs j u hj
  rw [HB1.out.cell (World.block_lt_of_cell? w _ h1)]
  exact h1
 case c3 => unfold maxLen; omega
 case c4 => omega
 case c5 => simp
 · intro v' w1 hown' hgrow _
   have hlen := HB.out.length
   have R : Hid (Made w (sealB bs) v' w1) := by
    refine made_of ?_ (by rw [length_sealB]; omega) (HB1.out.grown hgrow (by simp) (by intro k hk; simp [Value.ownBlock] at hk; omega))
    have e : sealB bs = leB c ++ bs := by rw [HCC.out]; rfl
    rw [length_sealB, hlen, e, vals_append, Nat.add_comm len 4]
    exact hown'
   clear hown' hgrow hlen
   go_wp2
   go_ret
   exact ⟨_, rfl, R.out⟩
set_option maxHeartbeats 400000 in
theorem sealed_none (w : World) : Calls Try.prog 78 #[.slice none 0 0] w (GivesMade w (sealB [])) := by
 obtain ⟨i0, hi, hz0, hz1, hz2⟩ := info_parts info5
 have HB : Hid (Byt w none 0 0 []) := ⟨rfl, Nat.le_refl _, (fun x hx => by cases hx), .inl rfl⟩
 go_enter Try.func78, Try.ntmps78
 go_wp2_with fail
 refine (refCrc_any _ _ _ _ _ HB.out (by omega)).mono ?_
 rintro e w' ⟨rfl, rfl⟩
 have hsl := ofB_lt HB.out.all
 obtain ⟨c, hc⟩ : ∃ c, c = ofB [] := ⟨_, rfl⟩
 rw [← hc] at hsl ⊢
 have HCC := Lib.hid hc
 clear hc
 have HX := Lib.hid (lit4 w c hsl)
 have HB1 : Hid (Below w.heap.size w (w.alloc (.cells #[.int .u8 ((c : Int) % 256), .int .u8 ((c : Int) / 256 % 256), .int .u8 ((c : Int) / 65536 % 256), .int .u8 ((c : Int) / 16777216)] 5))) := (Below.refl _ _).alloc (Nat.le_refl _) _
 go_wp2_with (at_builtin; refine wpList_append_own_none rfl (.tmp 17) (.tmp 18) 116 rfl w.heap.size 5 i0 1 Try.underlying116 hi _ 4 (vals (leB c)) rfl HX.out rfl ?_)
 go_ret
 have R : Made w (sealB []) _ _ := made_of (by
  have e : sealB [] = leB c := by rw [HCC.out]; rfl
  rw [e]; exact HX.out) (by rw [length_sealB]; omega) HB1.out
 exact ⟨_, rfl, R⟩
theorem sealed_any (w : World) (ad : Option Addr) (len cap : Nat) (bs : List Nat) (h : Byt w ad len cap bs) (hn : ad = none → cap = 0) (hL : len ≤ 140737488355300) :
 Calls Try.prog 78 #[.slice ad len cap] w (GivesMade w (sealB bs)) := by
 rcases ad with _ | a
 · obtain rfl := hn rfl
   have hf := h.fits
   have hl := h.length
   obtain rfl : len = 0 := by omega
   obtain rfl : bs = [] := List.eq_nil_of_length_eq_zero hl
   exact sealed_none w
 · exact sealed_some w a len cap bs h hL
end Go.Proofs.Ytipaebflkebdjaa
namespace Go.Proofs.Ytipaebflkebdjaa
open Go.RowKit
open Go.SeqMath
open Go.BatMath hiding AllB getD_lt take_all
open Go.VarMath (longB length_longB textB)
open Go.CrcMath (sealB)
set_option linter.unusedVariables false

theorem owns_low {w : World} {base base' e size n : Nat} {v : Value} {xs : List Value} (h : w.ownsRow base e size v n xs) (hb : base' ≤ base) : w.ownsRow base' e size v n xs := by
 refine ⟨h.1, ?_⟩
 rcases h.2 with hn | ⟨g, cap, cur, rfl, hbg, hh, r⟩
 · exact .inl hn
 · exact .inr ⟨g, cap, cur, rfl, Nat.le_trans hb hbg, hh, r⟩
/-- What a call gives that makes a row, in a world that is further on. -/
theorem gives_on {w W w' : World} {bs : List Nat} {e : Ending} {n : Nat} (h : GivesRow W bs e w') (hW : Below w.heap.size w W) (hn : bs.length = n) :
 ∃ g cap, e = .returned (.slice (some ⟨g, 0, none⟩) n cap) ∧ Hid (w'.ownsRow w.heap.size 5 1 (.slice (some ⟨g, 0, none⟩) n cap) n (vals bs)) ∧ Hid (Below w.heap.size w w') ∧ Hid (Below W.heap.size W w') := by
 subst hn
 obtain ⟨g, cap, rfl, ho, hb⟩ := h
 exact ⟨g, cap, rfl, owns_low ho hW.size, hW.trans (hb.mono hW.size), hb⟩
theorem cell_on {w W : World} {a : Addr} {u : Value} (h : Below w.heap.size w W) (ha : w.cell? a = some u) : W.cell? a = some u := (h.cell (World.block_lt_of_cell? _ _ ha)).trans ha
theorem keep_two {w2 W : World} {a b : Addr} {u v : Value} (h : Below w2.heap.size w2 W) (hu : w2.cell? a = some u) (hv : w2.cell? b = some v) : Below w2.heap.size w2 W ∧ W.cell? a = some u ∧ W.cell? b = some v := ⟨h, cell_on h hu, cell_on h hv⟩
theorem row_lit (W : World) (cs : Array Value) (bs : List Nat) (k n : Nat) (hk : W.heap.size = k) (hcs : cs = (vals bs).toArray) (ha : AllB bs) (hn : bs.length = n) : Row (W.alloc (.cells cs 5)) (some ⟨k, 0, none⟩) n n bs := by
 subst hn hk hcs; exact ⟨(own_new W bs).byt ha _ (Nat.le_refl _), fun h => by cases h⟩
/-- What stands before round j of the loop over the records. -/
def WriteAt (w : World) (fr : List Nat) (l : List Rc) (v4 v45 : Value) (wr : World) : Prop := ∃ (j g c m : Nat), j ≤ l.length ∧ v45 = .int .i64 j ∧ v4 = .slice (some ⟨g, 0, none⟩) m c ∧ (fr ++ recsB (l.take j)).length = m ∧ wr.ownsRow w.heap.size 5 1 (.slice (some ⟨g, 0, none⟩) m c) m (vals (fr ++ recsB (l.take j))) ∧ Below w.heap.size w wr
theorem writeAt_start {w W : World} {fr : List Nat} {l : List Rc} {g c m : Nat} (hm : fr.length = m) (ho : W.ownsRow w.heap.size 5 1 (.slice (some ⟨g, 0, none⟩) m c) m (vals fr)) (hb : Below w.heap.size w W) : WriteAt w fr l (.slice (some ⟨g, 0, none⟩) m c) (.int .i64 0) W :=
 ⟨0, g, c, m, Nat.zero_le _, rfl, rfl, by simpa [recsB] using hm, by simpa [recsB] using ho, hb⟩
theorem take_recs {l : List Rc} {j : Nat} {r : Rc} (h : l[j]? = some r) : recsB (l.take (j + 1)) = recsB (l.take j) ++ recB r := by
 obtain ⟨hj, rfl⟩ := List.getElem?_eq_some_iff.1 h
 rw [List.take_succ_eq_append_getElem hj, recsB_snoc]
theorem take_texts {l : List Rc} (h : ∀ r ∈ l, r.key.size ≤ 64 ∧ r.val.size ≤ 64) (j : Nat) : ∀ r ∈ l.take j, r.key.size ≤ 64 ∧ r.val.size ≤ 64 := fun r hr => h r (List.mem_of_mem_take hr)
set_option maxRecDepth 100000 in
set_option maxHeartbeats 4000000 in
theorem write_any (w : World) (b : Bat) (ad : Option Addr) (len cap : Nat) (hr : RecsAt w ad len cap b.recs) (hok : Ok b) (hp1 : b.prod ≤ 9223372036854775807) :
 Calls Try.prog 66 #[.agg #[.int .i64 b.base, .int .i64 b.prod, .int .i64 b.epoch, .int .i64 b.seq, .bool b.txn, .int .i64 b.marker, .slice ad len cap]] w (GivesRow w (bytesB b)) := by
 obtain ⟨q0, q1, q2, q3, q4, q5, q6, q7, q8, q9, q10⟩ := hok
 have hlr := hr.length
 obtain ⟨F, hF⟩ : ∃ F, F = flagN b := ⟨_, rfl⟩
 have hF256 : F < 256 := by rw [hF]; exact flag_lt b
 have hFx : (F : Int) = 2 * b.marker + (if b.txn = true then 1 else 0) := by
  rw [hF]; unfold flagN; split <;> omega
 obtain ⟨E, hE⟩ : ∃ E, E = epochN b := ⟨_, rfl⟩
 have hE1 : b.epoch / 256 % 256 = ((E / 256 : Nat) : Int) := by rw [hE]; unfold epochN; omega
 have hE2 : b.epoch % 256 = ((E % 256 : Nat) : Int) := by rw [hE]; unfold epochN; omega
 have hfr : frontB b = F :: (longB b.prod ++ (E / 256 :: E % 256 :: (longB b.seq ++ [len % 256]))) := by rw [hF, hE, ← hlr]; rfl
 have hE6 : E < 65536 := by rw [hE]; exact epoch_lt b
 obtain ⟨E1, hE1'⟩ : ∃ E1, E1 = E / 256 := ⟨_, rfl⟩
 obtain ⟨E2, hE2'⟩ : ∃ E2, E2 = E % 256 := ⟨_, rfl⟩
 have hE1l : E1 < 256 := by omega
 have hE2l : E2 < 256 := by omega
 rw [← hE1'] at hE1 hfr
 rw [← hE2'] at hE2 hfr
 have HFR := Lib.hid hfr
 have HBO : Hid (bodyB b = frontB b ++ recsB b.recs) := rfl
 have HBY : Hid (bytesB b = longB b.base ++ (VarMath.beB 4 (sealB (bodyB b)).length ++ sealB (bodyB b))) := rfl
 have HT := Lib.hid q10
 have HR := Lib.hid hr
 have HE1 := Lib.hid hE1
 have HE2 := Lib.hid hE2
 have HF := Lib.hid hFx
 have hlen16 : len ≤ 16 := by omega
 have HLR := Lib.hid hlr
 clear hF hE hfr hE1' hE2' hE6 q9 q10 hr hFx hlr hE1 hE2
 obtain ⟨base, prod, epoch, seq, txn, marker, recs⟩ := b
 simp only at q0 q1 q2 q3 q4 q5 q6 q7 q8 hp1 HR HE1 HE2 HF HT HLR ⊢
 go_enter Try.func66, Try.ntmps66
 go_upto_if 14 with (fail)
 go_cut [3] from 9 (fun s3 wx => s3 = .int .u8 (F : Int) ∧ wx = w.alloc (.cells #[.int .i64 base, .int .i64 prod, .int .i64 epoch, .int .i64 seq, .bool txn, .int .i64 marker, .slice ad len cap] 52))
 case first =>
  have hmm : marker = 0 ∨ marker = 1 ∨ marker = 2 := by omega
  cases txn
  · rcases hmm with rfl | rfl | rfl
    all_goals
     go_wp2
     go_meet
     case rel => exact ⟨by have := HF.out; rw [this]; rfl, rfl⟩
  · rcases hmm with rfl | rfl | rfl
    all_goals
     go_wp2
     go_meet
     case rel => exact ⟨by have := HF.out; rw [this]; rfl, rfl⟩
 case rest =>
  obtain ⟨rfl, rfl⟩ := hcut
  obtain ⟨W0, hW0⟩ : ∃ W0, W0 = (w.alloc (.cells #[.int .i64 base, .int .i64 prod, .int .i64 epoch, .int .i64 seq, .bool txn, .int .i64 marker, .slice ad len cap] 52)) := ⟨_, rfl⟩
  have hs0 : W0.heap.size = w.heap.size + 1 := by rw [hW0]; simp
  have HX := Lib.hid (show BoxAt W0 w.heap.size base prod epoch seq txn marker (.slice ad len cap) by rw [hW0]; exact boxAt_new w _ _ _ _ _ _ _)
  have HB := Lib.hid (show Below w.heap.size w W0 by rw [hW0]; exact (Below.refl _ _).alloc (Nat.le_refl _) _)
  rw [← hW0]
  have hc1 := HX.out.c1
  have HROW := Lib.hid (row_lit W0 #[.int .u8 (F : Int)] [F] (w.heap.size + 1) 1 hs0 rfl (all_cons hF256 all_nil) rfl)
  have HB0 : Hid (Below W0.heap.size W0 (W0.alloc (.cells #[.int .u8 (F : Int)] 5))) := (Below.refl _ _).alloc (Nat.le_refl _) _
  clear hW0
  go_wp2_with fail
  (with_reducible refine (refLong_any _ _ 1 1 [F] prod HROW.out (by omega) (by omega) hp1).mono ?_)
  rintro e w1 hg
  obtain ⟨g1, c1, rfl, ho1, hb1, hbb⟩ := gives_on hg HB0.out (n := 9) (by simp [length_longB])
  have HX1 := Lib.hid (HX.out.on hb1.out)
  clear hg hbb hc1
  have hc2 := HX1.out.c2
  have he1 := HE1.out
  have he2 := HE2.out
  have HROW2 := Lib.hid (row_lit w1 #[.int .u8 (E1 : Int), .int .u8 (E2 : Int)] [E1, E2] w1.heap.size 2 rfl rfl (all_cons hE1l (all_cons hE2l all_nil)) rfl)
  have HB2 := Lib.hid (hb1.out.alloc hb1.out.size (.cells #[.int .u8 (E1 : Int), .int .u8 (E2 : Int)] 5))
  have HZ := Lib.hid hs0
  clear hs0
  go_wp2_with (at_builtin; refine append_row rfl (.tmp 22) (.tmp 30) rfl W0.heap.size 9 ([F] ++ longB prod) [E1, E2] _ rfl (ho1.out.alloc _) (some_ne _ _ _) HB2.out.size _ _ _ rfl HROW2.out (by omega) W0 HB2.out ?_)
  intro g2 c2 w2 ho2 hb2
  have HO2 := Lib.hid ho2
  have HBW2 := Lib.hid hb2
  have HA2 : Hid (AllB (([F] ++ longB prod) ++ [E1, E2])) := all_app (all_app (all_cons hF256 all_nil) (VarMath.longB_all _)) (all_cons hE1l (all_cons hE2l all_nil))
  have HX2 := Lib.hid (HX.out.on hb2)
  clear ho2 hb2 hc2 he1 he2
  have hc3 := HX2.out.c3
  have hc6 := HX2.out.c6
  have hl256 : IntKind.u8.wrap (len : Int) = (len : Int) := by rw [wrap_u8']; omega
  have CL : Hid (∀ W, Below w2.heap.size w2 W → Calls Try.prog 76 #[.slice (some ⟨g2, 0, none⟩) 11 c2, .int .i64 seq] W (GivesRow W ((([F] ++ longB prod) ++ [E1, E2]) ++ longB seq))) := by
   intro W hW
   exact refLong_any W _ 11 c2 _ seq ((owns_row HO2.out HA2.out).keep hW (Nat.le_refl _)) (by omega) (by omega) (by omega)
  go_upto_region 6 with fail
  go_cut [4] from 32 (fun s4 wx => ∃ g c, s4 = .slice (some ⟨g, 0, none⟩) 20 c ∧ Hid (wx.ownsRow W0.heap.size 5 1 (.slice (some ⟨g, 0, none⟩) 20 c) 20 (vals (((([F] ++ longB prod) ++ [E1, E2]) ++ longB seq) ++ [len]))) ∧ Hid (Below W0.heap.size W0 wx))
  case first =>
   have HL8 : Hid (AllB [len]) := all_cons (by omega) all_nil
   have HRL : Hid (∀ W, Below (w2.drew.alloc (.cells #[.int .u8 (len : Int)] 5)).heap.size (w2.drew.alloc (.cells #[.int .u8 (len : Int)] 5)) W → Row W (some ⟨w2.heap.size, 0, none⟩) 1 1 [len]) := fun W hW => (row_lit w2.drew #[.int .u8 (len : Int)] [len] w2.heap.size 1 rfl rfl HL8.out rfl).keep hW (Nat.le_refl _)
   go_region_held3 (fun W => Below w2.heap.size w2 W ∧ W.cell? ⟨w.heap.size, 3, none⟩ = some (.int .i64 seq) ∧ W.cell? ⟨w.heap.size, 6, none⟩ = some (.slice ad len cap)) (first | exact keep_two hb4 hc3 hc6 | exact keep_two hb3.out hc3 hc6 | exact keep_two (hb3.out.alloc hb3.out.size _) hc3 hc6 | exact keep_two ((Below.refl _ w2).drew) hc3 hc6 | exact keep_two (((Below.refl _ w2).drew).alloc (by simp) _) hc3 hc6) (first | (go_at_call 76; refine (CL.out _ ?_).mono ?_; exact (And.left ‹Below w2.heap.size w2 _ ∧ _›); rintro e w3 hg; obtain ⟨g3, k3, rfl, ho3, hb3, hbb3⟩ := gives_on (w := w2) (n := 19) hg (And.left ‹Below w2.heap.size w2 _ ∧ _›) (by simp [length_longB])) | (refine held_append (by rfl) (.tmp 35) (.tmp 40) rfl w2.heap.size 19 ((([F] ++ longB prod) ++ [E1, E2]) ++ longB seq) [len] _ rfl (ho3.out.alloc _) (hb3.out.alloc hb3.out.size _).size ⟨w3.heap.size, 0, none⟩ 1 1 rfl (row_lit w3 #[.int .u8 (len : Int)] [len] w3.heap.size 1 rfl rfl HL8.out rfl) (by omega) (by omega) w2 (hb3.out.alloc hb3.out.size _) ?_; intro g4 k4 w4 ho4 hp4 hb4) | (refine held_append (by rfl) (.tmp 35) (.tmp 40) rfl w2.heap.size 19 ((([F] ++ longB prod) ++ [E1, E2]) ++ longB seq) [len] _ rfl ho3.out hb3.out.size ⟨w2.heap.size, 0, none⟩ 1 1 rfl (HRL.out _ hbb3.out) (by omega) (by omega) w2 hb3.out ?_; intro g4 k4 w4 ho4 hp4 hb4))
   all_goals
    go_wp2
    go_meet
    case rel => exact ⟨_, _, rfl, owns_low ho4 HBW2.out.size, HBW2.out.trans (hb4.mono HBW2.out.size)⟩
  case rest =>
   clear hc3 hc6 hl256
   obtain ⟨g4, c4, rfl, ho4, hb4⟩ := hcut
   have HX4 := Lib.hid (HX.out.on hb4.out)
   have hc6 := HX4.out.c6
   obtain ⟨fr, hfr⟩ : ∃ fr, fr = ((([F] ++ longB prod) ++ [E1, E2]) ++ longB seq) ++ [len] := ⟨_, rfl⟩
   rw [← hfr] at ho4
   have hfl : fr.length = 20 := by rw [hfr]; simp [length_longB]
   have HFA : Hid (AllB fr) := by
    show AllB fr
    rw [hfr]
    exact all_app (all_app HA2.out (VarMath.longB_all _)) (all_cons (by omega) all_nil)
   have HFR2 : Hid (bodyB ⟨base, prod, epoch, seq, txn, marker, recs⟩ = fr ++ recsB recs) := by
    show _ = _
    rw [HBO.out, HFR.out, hfr, Nat.mod_eq_of_lt (show len < 256 by omega)]
    simp
   have HFL := Lib.hid hfl
   clear hfr hfl
   go_wp2_with fail
   go_loopw [4, 45] (fun v4 v45 wr => WriteAt W0 fr recs v4 v45 wr) (fun _ v45 _ => len - (intOf v45).toNat)
   case atStart => exact writeAt_start HFL.out ho4.out hb4.out
   case round =>
    obtain ⟨j, g, c, m, hj, rfl, rfl, hm, hown, hbel⟩ := hrel
    rw [HLR.out] at hj
    have HM := Lib.hid hm
    have HOWN := Lib.hid hown
    have HBEL := Lib.hid hbel
    have hmle : m ≤ 2388 := by
     have h1 := (recs_len (take_texts HT.out j)).2
     have h2 : (recs.take j).length ≤ 16 := by rw [List.length_take]; have := HLR.out; omega
     have h3 := HFL.out
     rw [← hm, List.length_append]
     omega
    clear hm hown hbel
    by_cases hlt : j < len
    · obtain ⟨r, hrj⟩ : ∃ r, recs[j]? = some r := by
       have hjl : j < recs.length := by rw [HLR.out]; exact hlt
       exact ⟨_, List.getElem?_eq_getElem hjl⟩
      obtain ⟨bk, off, rfl, hbk, hcell⟩ : ∃ bk off, ad = some ⟨bk, off, none⟩ ∧ bk < w.heap.size ∧ ∀ i r, recs[i]? = some r → wr.cell? ⟨bk, off + i * 2, none⟩ = some (.string r.key) ∧ wr.cell? ⟨bk, off + i * 2 + 1, none⟩ = some (.string r.val) := by
       have hbw : Below w.heap.size w wr := HB.out.trans (HBEL.out.mono HB.out.size)
       rcases HR.out.cells with h | ⟨bk, off, e, hlt, hc⟩
       · omega
       · exact ⟨bk, off, e, hlt, fun i r hi => ⟨(hbw.cell (p := ⟨bk, _, none⟩) hlt).trans (hc i r hi).1, (hbw.cell (p := ⟨bk, _, none⟩) hlt).trans (hc i r hi).2⟩⟩
      obtain ⟨hk, hv⟩ := hcell j r hrj
      have hmem := List.mem_of_getElem? hrj
      obtain ⟨hs1, hs2⟩ := HT.out r hmem
      have hsn := take_recs hrj
      have hta := take_texts HT.out j
      obtain ⟨pre, hpre⟩ : ∃ pre, pre = fr ++ recsB (recs.take j) := ⟨_, rfl⟩
      have hpa : AllB pre := by
       rw [hpre]
       exact all_app HFA.out (recs_all fun x hx => by have := hta x hx; omega)
      rw [← hpre] at HM HOWN
      have HSN : Hid (fr ++ recsB (recs.take (j + 1)) = pre ++ recB r) := by
       show _ = _
       rw [hsn, hpre, List.append_assoc]
      obtain ⟨ks, vs⟩ := r
      simp only at hk hv hs1 hs2
      have HPA := Lib.hid hpa
      have HLE : Hid (j + 1 ≤ recs.length) := by show _ ≤ _; rw [HLR.out]; exact hlt
      clear hcell hrj hmem hsn hta hpre hpa
      have l1 := BatMath.text_len (s := bl ks) (by rw [bl_len]; omega)
      have l2 := BatMath.text_len (s := bl vs) (by rw [bl_len]; omega)
      rw [bl_len] at l1 l2
      obtain ⟨n1, hn1⟩ : ∃ n1, n1 = (textB (bl ks)).length := ⟨_, rfl⟩
      obtain ⟨n2, hn2⟩ : ∃ n2, n2 = (textB (bl vs)).length := ⟨_, rfl⟩
      rw [← hn1] at l1
      rw [← hn2] at l2
      have HN1 : Hid ((pre ++ textB (bl ks)).length = m + n1) := by show _ = _; rw [List.length_append, HM.out, hn1]
      have HN2 : Hid (((pre ++ textB (bl ks)) ++ textB (bl vs)).length = m + n1 + n2) := by show _ = _; rw [List.length_append, HN1.out, hn2]
      have HA1 : Hid (AllB (pre ++ textB (bl ks))) := all_app HPA.out (text_all (bl_all _) (by rw [bl_len]; omega))
      clear hn1 hn2
      obtain ⟨wx, hwx⟩ : ∃ wx, wx = wr.alloc (.cells #[.string ks, .string vs] 59) := ⟨_, rfl⟩
      have hd0 : wx.cell? ⟨wr.heap.size, 0, none⟩ = some (.string ks) := by rw [hwx, World.cell?, heap_alloc_new]; rfl
      have hd1 : wx.cell? ⟨wr.heap.size, 1, none⟩ = some (.string vs) := by rw [hwx, World.cell?, heap_alloc_new]; rfl
      have HWX := Lib.hid hwx
      have HBX : Hid (Below W0.heap.size W0 wx) := by show Below _ _ _; rw [hwx]; exact HBEL.out.alloc HBEL.out.size _
      have CT : Hid (∀ W, Below wx.heap.size wx W → Calls Try.prog 77 #[.slice (some ⟨g, 0, none⟩) m c, .string ks] W (GivesRow W (pre ++ textB (bl ks)))) := by
       intro W hW
       have hown : wx.ownsRow W0.heap.size 5 1 (.slice (some ⟨g, 0, none⟩) m c) m (vals pre) := by rw [HWX.out]; exact HOWN.out.alloc _
       exact refText_any W _ m c _ ks ((owns_row hown HPA.out).keep hW (Nat.le_refl _)) (by omega)
      clear hwx
      go_upto_region 10 with fail
      rw [← HWX.out]
      go_region_held3 (fun W => Below wx.heap.size wx W ∧ W.cell? ⟨wr.heap.size, 0, none⟩ = some (.string ks) ∧ W.cell? ⟨wr.heap.size, 1, none⟩ = some (.string vs)) (first | exact keep_two hb6.out hd0 hd1 | exact keep_two hb5.out hd0 hd1 | exact keep_two ((Below.refl _ wx).drew) hd0 hd1) (first | (go_at_call 77; refine (refText_any _ _ _ _ _ vs (owns_row ho5.out HA1.out) (by omega)).mono ?_; rintro e w6 hg; obtain ⟨g6, k6, rfl, ho6, hb6, hbb6⟩ := gives_on (w := wx) (n := m + n1 + n2) hg hb5.out HN2.out) | (go_at_call 77; refine (CT.out _ ?_).mono ?_; exact (And.left ‹Below wx.heap.size wx _ ∧ _›); rintro e w5 hg; obtain ⟨g5, k5, rfl, ho5, hb5, hbb5⟩ := gives_on (w := wx) (n := m + n1) hg (And.left ‹Below wx.heap.size wx _ ∧ _›) HN1.out))
      go_wp2
      go_roundw
      case rel => exact ⟨j + 1, _, _, _, HLE.out, by go_num, rfl, by rw [HSN.out, recB, ← List.append_assoc]; exact HN2.out, by rw [HSN.out, recB, ← List.append_assoc]; exact owns_low ho6.out HBX.out.size, HBX.out.trans (hb6.out.mono HBX.out.size)⟩
      case measure => simp [intOf]; omega
    · obtain rfl : j = len := by omega
      have hrl : recs.take j = recs := by rw [List.take_of_length_le (by rw [HLR.out]; exact Nat.le_refl _)]
      rw [hrl] at HM HOWN
      have HBA : Hid (AllB (fr ++ recsB recs)) := all_app HFA.out (recs_all fun x hx => by have := HT.out x hx; omega)
      have HBB : Hid (bodyB ⟨base, prod, epoch, seq, txn, marker, recs⟩ = fr ++ recsB recs) := HFR2
      clear hlt hrl
      go_wp2_with fail
      refine (sealed_any wr _ m c _ (owns_row HOWN.out HBA.out).1 (fun h => by cases h) (by omega)).mono ?_
      rintro e w7 ⟨v7, rfl, g7, k7, rfl, hk7, hg7, hp7, hb7⟩
      obtain ⟨N, hN⟩ : ∃ N, N = (sealB (fr ++ recsB recs)).length := ⟨_, rfl⟩
      have hN4 : N = m + 4 := by rw [hN, CrcMath.length_sealB, HM.out]
      rw [← hN] at hk7 ⊢
      have HX7 := Lib.hid (HX.out.on (HBEL.out.trans (hb7.mono HBEL.out.size)))
      have HY7 := Lib.hid (hp7.byt (CrcMath.sealB_all HBA.out) k7 (by rw [← hN]; exact hk7))
      rw [← hN] at HY7
      have HB7 : Hid (Below W0.heap.size W0 w7) := HBEL.out.trans (hb7.mono HBEL.out.size)
      have HNN := Lib.hid hN
      have hN1 : N ≤ 2392 := by omega
      clear hp7 hN hN4 hb7
      have hc0 := HX7.out.c0
      go_wp2_with fail
      refine (refLong_any w7 none 0 0 [] base ⟨Byt.nil w7, fun _ => rfl⟩ (by omega) (by omega) (by omega)).mono ?_
      rintro e w8 hg
      obtain ⟨g8, k8, rfl, ho8, hb8, hbb8⟩ := gives_on (w := w7) hg (Below.refl _ _) (n := 8) (by simp [length_longB])
      clear hg hc0
      obtain ⟨B3, hB3⟩ : ∃ B, B = N / 16777216 := ⟨_, rfl⟩
      obtain ⟨B2, hB2⟩ : ∃ B, B = N / 65536 := ⟨_, rfl⟩
      obtain ⟨B1, hB1⟩ : ∃ B, B = N / 256 := ⟨_, rfl⟩
      obtain ⟨B0, hB0⟩ : ∃ B, B = N % 256 := ⟨_, rfl⟩
      have hv3 : (N : Int) / 16777216 = (B3 : Int) := by omega
      have hv2 : (N : Int) / 65536 = (B2 : Int) := by omega
      have hv1 : (N : Int) / 256 = (B1 : Int) := by omega
      have hv0 : (N : Int) % 256 = (B0 : Int) := by omega
      have HBE : Hid (VarMath.beB 4 N = [B3, B2, B1, B0]) := by
       show _ = _
       simp only [VarMath.beB]
       have p3 : N / 256 ^ 3 % 256 = B3 := by rw [hB3]; simp only [Nat.reducePow]; omega
       have p2 : N / 256 ^ 2 % 256 = B2 := by rw [hB2]; simp only [Nat.reducePow]; omega
       have p1 : N / 256 ^ 1 % 256 = B1 := by rw [hB1]; simp only [Nat.reducePow]; omega
       have p0 : N / 256 ^ 0 % 256 = B0 := by rw [hB0]; simp only [Nat.reducePow]; omega
       rw [p3, p2, p1, p0]
      have HBL : Hid (AllB [B3, B2, B1, B0]) := all_cons (by omega) (all_cons (by omega) (all_cons (by omega) (all_cons (by omega) all_nil)))
      have HROW8 := Lib.hid (row_lit w8 #[.int .u8 (B3 : Int), .int .u8 (B2 : Int), .int .u8 (B1 : Int), .int .u8 (B0 : Int)] [B3, B2, B1, B0] w8.heap.size 4 rfl rfl HBL.out rfl)
      have HY8 := Lib.hid (HY7.out.keep (hbb8.out.alloc hbb8.out.size (.cells #[.int .u8 (B3 : Int), .int .u8 (B2 : Int), .int .u8 (B1 : Int), .int .u8 (B0 : Int)] 5)) (Nat.le_refl _))
      clear hB3 hB2 hB1 hB0
      go_wp2_with (at_builtin; refine append_row rfl (.tmp 63) (.tmp 75) rfl w7.heap.size 8 ([] ++ longB base) [B3, B2, B1, B0] _ rfl (ho8.out.alloc _) (some_ne _ _ _) (hbb8.out.alloc hbb8.out.size _).size _ _ _ rfl HROW8.out (by omega) w7 (hbb8.out.alloc hbb8.out.size _) ?_)
      intro g9 c9 w9 ho9 hb9
      have HO9 := Lib.hid ho9
      have HY9 := Lib.hid (HY7.out.keep hb9 (Nat.le_refl _))
      have HB9 := Lib.hid hb9
      clear ho9 hb9 hv3 hv2 hv1 hv0
      go_wp2_with (at_builtin; refine append_row rfl (.tmp 77) (.tmp 78) rfl w7.heap.size 12 (longB base ++ [B3, B2, B1, B0]) (sealB (fr ++ recsB recs)) _ rfl HO9.out (some_ne _ _ _) HB9.out.size _ _ _ rfl ⟨HY9.out, fun h => by cases h⟩ (by omega) w7 HB9.out ?_)
      intro g10 c10 w10 ho10 hb10
      have HFIN : Hid (longB base ++ [B3, B2, B1, B0] ++ sealB (fr ++ recsB recs) = bytesB ⟨base, prod, epoch, seq, txn, marker, recs⟩) := by
       show _ = _
       rw [HBY.out, HBB.out, ← HNN.out, HBE.out]
       simp
      have hlen : (bytesB ⟨base, prod, epoch, seq, txn, marker, recs⟩).length = 12 + N := by
       rw [← HFIN.out]
       simp only [List.length_append, length_longB, List.length_nil, List.length_cons, ← HNN.out]
      have hfe : w10.ownsRow w7.heap.size 5 1 (.slice (some ⟨g10, 0, none⟩) (12 + N) c10) (12 + N) (vals (bytesB ⟨base, prod, epoch, seq, txn, marker, recs⟩)) := by
       rw [← HFIN.out]
       simpa using ho10
      have HO10 := Lib.hid (owns_low hfe HB7.out.size)
      clear hfe
      have HB10 := Lib.hid (HB7.out.trans (hb10.mono HB7.out.size))
      have HLEN := Lib.hid hlen
      clear ho10 hb10 hlen
      go_wp2
      go_ret
      exact gives_row HLEN.out (owns_low HO10.out HB.out.size) (HB.out.trans (HB10.out.mono HB.out.size))
end Go.Proofs.Ytipaebflkebdjaa
namespace Go.Proofs.Ytipaebflkebdjaa
open Go.RowKit
open Go.SeqMath
open Go.BatMath hiding AllB getD_lt take_all
set_option linter.unusedVariables false

theorem refRight_any (w : World) (b : Bat) (ad : Option Addr) (len cap : Nat) (hr : RecsAt w ad len cap b.recs) (ht : TextsOk b.recs) (hL : len ≤ 140737488355328) (hp : b.prod ≤ 9223372036854775807) :
 Calls Try.prog 48 #[.agg #[.int .i64 b.base, .int .i64 b.prod, .int .i64 b.epoch, .int .i64 b.seq, .bool b.txn, .int .i64 b.marker, .slice ad len cap]] w (Says (rightE b) w) := by
 obtain rfl := hr.length
 have CP : Hid (∀ W, Below w.heap.size w W → Calls Try.prog 65 #[.agg #[.int .i64 b.base, .int .i64 b.prod, .int .i64 b.epoch, .int .i64 b.seq, .bool b.txn, .int .i64 b.marker, .slice ad b.recs.length cap]] W (Says (rightE b) W)) := fun W hW => plain_any W b ad cap (hr.keep hW) ht hL
 obtain ⟨ev, hev⟩ : ∃ ev, ev = rightE b := ⟨_, rfl⟩
 rw [← hev] at CP ⊢
 have CW : Hid (ev = 0 → ∀ W, Below w.heap.size w W → Calls Try.prog 66 #[.agg #[.int .i64 b.base, .int .i64 b.prod, .int .i64 b.epoch, .int .i64 b.seq, .bool b.txn, .int .i64 b.marker, .slice ad b.recs.length cap]] W (GivesRow W (bytesB b))) := by
  intro h W hW
  exact write_any W b ad _ cap (hr.keep hW) (ok_of (by rw [← hev, h])) hp
 have HLE : Hid (ev = 0 → (bytesB b).length ≤ 4096) := by
  intro h
  have := (ok_len (ok_of (b := b) (by rw [← hev, h]))).1
  omega
 clear hev hr ht hp
 obtain ⟨base, prod, epoch, seq, txn, marker, recs⟩ := b
 simp only at CP CW hL ⊢
 obtain ⟨len, hlen⟩ : ∃ len, len = recs.length := ⟨_, rfl⟩
 rw [← hlen] at CP CW hL ⊢
 clear hlen
 obtain ⟨W0, hW0⟩ : ∃ W0, W0 = (w.alloc (.cells #[.int .i64 base, .int .i64 prod, .int .i64 epoch, .int .i64 seq, .bool txn, .int .i64 marker, .slice ad len cap] 52)) := ⟨_, rfl⟩
 have hs0 : W0.heap.size = w.heap.size + 1 := by rw [hW0]; simp
 have HX := Lib.hid (show BoxAt W0 w.heap.size base prod epoch seq txn marker (.slice ad len cap) by rw [hW0]; exact boxAt_new w _ _ _ _ _ _ _)
 have HB := Lib.hid (show Below w.heap.size w W0 by rw [hW0]; exact (Below.refl _ _).alloc (Nat.le_refl _) _)
 have HW0 := Lib.hid hW0
 clear hW0
 go_enter Try.func48, Try.ntmps48
 go_wp2_with fail
 rw [← HW0.out]
 refine (CP.out W0 HB.out).mono ?_
 rintro e w1 ⟨rfl, hb⟩
 have HX1 := Lib.hid (HX.out.on hb)
 have HB1 := Lib.hid (HB.out.trans (hb.mono HB.out.size))
 clear hb
 by_cases h0 : ev = 0
 · have h1 : (ev != 0) = false := by simpa using h0
   have H0 := Lib.hid h0
   clear h0
   have hc0 := HX1.out.c0
   have hc1 := HX1.out.c1
   have hc2 := HX1.out.c2
   have hc3 := HX1.out.c3
   have hc4 := HX1.out.c4
   have hc5 := HX1.out.c5
   have hc6 := HX1.out.c6
   obtain ⟨n, hn⟩ : ∃ n, (bytesB ⟨base, prod, epoch, seq, txn, marker, recs⟩).length = n := ⟨_, rfl⟩
   have hn4 : n ≤ 4096 := by rw [← hn]; exact HLE.out H0.out
   have HN := Lib.hid hn
   clear hn
   go_wp2_with fail
   refine (CW.out H0.out w1 HB1.out).mono ?_
   rintro e w2 hg
   obtain ⟨g, c, rfl, ho, hb, hbb⟩ := gives_on hg HB1.out HN.out
   clear hg hc0 hc1 hc2 hc3 hc4 hc5 hc6
   go_wp2
   go_ret
   exact says_mk H0.out.symm hb.out
 · have h1 : (ev != 0) = true := by simpa using h0
   go_wp2
   go_ret
   exact says_mk rfl HB1.out
/-- What Bytes gives: the bytes and no error, or none and the error. -/
def GivesBytes (w : World) (ev : Int) (L : List Nat) (e : Ending) (w' : World) : Prop :=
 (ev = 0 ∧ ∃ g c, e = .returned (.tuple #[.slice (some ⟨g, 0, none⟩) L.length c, .int .i64 0]) ∧ w'.ownsRow w.heap.size 5 1 (.slice (some ⟨g, 0, none⟩) L.length c) L.length (vals L) ∧ Below w.heap.size w w') ∨
 (ev ≠ 0 ∧ e = .returned (.tuple #[.slice none 0 0, .int .i64 ev]) ∧ Below w.heap.size w w')
theorem gives_bytes {w w' : World} {ev : Int} {L : List Nat} {g c : Nat} (h : ev = 0) (h1 : w'.ownsRow w.heap.size 5 1 (.slice (some ⟨g, 0, none⟩) L.length c) L.length (vals L)) (h2 : Below w.heap.size w w') : GivesBytes w ev L (.returned (.tuple #[.slice (some ⟨g, 0, none⟩) L.length c, .int .i64 0])) w' := .inl ⟨h, g, c, rfl, h1, h2⟩
theorem gives_none {w w' : World} {ev : Int} {L : List Nat} (h : ev ≠ 0) (h2 : Below w.heap.size w w') : GivesBytes w ev L (.returned (.tuple #[.slice none 0 0, .int .i64 ev])) w' := .inr ⟨h, rfl, h2⟩
theorem refBytes_any (w : World) (b : Bat) (ad : Option Addr) (len cap : Nat) (hr : RecsAt w ad len cap b.recs) (ht : TextsOk b.recs) (hL : len ≤ 140737488355328) (hp : b.prod ≤ 9223372036854775807) :
 Calls Try.prog 73 #[.agg #[.int .i64 b.base, .int .i64 b.prod, .int .i64 b.epoch, .int .i64 b.seq, .bool b.txn, .int .i64 b.marker, .slice ad len cap]] w (GivesBytes w (rightE b) (bytesB b)) := by
 have CP : Hid (∀ W, Below w.heap.size w W → Calls Try.prog 48 #[.agg #[.int .i64 b.base, .int .i64 b.prod, .int .i64 b.epoch, .int .i64 b.seq, .bool b.txn, .int .i64 b.marker, .slice ad len cap]] W (Says (rightE b) W)) := fun W hW => refRight_any W b ad len cap (hr.keep hW) ht hL hp
 have CW : Hid (rightE b = 0 → ∀ W, Below w.heap.size w W → Calls Try.prog 66 #[.agg #[.int .i64 b.base, .int .i64 b.prod, .int .i64 b.epoch, .int .i64 b.seq, .bool b.txn, .int .i64 b.marker, .slice ad len cap]] W (GivesRow W (bytesB b))) :=
  fun h W hW => write_any W b ad len cap (hr.keep hW) (ok_of h) hp
 obtain ⟨ev, hev⟩ : ∃ ev, ev = rightE b := ⟨_, rfl⟩
 rw [← hev] at CP CW ⊢
 obtain ⟨L, hLL⟩ : ∃ L, L = bytesB b := ⟨_, rfl⟩
 rw [← hLL] at CW ⊢
 clear hev hr ht hp hLL hL
 obtain ⟨base, prod, epoch, seq, txn, marker, recs⟩ := b
 simp only at CP CW ⊢
 obtain ⟨W0, hW0⟩ : ∃ W0, W0 = (w.alloc (.cells #[.int .i64 base, .int .i64 prod, .int .i64 epoch, .int .i64 seq, .bool txn, .int .i64 marker, .slice ad len cap] 52)) := ⟨_, rfl⟩
 have hs0 : W0.heap.size = w.heap.size + 1 := by rw [hW0]; simp
 have HX := Lib.hid (show BoxAt W0 w.heap.size base prod epoch seq txn marker (.slice ad len cap) by rw [hW0]; exact boxAt_new w _ _ _ _ _ _ _)
 have HB := Lib.hid (show Below w.heap.size w W0 by rw [hW0]; exact (Below.refl _ _).alloc (Nat.le_refl _) _)
 have HW0 := Lib.hid hW0
 clear hW0
 go_enter Try.func73, Try.ntmps73
 go_wp2_with fail
 rw [← HW0.out]
 refine (CP.out W0 HB.out).mono ?_
 rintro e w1 ⟨rfl, hb⟩
 have HX1 := Lib.hid (HX.out.on hb)
 have HB1 := Lib.hid (HB.out.trans (hb.mono HB.out.size))
 clear hb
 by_cases h0 : ev = 0
 · have h1 : (ev != 0) = false := by simpa using h0
   have H0 := Lib.hid h0
   clear h0
   have hc0 := HX1.out.c0
   have hc1 := HX1.out.c1
   have hc2 := HX1.out.c2
   have hc3 := HX1.out.c3
   have hc4 := HX1.out.c4
   have hc5 := HX1.out.c5
   have hc6 := HX1.out.c6
   go_wp2_with fail
   refine (CW.out H0.out w1 HB1.out).mono ?_
   rintro e w2 hg
   obtain ⟨g, c, rfl, ho, hb, hbb⟩ := gives_on hg HB1.out rfl
   clear hg hc0 hc1 hc2 hc3 hc4 hc5 hc6
   go_wp2
   go_ret2
   exact gives_bytes H0.out ho.out hb.out
 · have h1 : (ev != 0) = true := by simpa using h0
   have H0 := Lib.hid h0
   clear h0
   go_wp2
   go_ret2
   exact gives_none H0.out HB1.out
theorem refSize_any (w : World) (b : Bat) (ad : Option Addr) (len cap : Nat) (hr : RecsAt w ad len cap b.recs) (ht : TextsOk b.recs) (hL : len ≤ 140737488355328) (hp : b.prod ≤ 9223372036854775807) :
 Calls Try.prog 64 #[.agg #[.int .i64 b.base, .int .i64 b.prod, .int .i64 b.epoch, .int .i64 b.seq, .bool b.txn, .int .i64 b.marker, .slice ad len cap]] w (Says (sizeB b) w) := by
 have CP : Hid (∀ W, Below w.heap.size w W → Calls Try.prog 73 #[.agg #[.int .i64 b.base, .int .i64 b.prod, .int .i64 b.epoch, .int .i64 b.seq, .bool b.txn, .int .i64 b.marker, .slice ad len cap]] W (GivesBytes W (rightE b) (bytesB b))) := fun W hW => refBytes_any W b ad len cap (hr.keep hW) ht hL hp
 have HY : Hid (rightE b = 0 → ((bytesB b).length : Int) = sizeB b) := fun h => by unfold sizeB; rw [if_pos h]
 have HN : Hid (rightE b ≠ 0 → 0 = sizeB b) := fun h => by unfold sizeB; rw [if_neg h]
 obtain ⟨P, hP⟩ : ∃ P, P = sizeB b := ⟨_, rfl⟩
 rw [← hP] at HY HN ⊢
 obtain ⟨ev, hev⟩ : ∃ ev, ev = rightE b := ⟨_, rfl⟩
 rw [← hev] at HY HN CP
 obtain ⟨L, hLL⟩ : ∃ L, L = bytesB b := ⟨_, rfl⟩
 rw [← hLL] at HY CP
 clear hev hP hr ht hp hLL hL
 obtain ⟨base, prod, epoch, seq, txn, marker, recs⟩ := b
 simp only at CP ⊢
 go_enter Try.func64, Try.ntmps64
 go_wp2_with fail
 refine (CP.out _ ((Below.refl _ _).alloc (Nat.le_refl _) _)).mono ?_
 rintro e w1 hg
 rcases hg with ⟨h, g, c, rfl, _, hb⟩ | ⟨h, rfl, hb⟩
 · have H := Lib.hid h
   have HB := Lib.hid (((Below.refl w.heap.size w).alloc (Nat.le_refl _) _).trans (hb.mono (by simp)))
   clear h hb
   go_wp2
   go_ret
   exact says_mk (HY.out H.out) HB.out
 · have H := Lib.hid h
   have HB := Lib.hid (((Below.refl w.heap.size w).alloc (Nat.le_refl _) _).trans (hb.mono (by simp)))
   clear h hb
   go_wp2
   go_ret
   exact says_mk (HN.out H.out) HB.out
theorem refCount_any (w : World) (b0 b1 b2 b3 : Int) (b4 : Bool) (b5 : Int) (ad : Option Addr) (len cap : Nat) (n : Int) (hn : (if b5 ≠ 0 then 1 else (len : Int)) = n) :
 Calls Try.prog 29 #[.agg #[.int .i64 b0, .int .i64 b1, .int .i64 b2, .int .i64 b3, .bool b4, .int .i64 b5, .slice ad len cap]] w (Says n w) := by
 by_cases h : b5 = 0
 · subst h
   obtain rfl : (len : Int) = n := by rw [← hn, if_neg (by decide)]
   clear hn
   go_enter Try.func29, Try.ntmps29
   go_wp2
   go_ret
   exact says_mk rfl ((Below.refl _ _).alloc (Nat.le_refl _) _)
 · have h1 : (b5 != 0) = true := by simpa using h
   obtain rfl : 1 = n := by rw [← hn, if_pos h]
   clear hn
   go_enter Try.func29, Try.ntmps29
   go_wp2
   go_ret
   exact says_mk rfl ((Below.refl _ _).alloc (Nat.le_refl _) _)
end Go.Proofs.Ytipaebflkebdjaa
