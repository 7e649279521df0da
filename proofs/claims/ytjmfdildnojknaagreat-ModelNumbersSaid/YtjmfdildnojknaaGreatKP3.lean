/- Parts of a proof. -/
import Derived.OwnWalk
import Derived.Test.YtjmfdildnojknaaGreatKP2
set_option maxRecDepth 100000
set_option maxHeartbeats 16000000
set_option linter.unusedVariables false
namespace Go.Proofs.YtjmfdildnojknaaGreat
open Go.RowKit
open Go.VarMath hiding AllB
def LongAt (w : World) (bs : List Nat) (n : Int) (k : Nat) (v5 : Value) (wr : World) : Prop :=
 ∃ (g cap m : Nat), m = bs.length + k ∧ v5 = .slice (some ⟨g, 0, none⟩) m cap ∧ wr.ownsRow w.heap.size 5 1 (.slice (some ⟨g, 0, none⟩) m cap) m (vals (bs ++ (longB n).take k)) ∧ Below w.heap.size w wr
theorem longAt_step {w w' : World} {bs : List Nat} {n : Int} {k m g cap z : Nat} (hk : k < 8) (hm : m = bs.length + k) (hz : z = low64 n / 256 ^ (7 - k) % 256)
 (hown : w'.ownsRow w.heap.size 5 1 (.slice (some ⟨g, 0, none⟩) (m + 1) cap) (m + 1) (vals (bs ++ ((longB n).take k ++ [z])))) (hb : Below w.heap.size w w') :
 LongAt w bs n (k + 1) (.slice (some ⟨g, 0, none⟩) (m + 1) cap) w' := by
 refine ⟨g, cap, m + 1, by omega, rfl, ?_, hb⟩
 have h := beB_take k 8 (low64 n) hk
 unfold longB at hown ⊢
 rw [h]
 have e : 8 - 1 - k = 7 - k := by omega
 rw [e, ← hz]
 exact hown
theorem refLong_shift (n : Int) (j : Nat) (hj : j < 8) : n / 2 ^ (8 * j) % 256 = ((low64 n / 256 ^ j % 256 : Nat) : Int) := by
 unfold low64
 rcases j with _ | _ | _ | _ | _ | _ | _ | _ | j
 all_goals first | (exfalso; omega) | (simp only [Nat.reduceMul, Nat.reduceAdd, Int.reducePow, Nat.reducePow]; omega)
theorem refLong_any (w : World) (ad : Option Addr) (len cap : Nat) (bs : List Nat) (n : Int) (h : Row w ad len cap bs) (hL : len ≤ 140737488355300) (h0 : -9223372036854775808 ≤ n) (h1 : n ≤ 9223372036854775807) :
 Calls Tryz.prog 113 #[.slice ad len cap, .int .i64 n] w (GivesRow w (bs ++ longB n)) := by
 have HB := qh h
 clear h
 have HZ1 : Hid (Below w.heap.size w (w.alloc (.cells #[] 5))) := (bal _ _)
 go_enter Tryz.func113, Tryz.ntmps113
 go_wp2_with (at_builtin; refine append_row rfl (.tmp 7) (.tmp 8) rfl w.heap.size 0 [] _ _ rfl (own_empty w _ (Nat.le_refl _)) (some_ne _ _ _) HZ1.out.size _ _ _ rfl (HB.out.keep HZ1.out (Nat.le_refl _)) (by omega) w HZ1.out ?_)
 intro g cp w1 ho1 hb1
 have HO := qh (show w1.ownsRow w.heap.size 5 1 (.slice (some ⟨g, 0, none⟩) len cp) len (vals bs) by simpa using ho1)
 have HB1 := qh hb1
 clear ho1 hb1
 go_wp2
 go_loopw [5, 6] (fun v5 v6 wr => ∃ (k : Nat) (i : Int), k ≤ 8 ∧ i = 56 - 8 * (k : Int) ∧ v6 = .int .i64 i ∧ LongAt w bs n k v5 wr) (fun _ v6 _ => (8 + intOf v6).toNat)
 case atStart => exact ⟨0, _, by omega, by omega, rfl, g, cp, len, by rw [HB.out.len]; rfl, rfl, by simpa using HO.out, HB1.out⟩
 obtain ⟨k, i, hk, hi, rfl, g, cap', m, hm, rfl, hown, hbel⟩ := hrel
 have HM := qh hm
 have HO' := qh hown
 have HW := qh hbel
 have hm2 : m ≤ 140737488355308 := by have := HB.out.len; omega
 clear hm hown hbel
 by_cases hlt : k < 8
 rotate_left
 · obtain rfl : k = 8 := by omega
   obtain rfl : i = -8 := by omega
   clear hi
   go_wp2
   go_ret
   have h3 := HO'.out
   rw [List.take_of_length_le (by rw [length_longB]; omega)] at h3
   refine gives_row ?_ h3 HW.out
   rw [HM.out, List.length_append, length_longB]
 obtain ⟨z, hz⟩ := exq (low64 n / 256 ^ (7 - k) % 256)
 have hz8 : z < 256 := by omega
 obtain ⟨t, ht⟩ : ∃ t, t = 8 * (7 - k) := ⟨_, rfl⟩
 have hsh : n / 2 ^ t % 256 = (z : Int) := by rw [hz, ht]; exact refLong_shift _ _ (by omega)
 have hsh2 : IntKind.u8.wrap (n / 2 ^ t) = (z : Int) := by rw [wrap_u8', hsh]
 obtain rfl : i = (t : Int) := by omega
 have HI := qh hi
 have HZ := qh hz
 have ht2 : t ≤ 56 := by omega
 clear hz hsh hi ht
 have HW2 : Hid (Below w.heap.size w (wr.alloc (.cells #[.int .u8 (z : Int)] 5))) := HW.out.alloc HW.out.size _
 go_wp2_with (at_builtin; refine append_row rfl (.tmp 14) (.tmp 20) rfl w.heap.size m (bs ++ (longB n).take k) [z] _ rfl (HO'.out.alloc _) (some_ne _ _ _) HW2.out.size _ _ _ rfl (row_byte wr z hz8) (by omega) w HW2.out ?_)
 intro g3 cp3 w3 ho3 hb3
 have HO3 := qh ho3
 have HB3 := qh hb3
 clear ho3 hb3 hsh2
 go_wp2
 go_roundw
 case rel => exact ⟨k + 1, _, by omega, by have := HI.out; omega, rfl, longAt_step hlt HM.out HZ.out HO3.out HB3.out⟩
 simp [intOf]; omega
end Go.Proofs.YtjmfdildnojknaaGreat
namespace Go.Proofs.YtjmfdildnojknaaGreat
open Go.RowKit Go.OpenShut
theorem run_append_keep {P : Program} (w : World) (base : Nat) (t ty e : TypeId) (i : TypeInfo) (z : Value) (size bytes : Nat) (ht : P.underlying t = some (.slice e)) (hi : P.info? e = some i) (hz : i.zero = some z)
 (hsize : i.size = size) (hby : i.bytes = bytes) (hzs : z.cells.size = size) (hsz : 0 < size)
 (g cap : Nat) (n : Nat) (xs : List Value) (hown : w.ownsRow base e size (.slice (some ⟨g, 0, none⟩) n cap) n xs)
 (a : Addr) (m c : Nat) (news : List Value) (hl : news.length = m * size) (hnews : ∀ j u, news[j]? = some u → w.cell? (a.add j) = some u) (h1 : ∀ u ∈ news, u.oneCell' = true)
 (h63 : n + m ≤ maxLen) (hbytes : (n + m) * bytes ≤ 140737488355328) (hbase : base ≤ w.heap.size) :
 ∃ v' w', (Builtin.append_ #[t, t] ty #[.slice (some ⟨g, 0, none⟩) n cap, .slice (some a) m c]).run P w = .ok v' w' ∧ w'.ownsRow base e size v' (n + m) (xs ++ news) ∧ w.grownBy w' (some g) ∧
   v' ≠ .slice none 0 0 ∧ w'.ownsRow base e size (.slice (some ⟨g, 0, none⟩) n cap) n xs := by
 obtain ⟨v', w', hr, h2, h3, h4⟩ := run_append_own (P := P) w base t ty e i z size bytes ht hi hz hsize hby hzs hsz (.slice (some ⟨g, 0, none⟩) n cap) n xs hown a m c news hl hnews h1 h63 hbytes hbase
 have hne : v' ≠ .slice none 0 0 := fun h => by have := (h4.1 h).1; cases this
 refine ⟨v', w', hr, h2, h3, hne, ?_⟩
 subst hsize
 subst hby
 rcases hown.2 with ⟨h, _⟩ | ⟨g', cap', cur, h, hbg, hg, hnc, hcm, hcs, htake⟩
 · cases h
 cases h
 refine ⟨hown.1, .inr ?_⟩
 by_cases hroom : n + m ≤ cap
 · have hfit : n * i.size + news.length ≤ cur.size := by rw [hl, hcs, ← Nat.add_mul]; exact Nat.mul_le_mul_right _ hroom
   have hr2 := run_append_room (P := P) w t ty e i ht hi g n cap cur hg a m c news hl hnews h1 hroom hfit
   rw [hr2] at hr
   cases hr
   refine ⟨g, cap, _, rfl, hbg, setRow_heap w g cur _ e _ hg, hnc, hcm, ?_, ?_⟩
   · simp only [List.size_toArray, List.length_append, List.length_take, List.length_drop, Array.length_toList]
     omega
   rw [htake, List.append_assoc]
   rw [← hown.1]
   exact List.take_left
 have holds : ∀ j u, xs[j]? = some u → w.cell? ((⟨g, 0, none⟩ : Addr).add j) = some u := hown.cells (g := g) rfl
 have hr2 := run_append_grow (P := P) w t ty e i z ht hi hz ⟨g, 0, none⟩ n cap xs hown.1 holds a m c news hl hnews (by omega) (by simp only [maxLen] at h63; omega) (growslice_fits (by omega) hbytes)
 rw [hr2] at hr
 cases hr
 have hlt : g < w.heap.size := (Array.getElem?_eq_some_iff.1 hg).1
 refine ⟨g, cap, cur, rfl, hbg, ?_, hnc, hcm, hcs, htake⟩
 exact (Below.heap_alloc w.drew _ g hlt).trans hg
theorem row_news {w : World} {ad : Addr} {len cap : Nat} {ys : List Nat} (hr : Row w (some ad) len cap ys) : ∀ j u, (vals ys)[j]? = some u → w.cell? (ad.add j) = some u := by
 intro j u hj
 have hjl : j < ys.length := by
  have := (List.getElem?_eq_some_iff.1 hj).1
  rwa [length_vals] at this
 obtain ⟨a', ha', hs'⟩ := hr.1.source (by have := hr.1.length; omega)
 obtain rfl := Option.some.inj ha'
 exact hs' j u hj
theorem run_keep_any (w : World) (base n : Nat) (v : Value) (xs ys : List Nat) (ty : TypeId) (hown : w.ownsRow base 5 1 v n (vals xs)) (ad : Addr) (len cap' : Nat) (hr : Row w (some ad) len cap' ys) (hlen : 0 < len) (hn : n + len ≤ 140737488355328) (hbase : base ≤ w.heap.size) :
 ∃ g' cp w', (Builtin.append_ #[30, 30] ty #[v, .slice (some ad) len cap']).run Tryz.prog w = .ok (.slice (some ⟨g', 0, none⟩) (n + len) cp) w' ∧ w'.ownsRow base 5 1 (.slice (some ⟨g', 0, none⟩) (n + len) cp) (n + len) (vals (xs ++ ys)) ∧
   w'.ownsRow base 5 1 v n (vals xs) ∧ w.grownBy w' v.ownBlock := by
 obtain ⟨i0, hi, hz0, hz1, hz2⟩ := info_parts info5
 have hcount : (vals ys).length = len * 1 := by rw [length_vals, hr.1.length]; simp
 rcases hown.2 with ⟨rfl, rfl⟩ | ⟨g, cap, cur, rfl, _⟩
 · obtain ⟨v', w', hrun, h2, h3, h4⟩ := run_append_own (P := Tryz.prog) w base 30 ty 5 i0 (.int .u8 0) 1 1 Tryz.underlying30 hi hz0 hz1 hz2 rfl (by decide) (.slice none 0 0) 0 (vals xs) hown ad len cap' (vals ys) hcount (row_news hr) (vals_one ys) (by unfold maxLen; omega) (by omega) hbase
   rw [← vals_append] at h2
   rcases h2.2 with ⟨h', h0⟩ | ⟨g', cp, cur, rfl, _⟩
   · omega
   exact ⟨g', cp, w', hrun, h2, ⟨hown.1, .inl ⟨rfl, rfl⟩⟩, h3⟩
 obtain ⟨v', w', hrun, h2, h3, h4, h5⟩ := run_append_keep (P := Tryz.prog) w base 30 ty 5 i0 (.int .u8 0) 1 1 Tryz.underlying30 hi hz0 hz1 hz2 rfl (by decide) g cap n (vals xs) hown ad len cap' (vals ys) hcount (row_news hr) (vals_one ys) (by unfold maxLen; omega) (by omega) hbase
 rw [← vals_append] at h2
 rcases h2.2 with ⟨h', _⟩ | ⟨g', cp, cur, rfl, _⟩
 · exact absurd h' h4
 exact ⟨g', cp, w', hrun, h2, h5, h3⟩
theorem held_append {w : World} {ops : Array Oper} {o : Oper} {a : Act} {K : Act → World → Prop} {Q : Exit → Act → World → Prop} {Z : Prop} [Decidable (Region.wanted o (yielded ops a.tmps) = true)] (hw : Region.wanted o (yielded ops a.tmps) = true) (s x : Operand)
 (ho : o.op = .call { callee := .builtin .append, args := #[s, x], argTypes := #[30, 30] })
 (base n : Nat) (xs ys : List Nat) (v : Value) (hs : a.eval s = v) (hown : w.ownsRow base 5 1 v n (vals xs)) (hbase : base ≤ w.heap.size)
 (ad : Addr) (len cap' : Nat) (hx : a.eval x = .slice (some ad) len cap') (hr : Row w (some ad) len cap' ys) (hlen : 0 < len) (hn : n + len ≤ 140737488355328)
 (w0 : World) (hb0 : Below base w0 w)
 (h : ∀ g' cp w', w'.ownsRow base 5 1 (.slice (some ⟨g', 0, none⟩) (n + len) cp) (n + len) (vals (xs ++ ys)) → w'.ownsRow base 5 1 v n (vals xs) → Below base w0 w' → K (a.put o.dst (.slice (some ⟨g', 0, none⟩) (n + len) cp)) w') :
 if Region.wanted o (yielded ops a.tmps) = true then Oper.wp Tryz.prog o a w K Q else Z := by
 rw [if_pos hw]
 obtain ⟨g', cp, w', hrun, h2, h3, h4⟩ := run_keep_any w base n v xs ys o.type hown ad len cap' hr hlen hn hbase
 have hb : Below base w0 w' := hb0.grown h4 hbase (fun k hk => (hown.lt k hk).1)
 unfold Oper.wp execOp
 simp only [ho, resolve, invoke, builtin, Sem.run_bind, Sem.run_pure, Result.andThen_ok, List.map_toArray, List.map_cons, List.map_nil, hs, hx, hrun]
 exact h g' cp w' h2 h3 hb
end Go.Proofs.YtjmfdildnojknaaGreat
namespace Go.Proofs.YtjmfdildnojknaaGreat
open Go.RowKit
open Go.VarMath hiding AllB
def In64 (n : Int) : Prop := -9223372036854775808 ≤ n ∧ n ≤ 9223372036854775807
structure Nums (w : World) (ad : Option Addr) (len : Nat) (zs : List Int) : Prop where
 length : zs.length = len
 all : ∀ n ∈ zs, In64 n
 cells : len = 0 ∨ ∃ b off, ad = some ⟨b, off, none⟩ ∧ ∀ i, i < len → w.cell? ⟨b, off + i, none⟩ = some (.int .i64 (zs.getD i 0))
theorem IsRow.nums {w : World} {a : Option Addr} {len cap : Nat} {zs : List Int} (h : IsRow .i64 w a len cap zs) : Nums w a len (zs.take len) ∧ len ≤ cap := by
 rcases h with ⟨rfl, rfl, rfl, rfl⟩ | ⟨x, rfl, hl, hm, hz, hc, hw⟩
 · exact ⟨⟨rfl, (fun x hx => by cases hx), .inl rfl⟩, Nat.le_refl _⟩
 refine ⟨⟨by rw [List.length_take]; omega, ?_, ?_⟩, hl⟩
 · intro n hn
   have := bounds_i64 (hw n (List.mem_of_mem_take hn))
   exact ⟨by omega, by omega⟩
 by_cases h0 : len = 0
 · exact .inl h0
 obtain ⟨b, off, spot⟩ := x
 have h1 := hc 0 (by omega)
 have hs : spot = none := by simpa [Addr.add] using World.cell?_spot h1
 subst hs
 refine .inr ⟨b, off, rfl, fun i hi => ?_⟩
 have h2 := hc i (by omega)
 rw [add_at] at h2
 rw [h2]
 have e : (zs.take len).getD i 0 = zs.getD i 0 := by rw [List.getD_eq_getElem?_getD, List.getElem?_take, if_pos hi, ← List.getD_eq_getElem?_getD]
 rw [e]
theorem byt_upto {w : World} {ad : Option Addr} {len cap : Nat} {bs : List Nat} (h : Byt w ad len cap bs) (l : Nat) (hl : l ≤ len) : Byt w ad l cap (bs.take l) := by
 refine ⟨by rw [List.length_take, h.length]; omega, Nat.le_trans hl h.fits, take_all h.all l, ?_⟩
 rcases h.cells with h0 | ⟨b, off, e, hc⟩
 · exact .inl (by omega)
 refine .inr ⟨b, off, e, fun i hi => ?_⟩
 rw [hc i (by omega)]
 have : (bs.take l).getD i 0 = bs.getD i 0 := by rw [List.getD_eq_getElem?_getD, List.getElem?_take, if_pos hi, ← List.getD_eq_getElem?_getD]
 rw [this]
theorem byt_from {w : World} {b off len cap : Nat} {bs : List Nat} (h : Byt w (some ⟨b, off, none⟩) len cap bs) (l : Nat) (hl : l ≤ len) : Byt w (some ⟨b, if cap = l then off else off + l, none⟩) (len - l) (cap - l) (bs.drop l) := by
 refine ⟨by rw [List.length_drop, h.length], by have := h.fits; omega, fun x hx => h.all x (List.mem_of_mem_drop hx), ?_⟩
 by_cases hm : len - l = 0
 · exact .inl hm
 rcases h.cells with h0 | ⟨b', off', e, hc⟩
 · omega
 cases e
 have hf := h.fits
 refine .inr ⟨b, off + l, by rw [if_neg (by omega)], fun i hi => ?_⟩
 rw [Nat.add_assoc, hc (l + i) (by omega)]
 congr 3
 rw [List.getD_eq_getElem?_getD, List.getD_eq_getElem?_getD, List.getElem?_drop]
section
variable {w w' w1 w2 : World} {kt k : Nat}
theorem grow_refl (w : World) (r : Option Nat) : w.grownBy w r := ⟨rfl, rfl, rfl, Nat.le_refl _, fun _ _ _ => rfl⟩
theorem grow_trans {r : Option Nat} (h : w.grownBy w1 r) (h2 : w1.grownBy w2 r) : w.grownBy w2 r :=
 ⟨h2.os.trans h.os, h2.tape.trans h.tape, h2.output.trans h.output, Nat.le_trans h.size h2.size, fun k hk hn => (h2.block k (Nat.lt_of_lt_of_le hk h.size) hn).trans (h.block k hk hn)⟩
theorem grow_drewN {r : Option Nat} (h : w.grownBy w1 r) (n : Nat) : w.grownBy (w1.drewN n) r := grow_trans h ⟨rfl, rfl, rfl, Nat.le_refl _, fun _ _ _ => rfl⟩
theorem grow_alloc {r : Option Nat} (h : w.grownBy w1 r) (o : Obj) : w.grownBy (w1.alloc o) r := grow_trans h (World.grownBy_alloc w1 o r)
theorem grow_set (h : w.grownBy w1 (some kt)) (j : Nat) (u : Value) : w.grownBy (w1.setCell ⟨kt, j, none⟩ u) (some kt) :=
 grow_trans h ⟨rfl, rfl, rfl, by simp, fun k hk hn => by
  show (w1.heap.modify kt _)[k]? = _
  rw [Array.getElem?_modify, if_neg (fun e => hn (by rw [e]))]⟩
theorem grow_below {r : Option Nat} (h : w.grownBy w1 r) (hb : Below w1.heap.size w1 w2) : w.grownBy w2 r :=
 grow_trans h ⟨hb.os, hb.tape, hb.output, hb.size, fun k hk _ => hb.block k hk⟩
theorem grow_own {r : Option Nat} (h : w.grownBy w1 (some kt)) (h2 : w1.grownBy w2 r) (hr : ∀ k, r = some k → w.heap.size ≤ k) : w.grownBy w2 (some kt) :=
 ⟨h2.os.trans h.os, h2.tape.trans h.tape, h2.output.trans h.output, Nat.le_trans h.size h2.size, fun k hk hn => (h2.block k (Nat.lt_of_lt_of_le hk h.size) (fun e => by have := hr k e.symm; omega)).trans (h.block k hk hn)⟩
theorem grow_new {w w1 : World} {kt k j : Nat} (h : w.grownBy w1 (some kt)) (hk : w.heap.size ≤ k) (u : Value) : w.grownBy (w1.setCell ⟨k, j, none⟩ u) (some kt) :=
 ⟨h.os, h.tape, h.output, by simpa using h.size, fun i hi hn => by
  show (w1.heap.modify k _)[i]? = _
  rw [Array.getElem?_modify, if_neg (by omega)]
  exact h.block i hi hn⟩
theorem box_set {cs : Array Value} {t : TypeId} (h : w.heap[k]? = some (.cells cs t (0, 0))) (j : Nat) (u : Value) : (w.setCell ⟨k, j, none⟩ u).heap[k]? = some (.cells (cs.setIfInBounds j u) t (0, 0)) := by
 have hlt := lt_of_block h
 have h' : w.heap[k] = .cells cs t (0, 0) := by simpa [Array.getElem?_eq_getElem hlt] using h
 show (w.heap.modify k _)[k]? = _
 rw [Array.getElem?_eq_getElem (by simpa using hlt), Array.getElem_modify_self, h']
 rfl
theorem box_off {o : Obj} (h : w.heap[k]? = some o) {j i : Nat} (hj : j ≠ k) (u : Value) : (w.setCell ⟨j, i, none⟩ u).heap[k]? = some o := by
 rw [← h]
 show (w.heap.modify j _)[k]? = _
 rw [Array.getElem?_modify, if_neg hj]
end
theorem size_set (w : World) (a : Addr) (u : Value) : (w.setCell a u).heap.size = w.heap.size := by simp
theorem below_grown {W W' : World} {k B : Nat} (h : W.grownBy W' (some k)) (hk : B ≤ k) (hB : B ≤ W.heap.size) : Below B W W' :=
 ⟨h.os, h.tape, h.output, h.size, fun j hj => h.block j (Nat.lt_of_lt_of_le hj hB) (fun e => by cases e; omega)⟩
theorem results_cell_one {fn : Func} {p : Tmp} {ty : TypeId} (h : fn.results = #[.cell p ty]) (tmps : Array Value) (P : Program) (w : World) :
 (results fn tmps).run P w = ((asAddr (tmps.getD p undef)).run P w).andThen fun a w₁ => (loadVar ty a).run P w₁ := by
 simp only [results, h]
 simp [Sem.run_bind, Result.andThen]
end Go.Proofs.YtjmfdildnojknaaGreat
namespace Go.Proofs.YtjmfdildnojknaaGreat
open Go.RowKit
open Go.BatMath hiding AllB getD_lt take_all
open Go.VarMath (backB)
theorem u8_low (x : Nat) (h : x < 256) : bits .and .u8 (x : Int) 1 = ((x % 2 : Nat) : Int) := by
 have h1 : (BitVec.ofInt 8 1).toNat = 2 ^ 1 - 1 := by decide
 have key : (BitVec.ofInt 8 (x : Int) &&& BitVec.ofInt 8 1).toNat = ((x : Int) % ((2 ^ 8 : Nat) : Int)).toNat % 2 ^ 1 := by
  rw [BitVec.toNat_and, BitVec.toNat_ofInt, h1, Nat.and_two_pow_sub_one_eq_mod]
 show IntKind.u8.wrap ((BitVec.ofInt 8 (x : Int) &&& BitVec.ofInt 8 1).toNat : Nat) = _
 rw [key, IntKind.wrap_u8]
 omega
theorem bits_join (k a b : Nat) (ha : a % 2 ^ k = 0) (hb : b < 2 ^ k) : a ||| b = a + b := by
 obtain ⟨c, rfl⟩ : ∃ c, a = 2 ^ k * c := ⟨a / 2 ^ k, by have := Nat.div_add_mod a (2 ^ k); omega⟩
 exact (Nat.two_pow_add_eq_or_of_lt hb c).symm
theorem i64_or (k a b : Nat) (ha : a % 2 ^ k = 0) (hb : b < 2 ^ k) (h : a + b < 9223372036854775808) : bits .or .i64 (a : Int) (b : Int) = ((a + b : Nat) : Int) := by
 have h1 : (BitVec.ofInt 64 (a : Int)).toNat = a := by rw [BitVec.toNat_ofInt]; omega
 have h2 : (BitVec.ofInt 64 (b : Int)).toNat = b := by rw [BitVec.toNat_ofInt]; omega
 show IntKind.i64.wrap ((BitVec.ofInt 64 (a : Int) ||| BitVec.ofInt 64 (b : Int)).toNat : Nat) = _
 rw [BitVec.toNat_or, h1, h2, bits_join k a b ha hb, IntKind.wrap_i64]
 omega
section
variable {w : World} {k : Nat} {b0 b1 b2 b3 : Int} {b4 : Bool} {b5 : Int} {v : Value}
theorem BoxAt.s0 (h : BoxAt w k b0 b1 b2 b3 b4 b5 v) (n : Int) : BoxAt (w.setCell ⟨k, 0, none⟩ (.int .i64 n)) k n b1 b2 b3 b4 b5 v := box_set h 0 _
theorem BoxAt.s1 (h : BoxAt w k b0 b1 b2 b3 b4 b5 v) (n : Int) : BoxAt (w.setCell ⟨k, 1, none⟩ (.int .i64 n)) k b0 n b2 b3 b4 b5 v := box_set h 1 _
theorem BoxAt.s2 (h : BoxAt w k b0 b1 b2 b3 b4 b5 v) (n : Int) : BoxAt (w.setCell ⟨k, 2, none⟩ (.int .i64 n)) k b0 b1 n b3 b4 b5 v := box_set h 2 _
theorem BoxAt.s3 (h : BoxAt w k b0 b1 b2 b3 b4 b5 v) (n : Int) : BoxAt (w.setCell ⟨k, 3, none⟩ (.int .i64 n)) k b0 b1 b2 n b4 b5 v := box_set h 3 _
theorem BoxAt.s4 (h : BoxAt w k b0 b1 b2 b3 b4 b5 v) (n : Bool) : BoxAt (w.setCell ⟨k, 4, none⟩ (.bool n)) k b0 b1 b2 b3 n b5 v := box_set h 4 _
theorem BoxAt.s5 (h : BoxAt w k b0 b1 b2 b3 b4 b5 v) (n : Int) : BoxAt (w.setCell ⟨k, 5, none⟩ (.int .i64 n)) k b0 b1 b2 b3 b4 n v := box_set h 5 _
theorem BoxAt.s6 (h : BoxAt w k b0 b1 b2 b3 b4 b5 v) (u : Value) : BoxAt (w.setCell ⟨k, 6, none⟩ u) k b0 b1 b2 b3 b4 b5 u := box_set h 6 _
theorem BoxAt.off (h : BoxAt w k b0 b1 b2 b3 b4 b5 v) {j i : Nat} (hj : j ≠ k) (u : Value) : BoxAt (w.setCell ⟨j, i, none⟩ u) k b0 b1 b2 b3 b4 b5 v := box_off h hj u
end
theorem from_lit {w : World} {b off len cap : Nat} {bs : List Nat} (h : Byt w (some ⟨b, off, none⟩) len cap bs) (k : Nat) (z : Int) (hz : z = (k : Int)) (hk : k ≤ len) :
 ∃ o c, (∀ W, (Instr.slice 30 (.slice (some ⟨b, off, none⟩) len cap) (some (.int .i64 z)) none none).run Tryz.prog W = .ok (.slice (some ⟨b, o, none⟩) (len - k) c) W) ∧ Byt w (some ⟨b, o, none⟩) (len - k) c (bs.drop k) := by
 subst hz
 exact ⟨_, _, fun W => run_from b off len cap k hk W, byt_from h k hk⟩
theorem part_lit {w : World} {b off len cap : Nat} {bs : List Nat} (h : Byt w (some ⟨b, off, none⟩) len cap bs) (k m : Nat) (z y : Int) (hz : z = (k : Int)) (hy : y = (k : Int) + (m : Int)) (hk : k + m ≤ len) :
 ∃ o c, (∀ W, (Instr.slice 30 (.slice (some ⟨b, off, none⟩) len cap) (some (.int .i64 z)) (some (.int .i64 y)) none).run Tryz.prog W = .ok (.slice (some ⟨b, o, none⟩) m c) W) ∧ Byt w (some ⟨b, o, none⟩) m c ((bs.drop k).take m) := by
 subst hz hy
 exact cut_run h k m hk
theorem Byt.get {w : World} {ad : Option Addr} {len cap : Nat} {bs : List Nat} (h : Byt w ad len cap bs) (hp : 0 < len) : ∃ b off, ad = some ⟨b, off, none⟩ ∧ ∀ i, i < len → w.cell? ⟨b, off + i, none⟩ = some (.int .u8 (bs.getD i 0 : Nat)) := by
 rcases h.cells with h0 | h1
 · omega
 exact h1
end Go.Proofs.YtjmfdildnojknaaGreat
namespace Go.Proofs.YtjmfdildnojknaaGreat
open Go Go.RowKit
open Go.BatMath hiding AllB getD_lt take_all
theorem bxq {w W : World} {K : Nat} {b0 b1 b2 b3 : Int} {b4 : Bool} {b5 : Int} {v : Value} (e : W = w.alloc (.cells #[.int .i64 b0, .int .i64 b1, .int .i64 b2, .int .i64 b3, .bool b4, .int .i64 b5, v] 29)) (k : K = w.heap.size) : Hid (BoxAt W K b0 b1 b2 b3 b4 b5 v) := by
  show BoxAt _ _ _ _ _ _ _ _ _
  rw [e, k]
  exact boxAt_new w _ _ _ _ _ _ _
theorem bx0 {w W : World} {b0 b1 b2 b3 : Int} {b4 : Bool} {b5 : Int} {v : Value} (e : W = w.alloc (.cells #[.int .i64 b0, .int .i64 b1, .int .i64 b2, .int .i64 b3, .bool b4, .int .i64 b5, v] 29)) : Hid (BoxAt W w.heap.size b0 b1 b2 b3 b4 b5 v) := bxq e rfl
section
variable {w : World} {k : Nat} {b0 b1 b2 b3 : Int} {b4 : Bool} {b5 : Int} {v : Value}
theorem BoxAt.cs (h : BoxAt w k b0 b1 b2 b3 b4 b5 v) : w.cell? ⟨k, 0, none⟩ = some (.int .i64 b0) ∧ w.cell? ⟨k, 1, none⟩ = some (.int .i64 b1) ∧ w.cell? ⟨k, 2, none⟩ = some (.int .i64 b2) ∧ w.cell? ⟨k, 3, none⟩ = some (.int .i64 b3) ∧ w.cell? ⟨k, 4, none⟩ = some (.bool b4) ∧ w.cell? ⟨k, 5, none⟩ = some (.int .i64 b5) ∧ w.cell? ⟨k, 6, none⟩ = some v := ⟨h.c0, h.c1, h.c2, h.c3, h.c4, h.c5, h.c6⟩
theorem BoxAt.fs (h : BoxAt w k b0 b1 b2 b3 b4 b5 v) : w.frozen? ⟨k, 0, none⟩ = false ∧ w.frozen? ⟨k, 1, none⟩ = false ∧ w.frozen? ⟨k, 2, none⟩ = false ∧ w.frozen? ⟨k, 3, none⟩ = false ∧ w.frozen? ⟨k, 4, none⟩ = false ∧ w.frozen? ⟨k, 5, none⟩ = false ∧ w.frozen? ⟨k, 6, none⟩ = false := ⟨h.free 0, h.free 1, h.free 2, h.free 3, h.free 4, h.free 5, h.free 6⟩
end
end Go.Proofs.YtjmfdildnojknaaGreat
namespace Go.ProdMath
open Go.SeqMath
open Go.BatMath
structure Tr where
 f : Int
 l : Int
 b : Int
structure Pd where
 id : Int
 epoch : Int
 last : List Tr
 opn : Int
def Pd.zero : Pd := ⟨0, 0, [], 0⟩
structure Dr where
 prod : Int
 first : Int
 last : Int
def Dr.zero : Dr := ⟨0, 0, 0⟩
def hitB (x : Tr) (s : Int) (n : Nat) : Bool := decide (x.f = s) && decide (x.l = lastI s n)
def dupL (l : List Tr) (s : Int) (n : Nat) : Option Int := (l.find? fun x => hitB x s n).map (·.b)
theorem dup_none (s : Int) (n : Nat) : dupL [] s n = none := rfl
theorem dup_hit {x : Tr} {l : List Tr} {s : Int} {n : Nat} (h : hitB x s n = true) : dupL (x :: l) s n = some x.b := by simp [dupL, h]
theorem dup_miss {x : Tr} {l : List Tr} {s : Int} {n : Nat} (h : hitB x s n = false) : dupL (x :: l) s n = dupL l s n := by simp [dupL, h]
def lastSeq (l : List Tr) : Int := match l.getLast? with | some x => x.l | none => 0
def checkD (p : Pd) (known : Bool) (b : Bat) : Int × Int :=
 if b.marker ≠ 0 then
  if known = false then (-1, 16) else if b.epoch < p.epoch then (-1, 14) else if p.opn < 0 then (-1, 16) else (-1, 0)
 else if known = false then (-1, 0)
 else if b.epoch < p.epoch then (-1, 14)
 else if p.epoch < b.epoch then
  if 0 ≤ p.opn then (-1, 16) else if b.seq ≠ 0 then (-1, 15) else (-1, 0)
 else match dupL p.last b.seq b.recs.length with
  | some n => (n, 0)
  | none =>
    if p.last ≠ [] ∧ followsB (lastSeq p.last) b.seq = false then (-1, 15)
    else if 0 ≤ p.opn ∧ b.txn = false then (-1, 16) else (-1, 0)
def oldLast (p : Pd) (known : Bool) (b : Bat) : List Tr := if known = true ∧ p.epoch = b.epoch then p.last else []
def oldOpen (p : Pd) (known : Bool) : Int := if known = true then p.opn else -1
def newLast (l : List Tr) (x : Tr) : List Tr := (l ++ [x]).drop (l.length + 1 - 5)
def applyD (p : Pd) (known : Bool) (b : Bat) : Pd :=
 if b.marker ≠ 0 then ⟨b.prod, b.epoch, oldLast p known b, -1⟩
 else ⟨b.prod, b.epoch, newLast (oldLast p known b) ⟨b.seq, lastI b.seq b.recs.length, b.base⟩, if b.txn = true ∧ oldOpen p known < 0 then b.base else oldOpen p known⟩
def atD : List Pd → Int → Nat
 | [], _ => 0
 | p :: l, id => if p.id < id then atD l id + 1 else 0
theorem atD_le : ∀ (l : List Pd) (id : Int), atD l id ≤ l.length
 | [], _ => Nat.le_refl _
 | p :: l, id => by
   unfold atD
   split
   · have := atD_le l id; simp; omega
   exact Nat.zero_le _
theorem atD_step : ∀ (l : List Pd) (id : Int) (i : Nat) (p : Pd), i ≤ atD l id → l[i]? = some p → (p.id < id ↔ i + 1 ≤ atD l id)
 | q :: l, id, 0, p, _, h => by
   cases h
   unfold atD
   split <;> simp_all
 | q :: l, id, i + 1, p, hi, h => by
   unfold atD at hi ⊢
   split at hi
   · rename_i hq
     rw [if_pos hq]
     have := atD_step l id i p (by omega) h
     omega
   omega
 | [], id, i, p, _, h => by cases h
def hasD (l : List Pd) (id : Int) : Bool := match l[atD l id]? with | some p => decide (p.id = id) | none => false
def getD (l : List Pd) (id : Int) : Pd := if hasD l id = true then (match l[atD l id]? with | some p => p | none => Pd.zero) else Pd.zero
noncomputable def tcheckD (l : List Pd) (b : Bat) : Int × Int :=
 if rightE b ≠ 0 then (-1, rightE b) else if b.prod < 0 then (-1, 0) else checkD (getD l b.prod) (hasD l b.prod) b
noncomputable def tapplyD (l : List Pd) (b : Bat) : List Pd :=
 if rightE b ≠ 0 ∨ b.prod < 0 then l
 else if hasD l b.prod = true then l.set (atD l b.prod) (applyD (getD l b.prod) true b)
 else l.take (atD l b.prod) ++ applyD Pd.zero false b :: l.drop (atD l b.prod)
def dropsB (l : List Pd) (b : Bat) : Bool := hasD l b.prod && (decide (b.marker = 2) && decide (0 ≤ (getD l b.prod).opn))
noncomputable def tdropD (l : List Pd) (b : Bat) : Option Dr :=
 if rightE b ≠ 0 ∨ b.prod < 0 then none
 else if dropsB l b = true then some ⟨b.prod, (getD l b.prod).opn, b.base⟩ else none
noncomputable def foldP : List Pd → List Bat → List Pd
 | l, [] => l
 | l, b :: bs => foldP (tapplyD l b) bs
noncomputable def foldR : List Pd → List Bat → List Dr
 | _, [] => []
 | l, b :: bs => (tdropD l b).toList ++ foldR (tapplyD l b) bs
theorem foldP_snoc : ∀ (l : List Pd) (bs : List Bat) (b : Bat), foldP l (bs ++ [b]) = tapplyD (foldP l bs) b
 | l, [], b => rfl
 | l, a :: bs, b => foldP_snoc (tapplyD l a) bs b
theorem foldR_snoc : ∀ (l : List Pd) (bs : List Bat) (b : Bat), foldR l (bs ++ [b]) = foldR l bs ++ (tdropD (foldP l bs) b).toList
 | l, [], b => by simp [foldR, foldP]
 | l, a :: bs, b => by
   show (tdropD l a).toList ++ foldR (tapplyD l a) (bs ++ [b]) = _
   rw [foldR_snoc (tapplyD l a) bs b, ← List.append_assoc]; rfl
def countD (b : Bat) : Int := if b.marker ≠ 0 then 1 else (b.recs.length : Int)
def endD (start : Int) (l : List Bat) : Int := match l.getLast? with | some b => b.base + countD b | none => start
noncomputable def bytesD : List Bat → Int
 | [] => 0
 | b :: l => sizeB b + bytesD l
def fewP (l : List Pd) : Prop := ∀ p ∈ l, p.last.length ≤ 5
theorem newLast_few (l : List Tr) (x : Tr) : (newLast l x).length ≤ 5 := by unfold newLast; rw [List.length_drop, List.length_append]; simp; omega
theorem get_few {l : List Pd} (h : fewP l) (id : Int) : (getD l id).last.length ≤ 5 := by
 unfold getD
 split
 · split
   · rename_i p hp; exact h p (List.mem_of_getElem? hp)
   exact Nat.zero_le _
 exact Nat.zero_le _
theorem apply_few {p : Pd} (h : p.last.length ≤ 5) (k : Bool) (b : Bat) : (applyD p k b).last.length ≤ 5 := by
 unfold applyD
 split
 · unfold oldLast; split
   · exact h
   exact Nat.zero_le _
 exact newLast_few _ _
theorem tapply_few {l : List Pd} (h : fewP l) (b : Bat) : fewP (tapplyD l b) := by
 unfold tapplyD
 split
 · exact h
 split
 · intro p hp
   rcases List.mem_or_eq_of_mem_set hp with h1 | h1
   · exact h p h1
   rw [h1]; exact apply_few (get_few h _) _ _
 intro p hp
 rcases List.mem_append.1 hp with h1 | h1
 · exact h p (List.mem_of_mem_take h1)
 rcases List.mem_cons.1 h1 with h1 | h1
 · rw [h1]; exact apply_few (Nat.zero_le _) _ _
 exact h p (List.mem_of_mem_drop h1)
theorem foldP_few : ∀ {l : List Pd} (bs : List Bat), fewP l → fewP (foldP l bs)
 | l, [], h => h
 | l, b :: bs, h => foldP_few bs (tapply_few h b)
theorem tapply_len (l : List Pd) (b : Bat) : (tapplyD l b).length ≤ l.length + 1 := by
 unfold tapplyD
 split
 · omega
 split
 · simp
 simp; have := atD_le l b.prod; omega
theorem foldP_len : ∀ (l : List Pd) (bs : List Bat), (foldP l bs).length ≤ l.length + bs.length
 | l, [] => by simp [foldP]
 | l, b :: bs => by
   have h1 := foldP_len (tapplyD l b) bs
   have h2 := tapply_len l b
   show (foldP (tapplyD l b) bs).length ≤ _
   simp; omega
def RowOk (bs : List Bat) : Prop := ∀ b ∈ bs, rightE b = 0 ∧ b.wf
theorem size_bd (b : Bat) : 0 ≤ sizeB b ∧ sizeB b ≤ 2404 := by
 unfold sizeB
 split
 · rename_i h
   have := ok_len (ok_of h)
   omega
 omega
theorem bytesD_snoc : ∀ (l : List Bat) (b : Bat), bytesD (l ++ [b]) = bytesD l + sizeB b
 | [], b => by simp [bytesD]
 | a :: l, b => by
   have := bytesD_snoc l b
   show sizeB a + bytesD (l ++ [b]) = sizeB a + bytesD l + sizeB b
   omega
theorem bytesD_bd : ∀ (l : List Bat), 0 ≤ bytesD l ∧ bytesD l ≤ 2404 * (l.length : Int)
 | [] => by simp [bytesD]
 | a :: l => by
   have h1 := bytesD_bd l
   have h2 := size_bd a
   show 0 ≤ sizeB a + bytesD l ∧ sizeB a + bytesD l ≤ _
   rw [List.length_cons]
   omega
noncomputable def putD (cap start : Int) (bs : List Bat) (b : Bat) : (Int × Int) × List Bat :=
 if (tcheckD (foldP [] bs) b).2 ≠ 0 then ((-1, (tcheckD (foldP [] bs) b).2), bs)
 else if 0 ≤ (tcheckD (foldP [] bs) b).1 then (((tcheckD (foldP [] bs) b).1, 0), bs)
 else if cap < bytesD bs + sizeB b then ((-1, 17), bs)
 else if 1099511627776 < endD start bs + countD b then ((-1, 18), bs)
 else ((b.base, 0), bs ++ [b])
noncomputable def produceD (cap start : Int) (bs : List Bat) (b : Bat) : (Int × Int) × List Bat :=
 if rightE (b.at (endD start bs)) ≠ 0 then ((-1, rightE (b.at (endD start bs))), bs)
 else if b.marker ≠ 0 then ((-1, 16), bs)
 else putD cap start bs (b.at (endD start bs))
noncomputable def markD (cap start : Int) (bs : List Bat) (p e m : Int) : (Int × Int) × List Bat :=
 if m = 0 then ((-1, 12), bs) else putD cap start bs ⟨endD start bs, p, e, -1, true, m, []⟩
theorem tcheck_right {l : List Pd} {b : Bat} (h : (tcheckD l b).2 = 0) : rightE b = 0 := by
 unfold tcheckD at h
 split at h
 · simp only at h; assumption
 rename_i h1; exact Classical.byContradiction fun h2 => h1 h2
theorem end_last {start : Int} {bs : List Bat} {b : Bat} (h : bs.getLast? = some b) : endD start bs = b.base + countD b := by unfold endD; rw [h]
def Asc (l : List Pd) : Prop := l.Pairwise fun a b => a.id < b.id
def lookD (l : List Pd) (k : Int) : Option Pd := l.find? fun p => decide (p.id = k)
def insD : List Pd → Pd → List Pd
 | [], x => [x]
 | p :: l, x => if p.id < x.id then p :: insD l x else if p.id = x.id then x :: l else x :: p :: l
theorem look_cons (p : Pd) (l : List Pd) (k : Int) : lookD (p :: l) k = if p.id = k then some p else lookD l k := by
 unfold lookD
 rw [List.find?_cons]
 by_cases h : p.id = k
 · rw [if_pos h, decide_eq_true h]
 rw [if_neg h, decide_eq_false h]
theorem look_above {l : List Pd} {k : Int} (h : ∀ p ∈ l, k < p.id) : lookD l k = none := by
 unfold lookD
 rw [List.find?_eq_none]
 intro p hp
 have := h p hp
 simp; omega
theorem look_id {l : List Pd} {k : Int} {p : Pd} (h : lookD l k = some p) : p.id = k ∧ p ∈ l := by
 unfold lookD at h
 exact ⟨by simpa using List.find?_some h, List.mem_of_find?_eq_some h⟩
theorem asc_tail {p : Pd} {l : List Pd} (h : Asc (p :: l)) : Asc l := (List.pairwise_cons.1 h).2
theorem asc_head {p : Pd} {l : List Pd} (h : Asc (p :: l)) : ∀ q ∈ l, p.id < q.id := (List.pairwise_cons.1 h).1
theorem has_look : ∀ {l : List Pd} (h : Asc l) (k : Int), hasD l k = (lookD l k).isSome ∧ getD l k = (lookD l k).getD Pd.zero
 | [], _, k => ⟨rfl, rfl⟩
 | p :: l, h, k => by
   have ih := has_look (asc_tail h) k
   rw [look_cons]
   by_cases h1 : p.id < k
   · rw [if_neg (by omega)]
     have e1 : hasD (p :: l) k = hasD l k := by
      unfold hasD
      rw [show atD (p :: l) k = atD l k + 1 from by rw [atD, if_pos h1]]
      rfl
     have e2 : getD (p :: l) k = getD l k := by
      unfold getD
      rw [e1, show atD (p :: l) k = atD l k + 1 from by rw [atD, if_pos h1]]
      rfl
     rw [e1, e2]
     exact ih
   have e0 : atD (p :: l) k = 0 := by rw [atD, if_neg h1]
   by_cases h2 : p.id = k
   · rw [if_pos h2]
     have e1 : hasD (p :: l) k = true := by
      unfold hasD
      rw [e0]
      show decide (p.id = k) = true
      exact decide_eq_true h2
     refine ⟨by rw [e1]; rfl, ?_⟩
     unfold getD
     rw [e1, e0]; rfl
   rw [if_neg h2]
   have e1 : hasD (p :: l) k = false := by
    unfold hasD
    rw [e0]
    show decide (p.id = k) = false
    exact decide_eq_false h2
   have e3 : lookD l k = none := look_above fun q hq => by have := asc_head h q hq; omega
   rw [e3]
   refine ⟨e1, ?_⟩
   unfold getD
   rw [e1]; rfl
theorem ins_ids : ∀ (l : List Pd) (x : Pd) (q : Pd), q ∈ insD l x → q = x ∨ q ∈ l
 | [], x, q, h => .inl (by simpa [insD] using h)
 | p :: l, x, q, h => by
   unfold insD at h
   split at h
   · rcases List.mem_cons.1 h with h | h
     · exact .inr (by simp [h])
     rcases ins_ids l x q h with h | h
     · exact .inl h
     exact .inr (by simp [h])
   split at h
   · rcases List.mem_cons.1 h with h | h
     · exact .inl h
     exact .inr (by simp [h])
   rcases List.mem_cons.1 h with h | h
   · exact .inl h
   exact .inr h
theorem ins_asc : ∀ {l : List Pd} (x : Pd), Asc l → Asc (insD l x)
 | [], x, _ => List.pairwise_singleton _ _
 | p :: l, x, h => by
   unfold insD
   split
   · rename_i h1
     refine List.pairwise_cons.2 ⟨fun q hq => ?_, ins_asc x (asc_tail h)⟩
     rcases ins_ids l x q hq with e | e
     · rw [e]; exact h1
     exact asc_head h q e
   rename_i h1
   split
   · rename_i h2
     exact List.pairwise_cons.2 ⟨fun q hq => by have := asc_head h q hq; omega, asc_tail h⟩
   rename_i h2
   refine List.pairwise_cons.2 ⟨fun q hq => ?_, h⟩
   rcases List.mem_cons.1 hq with e | e
   · rw [e]; omega
   have := asc_head h q e; omega
theorem look_ins : ∀ {l : List Pd} (x : Pd) (k : Int), Asc l → lookD (insD l x) k = if x.id = k then some x else lookD l k
 | [], x, k, _ => by show lookD [x] k = _; rw [look_cons]
 | p :: l, x, k, h => by
   unfold insD
   split
   · rename_i h1
     rw [look_cons, look_ins x k (asc_tail h), look_cons]
     by_cases h2 : p.id = k
     · rw [if_pos h2, if_neg (by omega), if_pos h2]
     rw [if_neg h2, if_neg h2]
   rename_i h1
   split
   · rename_i h2
     rw [look_cons, look_cons]
     by_cases h3 : x.id = k
     · rw [if_pos h3, if_pos h3]
     rw [if_neg h3, if_neg h3, if_neg (by omega)]
   rw [look_cons]
theorem apply_id (p : Pd) (k : Bool) (b : Bat) : (applyD p k b).id = b.prod := by
 unfold applyD
 split <;> rfl
theorem tapply_ins : ∀ {l : List Pd} (h : Asc l) (b : Bat), rightE b = 0 → 0 ≤ b.prod → tapplyD l b = insD l (applyD ((lookD l b.prod).getD Pd.zero) (lookD l b.prod).isSome b) := by
 intro l h b h0 h1
 have hl := has_look h b.prod
 unfold tapplyD
 rw [if_neg (by omega)]
 have key : ∀ (l : List Pd) (x : Pd), x.id = b.prod → Asc l → (if hasD l b.prod = true then l.set (atD l b.prod) x else l.take (atD l b.prod) ++ x :: l.drop (atD l b.prod)) = insD l x := by
  intro l
  induction l with
  | nil => intro x hx _; rfl
  | cons p l ih =>
    intro x hx ha
    have hi := ih x hx (asc_tail ha)
    have hh := has_look ha b.prod
    have hh2 := has_look (asc_tail ha) b.prod
    by_cases h2 : p.id < b.prod
    · rw [show atD (p :: l) b.prod = atD l b.prod + 1 from by rw [atD, if_pos h2]]
      have e1 : hasD (p :: l) b.prod = hasD l b.prod := by rw [hh.1, hh2.1, look_cons, if_neg (by omega)]
      have e2 : insD (p :: l) x = p :: insD l x := by rw [insD, if_pos (show p.id < x.id by omega)]
      rw [e1, e2, ← hi]
      cases hasD l b.prod
      · rfl
      rfl
    rw [show atD (p :: l) b.prod = 0 from by rw [atD, if_neg h2]]
    by_cases h3 : p.id = b.prod
    · have e1 : hasD (p :: l) b.prod = true := by rw [hh.1, look_cons, if_pos h3]; rfl
      have e2 : insD (p :: l) x = x :: l := by rw [insD, if_neg (show ¬ p.id < x.id by omega), if_pos (show p.id = x.id by omega)]
      rw [e1, e2]; rfl
    have e1 : hasD (p :: l) b.prod = false := by
     rw [hh.1, look_cons, if_neg h3, look_above fun q hq => by have := asc_head ha q hq; omega]; rfl
    have e2 : insD (p :: l) x = x :: p :: l := by rw [insD, if_neg (show ¬ p.id < x.id by omega), if_neg (show ¬ p.id = x.id by omega)]
    rw [e1, e2]; rfl
 have k1 := key l (applyD ((lookD l b.prod).getD Pd.zero) (lookD l b.prod).isSome b) (apply_id _ _ _) h
 rw [← k1]
 split
 · rename_i hs
   rw [hl.2]
   rw [hl.1] at hs
   rw [hs]
 rename_i hs
 rw [hl.1] at hs
 have hn : lookD l b.prod = none := by cases hq : lookD l b.prod <;> simp_all
 rw [hn]; rfl
theorem tapply_no {l : List Pd} {b : Bat} (h : rightE b ≠ 0 ∨ b.prod < 0) : tapplyD l b = l := by unfold tapplyD; rw [if_pos h]
theorem tapply_asc {l : List Pd} (h : Asc l) (b : Bat) : Asc (tapplyD l b) := by
 by_cases h0 : rightE b ≠ 0 ∨ b.prod < 0
 · rw [tapply_no h0]; exact h
 rw [tapply_ins h b (Classical.byContradiction fun h1 => h0 (.inl h1)) (by omega)]
 exact ins_asc _ h
theorem fold_asc : ∀ {l : List Pd} (bs : List Bat), Asc l → Asc (foldP l bs)
 | l, [], h => h
 | l, b :: bs, h => fold_asc bs (tapply_asc h b)
noncomputable def stepD (s : Option Pd) (b : Bat) : Option Pd := some (applyD (s.getD Pd.zero) s.isSome b)
theorem look_tapply {l : List Pd} (h : Asc l) (b : Bat) (k : Int) : lookD (tapplyD l b) k = if rightE b = 0 ∧ 0 ≤ b.prod ∧ b.prod = k then stepD (lookD l k) b else lookD l k := by
 by_cases h0 : rightE b ≠ 0 ∨ b.prod < 0
 · rw [tapply_no h0, if_neg (fun h1 => by rcases h0 with h2 | h2; exact h2 h1.1; have := h1.2.1; omega)]
 have h1 : rightE b = 0 := Classical.byContradiction fun h1 => h0 (.inl h1)
 have h2 : 0 ≤ b.prod := by omega
 rw [tapply_ins h b h1 h2, look_ins _ _ h, apply_id]
 by_cases h3 : b.prod = k
 · rw [if_pos h3, if_pos ⟨h1, h2, h3⟩, h3]; rfl
 rw [if_neg h3, if_neg (fun h4 => h3 h4.2.2)]
noncomputable def stateD (k : Int) : Option Pd → List Bat → Option Pd
 | s, [] => s
 | s, b :: bs => stateD k (if rightE b = 0 ∧ 0 ≤ b.prod ∧ b.prod = k then stepD s b else s) bs
theorem look_fold (k : Int) : ∀ {l : List Pd} (bs : List Bat), Asc l → lookD (foldP l bs) k = stateD k (lookD l k) bs
 | l, [], h => rfl
 | l, b :: bs, h => by
   show lookD (foldP (tapplyD l b) bs) k = stateD k _ bs
   rw [look_fold k bs (tapply_asc h b), look_tapply h b k]
def IsLeast (l : List Pd) (v : Int) : Prop := (v = -1 ∧ ∀ p ∈ l, p.opn < 0) ∨ (0 ≤ v ∧ (∃ p ∈ l, p.opn = v) ∧ ∀ p ∈ l, 0 ≤ p.opn → v ≤ p.opn)
theorem least_one {l : List Pd} {v u : Int} (h : IsLeast l v) (h2 : IsLeast l u) : v = u := by
 rcases h with ⟨e, h⟩ | ⟨h0, ⟨p, hp, hv⟩, hm⟩ <;> rcases h2 with ⟨e2, h2⟩ | ⟨g0, ⟨q, hq, hu⟩, gm⟩
 · omega
 · have := h q hq; omega
 · have := h2 p hp; omega
 have h3 := hm q hq (by omega)
 have h4 := gm p hp (by omega)
 omega
def endsB (k : Int) (l : List Bat) : Bool := l.any fun c => decide (c.marker ≠ 0) && decide (c.prod = k)
def opensB (b : Bat) (l : List Bat) : Bool := b.txn && (decide (b.marker = 0) && !endsB b.prod l)
def firstOpen : List Bat → Int
 | [] => -1
 | b :: l => if opensB b l = true then b.base else firstOpen l
def pOpen (k : Int) : List Bat → Int
 | [] => -1
 | b :: l => if b.prod = k ∧ opensB b l = true then b.base else pOpen k l
def opnS (s : Option Pd) : Int := match s with | some p => p.opn | none => -1
theorem ends_cons (k : Int) (b : Bat) (l : List Bat) : endsB k (b :: l) = ((decide (b.marker ≠ 0) && decide (b.prod = k)) || endsB k l) := rfl
theorem opn_step (s : Option Pd) (b : Bat) : opnS (stepD s b) = if b.marker ≠ 0 then -1 else if b.txn = true ∧ opnS s < 0 then b.base else opnS s := by
 unfold stepD opnS applyD oldOpen
 cases s with
 | none =>
   by_cases h : b.marker ≠ 0
   · simp [h]
   simp [h]
 | some p =>
   by_cases h : b.marker ≠ 0
   · simp [h]
   simp [h]
theorem state_opn (k : Int) (hk : 0 ≤ k) : ∀ (s : Option Pd) (bs : List Bat), -1 ≤ opnS s → (∀ b ∈ bs, rightE b = 0 ∧ 0 ≤ b.base) → opnS (stateD k s bs) = if endsB k bs = false ∧ 0 ≤ opnS s then opnS s else pOpen k bs
 | s, [], hs, _ => by
   show opnS s = if endsB k [] = false ∧ 0 ≤ opnS s then opnS s else -1
   split
   · rfl
   rename_i h
   by_cases h2 : 0 ≤ opnS s
   · exact absurd ⟨rfl, h2⟩ h
   omega
 | s, b :: bs, hs0, h => by
   have hb := h b (by simp)
   have ih := fun s hs => state_opn k hk s bs hs fun c hc => h c (by simp [hc])
   rw [ends_cons]
   by_cases hp : b.prod = k
   rotate_left
   · have e1 : stateD k s (b :: bs) = stateD k s bs := by
      show stateD k (if rightE b = 0 ∧ 0 ≤ b.prod ∧ b.prod = k then stepD s b else s) bs = _
      rw [if_neg (fun h => hp h.2.2)]
     have e2 : pOpen k (b :: bs) = pOpen k bs := by
      show (if b.prod = k ∧ opensB b bs = true then b.base else pOpen k bs) = _
      rw [if_neg (fun h => hp h.1)]
     rw [e1, e2, decide_eq_false hp, Bool.and_false, Bool.false_or]
     exact ih s hs0
   have e1 : stateD k s (b :: bs) = stateD k (stepD s b) bs := by
    show stateD k (if rightE b = 0 ∧ 0 ≤ b.prod ∧ b.prod = k then stepD s b else s) bs = _
    rw [if_pos ⟨hb.1, by omega, hp⟩]
   have e2 : pOpen k (b :: bs) = if opensB b bs = true then b.base else pOpen k bs := by
    show (if b.prod = k ∧ opensB b bs = true then b.base else pOpen k bs) = _
    simp [hp]
   have hs := opn_step s b
   have hs1 : -1 ≤ opnS (stepD s b) := by
    rw [hs]
    split
    · omega
    split
    · have := hb.2; omega
    exact hs0
   have i1 := ih (stepD s b) hs1
   have hb0 := hb.2
   rw [e1, e2, i1]
   by_cases hm : b.marker = 0
   rotate_left
   · have e3 : opensB b bs = false := by unfold opensB; simp [hm]
     have e4 : (decide (b.marker ≠ 0) && decide (b.prod = k) || endsB k bs) = true := by simp [hm, hp]
     rw [if_pos hm] at hs
     rw [e3, e4, hs]
     rw [if_neg (by omega), if_neg (fun h => by cases h.1), if_neg (by decide)]
   have e3 : opensB b bs = (b.txn && !endsB k bs) := by unfold opensB; rw [hp]; simp [hm]
   rw [if_neg (by simp [hm])] at hs
   have e4 : (decide (b.marker ≠ 0) && decide (b.prod = k) || endsB k bs) = endsB k bs := by simp [hm]
   rw [e3, e4]
   cases he : endsB k bs
   rotate_left
   · cases ht : b.txn <;> simp
   cases ht : b.txn
   · rw [ht, if_neg (by simp)] at hs
     rw [hs]; rfl
   rw [ht] at hs
   by_cases h0 : opnS s < 0
   · rw [if_pos ⟨rfl, h0⟩] at hs
     rw [hs, if_pos ⟨rfl, hb0⟩, if_neg (by omega)]; rfl
   rw [if_neg (fun h => h0 h.2)] at hs
   rw [hs]
   rw [if_pos ⟨rfl, by omega⟩, if_pos ⟨rfl, by omega⟩]
theorem state_none (k : Int) (hk : k < 0) : ∀ (bs : List Bat), stateD k none bs = none
 | [] => rfl
 | b :: bs => by
   show stateD k (if rightE b = 0 ∧ 0 ≤ b.prod ∧ b.prod = k then stepD none b else none) bs = none
   rw [if_neg (by omega)]
   exact state_none k hk bs
theorem pOpen_bd (k : Int) : ∀ (bs : List Bat), (∀ b ∈ bs, 0 ≤ b.base) → pOpen k bs = -1 ∨ ∃ b ∈ bs, pOpen k bs = b.base
 | [], _ => .inl rfl
 | b :: bs, h => by
   unfold pOpen
   split
   · exact .inr ⟨b, by simp, rfl⟩
   rcases pOpen_bd k bs fun c hc => h c (by simp [hc]) with e | ⟨c, hc, e⟩
   · exact .inl e
   exact .inr ⟨c, by simp [hc], e⟩
theorem first_least : ∀ (bs : List Bat), (bs.Pairwise fun a b => a.base < b.base) → (∀ b ∈ bs, 0 ≤ b.base) → (∀ b ∈ bs, b.txn = true → 0 ≤ b.prod) →
 (firstOpen bs = -1 ∧ ∀ k, pOpen k bs = -1) ∨ (0 ≤ firstOpen bs ∧ (∃ k, 0 ≤ k ∧ pOpen k bs = firstOpen bs) ∧ ∀ k, 0 ≤ pOpen k bs → firstOpen bs ≤ pOpen k bs)
 | [], _, _, _ => .inl ⟨rfl, fun k => rfl⟩
 | b :: bs, hp, h0, ht => by
   have h1 := List.pairwise_cons.1 hp
   by_cases ho : opensB b bs = true
   · have e : firstOpen (b :: bs) = b.base := by unfold firstOpen; rw [if_pos ho]
     have hb := h0 b (by simp)
     have htx : b.txn = true := by unfold opensB at ho; simp at ho; exact ho.1
     refine .inr ⟨by rw [e]; exact hb, ⟨b.prod, ht b (by simp) htx, ?_⟩, fun k hk => ?_⟩
     · rw [e]; unfold pOpen; rw [if_pos ⟨rfl, ho⟩]
     rw [e]
     unfold pOpen at hk ⊢
     split
     · omega
     rename_i h2
     rw [if_neg h2] at hk
     rcases pOpen_bd k bs fun c hc => h0 c (by simp [hc]) with e2 | ⟨c, hc, e2⟩
     · omega
     have := h1.1 c hc; omega
   have e : firstOpen (b :: bs) = firstOpen bs := by
    show (if opensB b bs = true then b.base else firstOpen bs) = _
    rw [if_neg ho]
   have e2 : ∀ k, pOpen k (b :: bs) = pOpen k bs := fun k => by
    show (if b.prod = k ∧ opensB b bs = true then b.base else pOpen k bs) = _
    rw [if_neg (fun h => ho h.2)]
   rw [e]
   simp only [e2]
   exact first_least bs h1.2 (fun c hc => h0 c (by simp [hc])) (fun c hc => ht c (by simp [hc]))
theorem asc_nil : Asc [] := List.Pairwise.nil
theorem fold_state (bs : List Bat) (k : Int) : lookD (foldP [] bs) k = stateD k none bs := look_fold k bs asc_nil
theorem look_mem {l : List Pd} (h : Asc l) {p : Pd} (hp : p ∈ l) : lookD l p.id = some p := by
 induction l with
 | nil => cases hp
 | cons q l ih =>
   rw [look_cons]
   rcases List.mem_cons.1 hp with e | e
   · rw [e, if_pos rfl]
   have := asc_head h p e
   rw [if_neg (by omega)]
   exact ih (asc_tail h) e
theorem fold_least (bs : List Bat) (hr : ∀ b ∈ bs, rightE b = 0) (hp : bs.Pairwise fun a b => a.base < b.base) (h0 : ∀ b ∈ bs, 0 ≤ b.base) (ht : ∀ b ∈ bs, b.txn = true → 0 ≤ b.prod) : IsLeast (foldP [] bs) (firstOpen bs) := by
 have hasc := fold_asc bs asc_nil
 have hst : ∀ p ∈ foldP [] bs, 0 ≤ p.id ∧ p.opn = pOpen p.id bs := by
  intro p hp
  have h1 := look_mem hasc hp
  rw [fold_state] at h1
  by_cases hk : 0 ≤ p.id
  · refine ⟨hk, ?_⟩
    have h2 := state_opn p.id hk none bs (by decide) (fun b hb => ⟨hr b hb, h0 b hb⟩)
    rw [h1, if_neg (fun h => by have := h.2; revert this; decide)] at h2
    exact h2
  rw [state_none _ (by omega)] at h1; cases h1
 rcases first_least bs hp h0 ht with ⟨e, h⟩ | ⟨hv, ⟨k, hk, hke⟩, hm⟩
 · exact .inl ⟨e, fun p hp => by rw [(hst p hp).2, h]; decide⟩
 refine .inr ⟨hv, ?_, fun p hp hp0 => ?_⟩
 · have h2 := state_opn k hk none bs (by decide) (fun b hb => ⟨hr b hb, h0 b hb⟩)
   rw [if_neg (fun h => by have := h.2; revert this; decide)] at h2
   cases hs : stateD k none bs with
   | none =>
     rw [hs] at h2
     have h3 : pOpen k bs = -1 := h2.symm
     omega
   | some p =>
     rw [hs] at h2
     have h3 : p.opn = pOpen k bs := h2
     have h4 := fold_state bs k
     rw [hs] at h4
     exact ⟨p, (look_id h4).2, by omega⟩
 rw [(hst p hp).2] at hp0 ⊢
 exact hm _ hp0
theorem right_count {b : Bat} (h : rightE b = 0) : 1 ≤ countD b := by
 unfold countD
 split
 · omega
 rename_i hm
 unfold rightE at h
 split at h
 · omega
 split at h
 · rename_i h2
   have := List.length_pos_iff.2 h2.2
   omega
 omega
theorem right_txn {b : Bat} (h : rightE b = 0) (ht : b.txn = true) : 0 ≤ b.prod := by
 unfold rightE at h
 split at h
 · omega
 split at h
 · split at h
   · rename_i h2; exact (head_of h2.2.1).1
   omega
 split at h
 · rename_i h2
   rcases h2.1 with h3 | h3
   · have := (none_of h3).2.2.2
     rw [ht] at this; cases this
   exact (head_of h3.1).1
 omega
end Go.ProdMath
namespace Go.FoMath
open Go.ProdMath
open Go.BatMath
structure Gt where
 off : Int
 prod : Int
 rc : Rc
def recsG (p : Int) : Int → List Rc → List Gt
 | _, [] => []
 | n, r :: l => ⟨n, p, r⟩ :: recsG p (n + 1) l
def batG (b : Bat) (a z : Int) : List Gt := if b.marker = 0 then (recsG b.prod b.base b.recs).filter (fun g => decide (a ≤ g.off ∧ g.off < z)) else []
def recordsD : List Bat → Int → Int → List Gt
 | [], _, _ => []
 | b :: l, a, z => batG b a z ++ recordsD l a z
def stableD (start : Int) (bs : List Bat) : Int := if firstOpen bs = -1 then endD start bs else firstOpen bs
theorem recsG_mem {p : Int} : ∀ {l : List Rc} {n : Int} {g : Gt}, g ∈ recsG p n l → n ≤ g.off ∧ g.off < n + (l.length : Int)
 | [], n, g, h => by cases h
 | r :: l, n, g, h => by
   rcases List.mem_cons.1 h with rfl | h
   · simp only [List.length_cons]; omega
   have := recsG_mem h
   simp only [List.length_cons]
   omega
theorem batG_mem {b : Bat} {a z : Int} {g : Gt} (h : g ∈ batG b a z) : b.marker = 0 ∧ b.base ≤ g.off ∧ g.off < b.base + countD b ∧ a ≤ g.off ∧ g.off < z := by
 unfold batG at h
 split at h
 · rename_i hm
   obtain ⟨h1, h2⟩ := List.mem_filter.1 h
   have h3 := recsG_mem h1
   have h4 := of_decide_eq_true h2
   have hc : countD b = (b.recs.length : Int) := by unfold countD; rw [if_neg (by omega)]
   rw [hc]
   exact ⟨hm, h3.1, h3.2, h4⟩
 cases h
def Chain (E : Int) : List Bat → Prop
 | [] => True
 | b :: l => 1 ≤ countD b ∧ 0 ≤ b.base ∧ b.base + countD b ≤ E ∧ (∀ c ∈ l, b.base + countD b ≤ c.base) ∧ Chain E l
theorem Chain.base {E : Int} : ∀ {l : List Bat}, Chain E l → ∀ b ∈ l, 0 ≤ b.base ∧ 1 ≤ countD b ∧ b.base + countD b ≤ E
 | [], _, b, hb => by cases hb
 | c :: l, h, b, hb => by
   obtain ⟨h1, h2, h3, h4, h5⟩ := h
   rcases List.mem_cons.1 hb with rfl | hb
   · exact ⟨h2, h1, h3⟩
   exact h5.base b hb
theorem chain_app {E E' : Int} : ∀ {l m : List Bat}, Chain E l → Chain E' m → E ≤ E' → (∀ c ∈ m, E ≤ c.base) → Chain E' (l ++ m)
 | [], m, _, h2, _, _ => h2
 | b :: l, m, h, h2, he, hm => by
   obtain ⟨h1, h0, h3, h4, h5⟩ := h
   refine ⟨h1, h0, by omega, fun c hc => ?_, chain_app h5 h2 he hm⟩
   rcases List.mem_append.1 hc with hc | hc
   · exact h4 c hc
   have := hm c hc; omega
theorem recordsD_mem {a z : Int} {g : Gt} : ∀ {l : List Bat}, g ∈ recordsD l a z → a ≤ g.off ∧ g.off < z ∧ ∃ b ∈ l, g ∈ batG b a z
 | [], h => by cases h
 | b :: l, h => by
   rcases List.mem_append.1 h with h | h
   · have := batG_mem h
     exact ⟨this.2.2.2.1, this.2.2.2.2, b, by simp, h⟩
   obtain ⟨h1, h2, c, hc, h3⟩ := recordsD_mem h
   exact ⟨h1, h2, c, by simp [hc], h3⟩
def nextD (l : List Gt) (n : Nat) (top o : Int) : Int := match l[n - 1]? with
 | some g => g.off + 1
 | none => max top o
theorem next_some {l : List Gt} {n : Nat} {top o : Int} {g : Gt} (h : l[n - 1]? = some g) : nextD l n top o = g.off + 1 := by unfold nextD; rw [h]
theorem next_none {l : List Gt} {n : Nat} {top o : Int} (h : l.length < n) : nextD l n top o = max top o := by
 unfold nextD
 rw [List.getElem?_eq_none (by omega)]
end Go.FoMath
namespace Go.Proofs.YtjmfdildnojknaaGreat
open Go.RowKit Go.OpenShut
structure Kind (α : Type) where
 enc : α → List Value
 size : Nat
 ty : TypeId
 sl : TypeId
structure Kind.Ok {α : Type} (K : Kind α) (bytes : Nat) : Prop where
 und : Tryz.prog.underlying K.sl = some (.slice K.ty)
 info : ∃ i z, Tryz.prog.info? K.ty = some i ∧ i.zero = some z ∧ i.size = K.size ∧ i.bytes = bytes ∧ z.cells.size = K.size
 len : ∀ x, (K.enc x).length = K.size
 pos : 0 < K.size
 one : ∀ x, ∀ u ∈ K.enc x, u.oneCell' = true
 few : bytes ≤ 1000
variable {α : Type} {K : Kind α} {bytes : Nat} {w w' : World}
def Kind.all (K : Kind α) (l : List α) : List Value := l.flatMap K.enc
theorem Kind.Ok.all_len (hK : K.Ok bytes) : ∀ l : List α, (K.all l).length = l.length * K.size
 | [] => by simp [Kind.all]
 | x :: l => by
   have := Kind.Ok.all_len hK l
   unfold Kind.all at *
   rw [List.flatMap_cons, List.length_append, this, hK.len, List.length_cons, Nat.succ_mul, Nat.add_comm]
theorem Kind.all_app (K : Kind α) (a b : List α) : K.all (a ++ b) = K.all a ++ K.all b := by simp [Kind.all]
theorem Kind.Ok.all_one (hK : K.Ok bytes) (l : List α) : ∀ u ∈ K.all l, u.oneCell' = true := by
 intro u hu
 obtain ⟨x, _, hx⟩ := List.mem_flatMap.1 hu
 exact hK.one x u hx
theorem Kind.Ok.all_at (hK : K.Ok bytes) : ∀ (l : List α) (i : Nat) (x : α), l[i]? = some x → ∀ j, j < K.size → (K.all l)[i * K.size + j]? = (K.enc x)[j]?
 | [], i, x, h, j, hj => by cases h
 | y :: l, 0, x, h, j, hj => by
   cases h
   show ((y :: l).flatMap K.enc)[0 * K.size + j]? = _
   rw [List.flatMap_cons, Nat.zero_mul, Nat.zero_add, List.getElem?_append_left (by rw [hK.len]; exact hj)]
 | y :: l, i + 1, x, h, j, hj => by
   have ih := Kind.Ok.all_at hK l i x h j hj
   show ((y :: l).flatMap K.enc)[(i + 1) * K.size + j]? = _
   rw [List.flatMap_cons, List.getElem?_append_right (by rw [hK.len, Nat.succ_mul]; omega), hK.len, show (i + 1) * K.size + j - K.size = i * K.size + j by rw [Nat.succ_mul]; omega]
   exact ih
structure RowAt (K : Kind α) (w : World) (ad : Option Addr) (len cap : Nat) (l : List α) : Prop where
 length : l.length = len
 fits : len ≤ cap
 room : ad = none → cap = 0
 cells : len = 0 ∨ ∃ b off, ad = some ⟨b, off, none⟩ ∧ b < w.heap.size ∧ ∀ i x, l[i]? = some x → ∀ j u, (K.enc x)[j]? = some u → w.cell? ⟨b, off + (i * K.size + j), none⟩ = some u
theorem RowAt.keep {ad : Option Addr} {len cap : Nat} {l : List α} (h : RowAt K w ad len cap l) (hb : Below w.heap.size w w') : RowAt K w' ad len cap l := by
 refine ⟨h.length, h.fits, h.room, ?_⟩
 rcases h.cells with h0 | ⟨b, off, e, hlt, hc⟩
 · exact .inl h0
 refine .inr ⟨b, off, e, Nat.lt_of_lt_of_le hlt hb.size, fun i x hi j u hj => ?_⟩
 rw [hb.cell (p := ⟨b, off + (i * K.size + j), none⟩) hlt]
 exact hc i x hi j u hj
theorem RowAt.grown {ad : Option Addr} {len cap : Nat} {l : List α} {r : Option Nat} (h : RowAt K w ad len cap l) (hg : w.grownBy w' r) (hr : ∀ a, ad = some a → some a.block ≠ r) : RowAt K w' ad len cap l := by
 refine ⟨h.length, h.fits, h.room, ?_⟩
 rcases h.cells with h0 | ⟨b, off, e, hlt, hc⟩
 · exact .inl h0
 exact .inr ⟨b, off, e, Nat.lt_of_lt_of_le hlt hg.size, fun i x hi j u hj => hg.cell (hc i x hi j u hj) (show some b ≠ r from hr _ e)⟩
theorem rowAt_nil (w : World) : RowAt K w none 0 0 ([] : List α) := ⟨rfl, Nat.le_refl _, fun _ => rfl, .inl rfl⟩
theorem RowAt.get {ad : Option Addr} {len cap : Nat} {l : List α} (h : RowAt K w ad len cap l) {i : Nat} (hi : i < len) :
 ∃ b off x, ad = some ⟨b, off, none⟩ ∧ b < w.heap.size ∧ l[i]? = some x ∧ ∀ j u, (K.enc x)[j]? = some u → w.cell? ⟨b, off + (i * K.size + j), none⟩ = some u := by
 have hl := h.length
 rcases h.cells with h0 | ⟨b, off, e, hlt, hc⟩
 · omega
 have hx : l[i]? = some (l[i]'(by omega)) := List.getElem?_eq_getElem (by omega)
 exact ⟨b, off, _, e, hlt, hx, hc i _ hx⟩
theorem RowAt.news (hK : K.Ok bytes) {b off len cap : Nat} {l : List α} (h : RowAt K w (some ⟨b, off, none⟩) len cap l) : ∀ j u, (K.all l)[j]? = some u → w.cell? ((⟨b, off, none⟩ : Addr).add j) = some u := by
 intro j u hj
 have hjl : j < l.length * K.size := by
  have := (List.getElem?_eq_some_iff.1 hj).1
  rwa [hK.all_len] at this
 have hp := hK.pos
 have hil : j / K.size < l.length := Nat.div_lt_of_lt_mul (by rwa [Nat.mul_comm])
 have hx : l[j / K.size]? = some (l[j / K.size]'hil) := List.getElem?_eq_getElem hil
 have hm := Nat.mod_lt j hp
 have he : j / K.size * K.size + j % K.size = j := by rw [Nat.mul_comm]; exact Nat.div_add_mod j K.size
 have h1 := hK.all_at l _ _ hx _ hm
 rw [he] at h1
 rw [add_at]
 rcases h.cells with h0 | ⟨b', off', e, _, hc⟩
 · have hl0 : l.length = 0 := by have := h.length; omega
   exact absurd hil (by rw [hl0]; exact Nat.not_lt_zero _)
 cases e
 have h2 := hc _ _ hx _ u (by rw [← h1]; exact hj)
 rwa [he] at h2
def OwnRow (K : Kind α) (w : World) (base : Nat) (v : Value) (l : List α) : Prop := w.ownsRow base K.ty K.size v l.length (K.all l)
theorem ownRow_nil (K : Kind α) (w : World) (base : Nat) : OwnRow K w base (.slice none 0 0) [] := World.ownsRow_nil w base K.ty K.size
theorem OwnRow.low {base base' : Nat} {v : Value} {l : List α} (h : OwnRow K w base v l) (hb : base' ≤ base) : OwnRow K w base' v l := by
 refine ⟨h.1, ?_⟩
 rcases h.2 with h0 | ⟨g, cap, cur, h1, h2, h3⟩
 · exact .inl h0
 exact .inr ⟨g, cap, cur, h1, Nat.le_trans hb h2, h3⟩
theorem OwnRow.on {base : Nat} {v : Value} {l : List α} (h : OwnRow K w base v l) (hb : Below w.heap.size w w') : OwnRow K w' base v l := owns_keep h hb (Nat.le_refl _)
theorem OwnRow.alloc {base : Nat} {v : Value} {l : List α} (h : OwnRow K w base v l) (o : Obj) : OwnRow K (w.alloc o) base v l := World.ownsRow.alloc h o
theorem OwnRow.lt {base : Nat} {v : Value} {l : List α} (h : OwnRow K w base v l) : ∀ k, v.ownBlock = some k → base ≤ k ∧ k < w.heap.size := World.ownsRow.lt h
theorem OwnRow.grown {base : Nat} {v : Value} {l : List α} {r : Option Nat} (h : OwnRow K w base v l) (hg : w.grownBy w' r) (hr : ∀ k, v.ownBlock = some k → some k ≠ r) : OwnRow K w' base v l := by
 refine World.ownsRow.kept h hg ?_
 cases hv : v.ownBlock with
 | none => exact .inl rfl
 | some k => exact .inr (hr k hv)
theorem OwnRow.at (hK : K.Ok bytes) {base : Nat} {v : Value} {l : List α} (h : OwnRow K w base v l) : ∃ ad cap, v = .slice ad l.length cap ∧ RowAt K w ad l.length cap l ∧ (∀ a, ad = some a → base ≤ a.block ∧ a.block < w.heap.size) := by
 rcases h.2 with ⟨rfl, h0⟩ | ⟨g, cap, cur, rfl, hb, hh, hc, _, hs, ht⟩
 · refine ⟨none, 0, by rw [h0], ?_, fun a ha => by cases ha⟩
   obtain rfl := List.eq_nil_of_length_eq_zero h0
   exact rowAt_nil w
 refine ⟨_, cap, rfl, ⟨rfl, hc, (fun e => by cases e), .inr ⟨g, 0, rfl, (Array.getElem?_eq_some_iff.1 hh).1, fun i x hi j u hj => ?_⟩⟩, fun a ha => by cases ha; exact ⟨hb, (Array.getElem?_eq_some_iff.1 hh).1⟩⟩
 have hjs : j < K.size := by have := (List.getElem?_eq_some_iff.1 hj).1; rwa [hK.len] at this
 have h1 := hK.all_at l i x hi j hjs
 rw [hj, ← ht, List.getElem?_take] at h1
 rw [Nat.zero_add, cell_of_row w g _ _ _ _ hh]
 split at h1
 · simpa using h1
 cases h1
theorem ownRow_lit (hK : K.Ok bytes) (w : World) (base : Nat) (l : List α) (hb : base ≤ w.heap.size) (hm : l.length ≤ 1000000) (cs : Array Value) (hcs : cs = (K.all l).toArray) (n : Nat) (hn : l.length = n) : OwnRow K (w.alloc (.cells cs K.ty)) base (.slice (some ⟨w.heap.size, 0, none⟩) n n) l := by
 subst hcs hn
 have := World.ownsRow_lit (e := K.ty) (size := K.size) (base := base) w (K.all l).toArray l.length hb (by unfold maxLen; omega) (by rw [List.size_toArray, hK.all_len])
 unfold OwnRow
 simpa using this
theorem rowAt_lit (hK : K.Ok bytes) (w : World) (l : List α) (hm : l.length ≤ 1000000) (cs : Array Value) (hcs : cs = (K.all l).toArray) (n : Nat) (hn : l.length = n) : RowAt K (w.alloc (.cells cs K.ty)) (some ⟨w.heap.size, 0, none⟩) n n l := by
 obtain ⟨ad, cap, e, h, _⟩ := (ownRow_lit hK w 0 l (Nat.zero_le _) hm cs hcs n hn).at hK
 cases e
 exact h
theorem append_block (hK : K.Ok bytes) (w w' : World) (base : Nat) (v v' : Value) (l m : List α) (ty : Nat) (hown : OwnRow K w base v l) (a : Addr) (cap : Nat) (hnews : ∀ j u, (K.all m)[j]? = some u → w.cell? (a.add j) = some u) (hn : (l.length + m.length) * bytes ≤ 140737488355328) (hn2 : l.length + m.length ≤ 140737488355328)
 (hrun : (Builtin.append_ #[K.sl, K.sl] ty #[v, .slice (some a) m.length cap]).run Tryz.prog w = .ok v' w') : ∀ k, v'.ownBlock = some k → v.ownBlock = some k ∨ k = w.heap.size := by
 obtain ⟨i, z, hi, hz, hs, hby, hzs⟩ := hK.info
 have hu := hK.und
 have hml := hK.all_len m
 rw [← hs] at hml
 intro k hk
 rcases hown.2 with ⟨rfl, h0⟩ | ⟨g, cp, cur, rfl, hbg, hg, hnc, hcm, hcs, htake⟩
 · by_cases hm : m.length = 0
   · have : m = [] := List.eq_nil_of_length_eq_zero hm
     subst this
     have hrun2 : (Builtin.append_ #[K.sl, K.sl] ty #[.slice none 0 0, .slice (some a) 0 cap]).run Tryz.prog w = .ok (.slice none 0 0) w := by
      simp [Builtin.append_, run_underlying hu, sizeOf, typeInfo, hi, Builtin.lenOf, Builtin.firstCells, loadCells, loadCellsFrom]
     rw [List.length_nil, hrun2] at hrun
     injection hrun with e1 e2
     subst e1
     cases hk
   rw [run_append_nil (P := Tryz.prog) w K.sl ty K.ty i z hu hi hz a m.length cap (K.all m) hml hnews (by omega) (by omega) (by rw [hby]; have : m.length * bytes ≤ (l.length + m.length) * bytes := Nat.mul_le_mul_right _ (by omega); omega)] at hrun
   injection hrun with e1 e2
   subst e1
   cases hk
   exact .inr rfl
 by_cases hroom : l.length + m.length ≤ cp
 · rw [run_append_room (P := Tryz.prog) w K.sl ty K.ty i hu hi g l.length cp cur hg a m.length cap (K.all m) hml hnews (hK.all_one m) hroom (by rw [hml, hcs, ← hs, ← Nat.add_mul]; exact Nat.mul_le_mul_right _ hroom)] at hrun
   injection hrun with e1 e2
   subst e1
   exact .inl hk
 have hlo : (K.all l).length = l.length * i.size := by rw [hs]; exact hK.all_len l
 rw [run_append_grow (P := Tryz.prog) w K.sl ty K.ty i z hu hi hz ⟨g, 0, none⟩ l.length cp (K.all l) hlo (World.ownsRow.cells hown (g := g) rfl) a m.length cap (K.all m) hml hnews (by omega) (by omega) (growslice_fits (by omega) (by rw [hby]; exact hn))] at hrun
 injection hrun with e1 e2
 subst e1
 cases hk
 exact .inr rfl
theorem run_row_append (hK : K.Ok bytes) (w : World) (base : Nat) (v : Value) (l m : List α) (ty : Nat) (hown : OwnRow K w base v l) (ad : Option Addr) (n cap : Nat) (hr : RowAt K w ad n cap m) (hn : (l.length + n) * bytes ≤ 140737488355328) (hn2 : l.length + n ≤ 140737488355328) (hbase : base ≤ w.heap.size) :
 ∃ v' w', (Builtin.append_ #[K.sl, K.sl] ty #[v, .slice ad n cap]).run Tryz.prog w = .ok v' w' ∧ OwnRow K w' base v' (l ++ m) ∧ w.grownBy w' v.ownBlock ∧ (v ≠ .slice none 0 0 → v' ≠ .slice none 0 0) ∧ (∀ k, v'.ownBlock = some k → v.ownBlock = some k ∨ w.heap.size ≤ k) := by
 obtain ⟨i, z, hi, hz, hs, hby, hzs⟩ := hK.info
 obtain rfl := hr.length
 have hu := hK.und
 rcases ad with _ | ⟨b, off, x⟩
 · have hc := hr.room rfl
   have hf := hr.fits
   obtain rfl : m = [] := List.eq_nil_of_length_eq_zero (by omega)
   subst hc
   refine ⟨v, w, ?_, by rw [List.append_nil]; exact hown, ⟨rfl, rfl, rfl, Nat.le_refl _, fun _ _ _ => rfl⟩, fun h => h, fun k hk => .inl hk⟩
   exact run_append_owned_none (P := Tryz.prog) (w := w) base K.sl ty K.ty i K.size hu hi v _ _ hown
 have hx : x = none ∨ m.length = 0 := by
  rcases hr.cells with h0 | ⟨_, _, e, _⟩
  · exact .inr h0
  cases e; exact .inl rfl
 have hnews : ∀ j u, (K.all m)[j]? = some u → w.cell? ((⟨b, off, x⟩ : Addr).add j) = some u := by
  intro j u hj
  rcases hx with rfl | h0
  · exact hr.news hK j u hj
  obtain rfl := List.eq_nil_of_length_eq_zero h0
  simp [Kind.all] at hj
 obtain ⟨v', w', hrun, h2, h3, h4⟩ := run_append_own (P := Tryz.prog) w base K.sl ty K.ty i z K.size bytes hu hi hz hs hby hzs hK.pos v l.length (K.all l) hown ⟨b, off, x⟩ m.length cap (K.all m) (hK.all_len m) hnews (hK.all_one m) (by unfold maxLen; omega) hn hbase
 refine ⟨v', w', hrun, ?_, h3, fun hne h => hne (h4.1 h).1, ?_⟩
 · unfold OwnRow
   rw [K.all_app, List.length_append]
   exact h2
 intro k hk
 rcases append_block hK w w' base v v' l m ty hown _ cap hnews hn hn2 hrun k hk with h | h
 · exact .inl h
 exact .inr (by omega)
def Appended (K : Kind α) (w : World) (base : Nat) (v : Value) (l : List α) (v' : Value) (w' : World) : Prop :=
 OwnRow K w' base v' l ∧ w.grownBy w' v.ownBlock ∧ (v ≠ .slice none 0 0 → v' ≠ .slice none 0 0) ∧ (∀ k, v'.ownBlock = some k → v.ownBlock = some k ∨ w.heap.size ≤ k)
theorem list_row {w : World} {ops : Array Oper} {rest : List Oper} {o : Oper} {a : Act} {Q : Exit → Act → World → Prop} (hw : Region.wanted o (yielded ops a.tmps) = true) (hK : K.Ok bytes) (s x : Operand)
 (ho : o.op = .call { callee := .builtin .append, args := #[s, x], argTypes := #[K.sl, K.sl] })
 (base : Nat) (l m : List α) (v : Value) (hs : a.eval s = v) (hown : OwnRow K w base v l) (hbase : base ≤ w.heap.size)
 (ad : Option Addr) (n cap : Nat) (hx : a.eval x = .slice ad n cap) (hr : RowAt K w ad n cap m) (hn : l.length + n ≤ 100000000000)
 (h : ∀ v' w', Appended K w base v (l ++ m) v' w' → wpList Tryz.prog ops Q rest (a.put o.dst v') w') :
 wpList Tryz.prog ops Q (o :: rest) a w := by
 refine BigFrame.wpList_want hw fun C hC => ?_
 have hf := hK.few
 obtain ⟨v', w', hrun, h2⟩ := run_row_append hK w base v l m o.type hown ad n cap hr (Nat.le_trans (Nat.mul_le_mul hn hf) (by omega)) (by omega) hbase
 unfold Oper.wp execOp
 simp only [ho, resolve, invoke, builtin, Sem.run_bind, Sem.run_pure, Result.andThen_ok, List.map_toArray, List.map_cons, List.map_nil, hs, hx, hrun]
 exact hC _ _ (h v' w' h2)
theorem held_row {w : World} {ops : Array Oper} {o : Oper} {a : Act} {C : Act → World → Prop} {Q : Exit → Act → World → Prop} {Z : Prop} [Decidable (Region.wanted o (yielded ops a.tmps) = true)] (hw : Region.wanted o (yielded ops a.tmps) = true) (hK : K.Ok bytes) (s x : Operand)
 (ho : o.op = .call { callee := .builtin .append, args := #[s, x], argTypes := #[K.sl, K.sl] })
 (base : Nat) (l m : List α) (v : Value) (hs : a.eval s = v) (hown : OwnRow K w base v l) (hbase : base ≤ w.heap.size)
 (ad : Option Addr) (n cap : Nat) (hx : a.eval x = .slice ad n cap) (hr : RowAt K w ad n cap m) (hn : l.length + n ≤ 100000000000)
 (h : ∀ v' w', Appended K w base v (l ++ m) v' w' → C (a.put o.dst v') w') :
 if Region.wanted o (yielded ops a.tmps) = true then Oper.wp Tryz.prog o a w C Q else Z := by
 rw [if_pos hw]
 have hf := hK.few
 obtain ⟨v', w', hrun, h2⟩ := run_row_append hK w base v l m o.type hown ad n cap hr (Nat.le_trans (Nat.mul_le_mul hn hf) (by omega)) (by omega) hbase
 unfold Oper.wp execOp
 simp only [ho, resolve, invoke, builtin, Sem.run_bind, Sem.run_pure, Result.andThen_ok, List.map_toArray, List.map_cons, List.map_nil, hs, hx, hrun]
 exact h v' w' h2
end Go.Proofs.YtjmfdildnojknaaGreat
namespace Go.Proofs.YtjmfdildnojknaaGreat
open Go.RowKit
open Go.BatMath hiding AllB getD_lt take_all
def recVals (l : List Rc) : List Value := l.flatMap fun r => [.string r.key, .string r.val]
theorem recVals_len : ∀ l : List Rc, (recVals l).length = l.length * 2
 | [] => rfl
 | r :: l => by rw [recVals, List.flatMap_cons, List.length_append]; have := recVals_len l; unfold recVals at this; rw [this]; simp; omega
theorem recVals_app (a b : List Rc) : recVals (a ++ b) = recVals a ++ recVals b := by simp [recVals]
theorem recVals_at : ∀ (l : List Rc) (i : Nat) (r : Rc), l[i]? = some r → (recVals l)[i * 2]? = some (.string r.key) ∧ (recVals l)[i * 2 + 1]? = some (.string r.val)
 | [], i, r, h => by cases h
 | x :: l, 0, r, h => by
   cases h
   exact ⟨rfl, rfl⟩
 | x :: l, i + 1, r, h => by
   have ih := recVals_at l i r h
   have e : recVals (x :: l) = .string x.key :: .string x.val :: recVals l := rfl
   rw [e, show (i + 1) * 2 = i * 2 + 1 + 1 by omega]
   exact ih
theorem recVals_one (l : List Rc) : ∀ u ∈ recVals l, u.oneCell' = true := by
 intro u hu
 obtain ⟨r, _, h⟩ := List.mem_flatMap.1 hu
 rcases List.mem_cons.1 h with rfl | h
 · rfl
 rcases List.mem_cons.1 h with rfl | h
 · rfl
 cases h
def OwnRecs (w : World) (base : Nat) (v : Value) (l : List Rc) : Prop := w.ownsRow base 84 2 v l.length (recVals l)
theorem ownRecs_nil (w : World) (base : Nat) : OwnRecs w base (.slice none 0 0) [] := World.ownsRow_nil w base 84 2
theorem OwnRecs.on {w w' : World} {base : Nat} {v : Value} {l : List Rc} (h : OwnRecs w base v l) (hb : Below w.heap.size w w') : OwnRecs w' base v l := by
 refine ⟨h.1, ?_⟩
 rcases h.2 with hn | ⟨g, cap, cur, rfl, hbg, hh, r⟩
 · exact .inl hn
 exact .inr ⟨g, cap, cur, rfl, hbg, (hb.block g (lt_of_block hh)).trans hh, r⟩
theorem OwnRecs.set {w : World} {base k j : Nat} {u v : Value} {l : List Rc} (h : OwnRecs w base v l) (hk : k < base) : OwnRecs (w.setCell ⟨k, j, none⟩ u) base v l := by
 refine ⟨h.1, ?_⟩
 rcases h.2 with hn | ⟨g, cap, cur, rfl, hbg, hh, r⟩
 · exact .inl hn
 exact .inr ⟨g, cap, cur, rfl, hbg, box_off hh (by omega) u, r⟩
theorem OwnRecs.at {w : World} {base : Nat} {v : Value} {l : List Rc} (h : OwnRecs w base v l) : ∃ ad cap, v = .slice ad l.length cap ∧ RecsAt w ad l.length cap l ∧ (∀ a, ad = some a → base ≤ a.block) := by
 rcases h.2 with ⟨hn, h0⟩ | ⟨g, cap, cur, rfl, hbg, hh, hc, _, _, ht⟩
 · have hl := List.eq_nil_of_length_eq_zero h0
   subst hl
   exact ⟨none, 0, hn, recsAt_nil w, fun a h => by cases h⟩
 refine ⟨_, _, rfl, ⟨rfl, hc, (fun h => by cases h), .inr ⟨g, 0, rfl, lt_of_block hh, fun i r hi => ?_⟩⟩, fun a h => by cases h; exact hbg⟩
 have hil : i < l.length := (List.getElem?_eq_some_iff.1 hi).1
 obtain ⟨h1, h2⟩ := recVals_at l i r hi
 rw [← ht, List.getElem?_take, if_pos (by omega)] at h1 h2
 rw [Nat.zero_add]
 refine ⟨?_, ?_⟩
 · rw [cell_of_row w g _ _ _ _ hh]; simpa using h1
 rw [cell_of_row w g _ _ _ _ hh]; simpa using h2
theorem infoRec : (Tryz.prog.info? 84).map (fun i => (i.zero, i.size, i.bytes)) = some (some (.agg #[.string ⟨#[]⟩, .string ⟨#[]⟩]), 2, 32) := by kernel_rfl
def RecNews (w : World) (a : Addr) (l : List Rc) : Prop := ∀ j u, (recVals l)[j]? = some u → w.cell? (a.add j) = some u
theorem recNews_lit (w : World) (k s : ByteArray) (g : Nat) (hg : g = w.heap.size) : RecNews (w.alloc (.cells #[.string k, .string s] 84)) ⟨g, 0, none⟩ [⟨k, s⟩] := by
 subst hg
 intro j u hj
 rw [add_at, Nat.zero_add]
 have hh : (w.alloc (.cells #[.string k, .string s] 84)).heap[w.heap.size]? = some (.cells #[.string k, .string s] 84 (0, 0)) := heap_alloc_new w _
 rw [cell_of_row _ _ _ _ _ _ hh]
 simpa [recVals] using hj
theorem run_recs_append (w : World) (base : Nat) (v : Value) (l m : List Rc) (ty : Nat) (hown : OwnRecs w base v l) (ad : Addr) (cap : Nat) (hr : RecNews w ad m) (hn : l.length + m.length ≤ 1000000) (hbase : base ≤ w.heap.size) :
 ∃ v' w', (Builtin.append_ #[27, 27] ty #[v, .slice (some ad) m.length cap]).run Tryz.prog w = .ok v' w' ∧ OwnRecs w' base v' (l ++ m) ∧ w.grownBy w' v.ownBlock := by
 obtain ⟨i0, hi, hz0, hz1, hz2⟩ := info_parts infoRec
 obtain ⟨v', w', hrun, h2, h3, _⟩ := run_append_own (P := Tryz.prog) w base 27 ty 84 i0 (.agg #[.string ⟨#[]⟩, .string ⟨#[]⟩]) 2 32 Tryz.underlying27 hi hz0 hz1 hz2 rfl (by decide) v l.length (recVals l) hown ad m.length cap (recVals m) (recVals_len m) hr (recVals_one m) (by unfold maxLen; omega) (by omega) hbase
 refine ⟨v', w', hrun, ?_, h3⟩
 unfold OwnRecs
 rw [recVals_app, List.length_append]
 exact h2
theorem list_recs {w : World} {ops : Array Oper} {rest : List Oper} {o : Oper} {a : Act} {Q : Exit → Act → World → Prop} (hw : Region.wanted o (yielded ops a.tmps) = true) (s x : Operand)
 (ho : o.op = .call { callee := .builtin .append, args := #[s, x], argTypes := #[27, 27] })
 (base : Nat) (l m : List Rc) (v : Value) (hs : a.eval s = v) (hown : OwnRecs w base v l) (hbase : base ≤ w.heap.size)
 (ad : Addr) (n cap : Nat) (hnm : m.length = n) (hx : a.eval x = .slice (some ad) n cap) (hr : RecNews w ad m) (hn : l.length + n ≤ 1000000)
 (h : ∀ v' w', OwnRecs w' base v' (l ++ m) → w.grownBy w' v.ownBlock → wpList Tryz.prog ops Q rest (a.put o.dst v') w') :
 wpList Tryz.prog ops Q (o :: rest) a w := by
 subst hnm
 refine BigFrame.wpList_want hw fun K hK => ?_
 obtain ⟨v', w', hrun, h2, h3⟩ := run_recs_append w base v l m o.type hown ad cap hr hn hbase
 unfold Oper.wp execOp
 simp only [ho, resolve, invoke, builtin, Sem.run_bind, Sem.run_pure, Result.andThen_ok, List.map_toArray, List.map_cons, List.map_nil, hs, hx, hrun]
 exact hK _ _ (h v' w' h2 h3)
theorem BoxAt.grown {w w' : World} {k base : Nat} {b0 b1 b2 b3 : Int} {b4 : Bool} {b5 : Int} {u v : Value} {l : List Rc} (h : BoxAt w k b0 b1 b2 b3 b4 b5 u) (ho : OwnRecs w base v l) (hk : k < base) (hg : w.grownBy w' v.ownBlock) : BoxAt w' k b0 b1 b2 b3 b4 b5 u := by
 unfold BoxAt at *
 rw [hg.block k (lt_of_block h) (fun e => by have := (ho.lt k e.symm).1; omega)]
 exact h
theorem Below.recs {w0 w w' : World} {base B : Nat} {v : Value} {l : List Rc} (h : Below B w0 w) (ho : OwnRecs w base v l) (hB : B ≤ base) (hs : B ≤ w.heap.size) (hg : w.grownBy w' v.ownBlock) : Below B w0 w' :=
 h.grown hg hs (fun k hk => by have := (ho.lt k hk).1; omega)
theorem RecsAt.put {w : World} {base j len cap : Nat} {ad : Option Addr} {l : List Rc} {u : Value} (h : RecsAt w ad len cap l) (hb : ∀ a, ad = some a → base < a.block) : RecsAt (w.setCell ⟨base, j, none⟩ u) ad len cap l := by
 refine ⟨h.length, h.fits, h.room, ?_⟩
 rcases h.cells with h0 | ⟨b, off, e, hlt, hc⟩
 · exact .inl h0
 have hne : b ≠ base := by have := hb _ e; simp only at this; omega
 have hx : ∀ i, (w.setCell ⟨base, j, none⟩ u).cell? ⟨b, i, none⟩ = w.cell? ⟨b, i, none⟩ := fun i => World.cell?_of_block (a := ⟨b, i, none⟩) (by
  show (w.heap.modify base _)[b]? = _
  rw [Array.getElem?_modify, if_neg (Ne.symm hne)])
 refine .inr ⟨b, off, e, by simpa using hlt, fun i r hi => ?_⟩
 rw [hx, hx]
 exact hc i r hi
end Go.Proofs.YtjmfdildnojknaaGreat
namespace Go.Proofs.YtjmfdildnojknaaGreat
open Go.RowKit
open Go.SeqMath
open Go.BatMath hiding AllB getD_lt take_all
def recK : Kind Rc := ⟨fun r => [.string r.key, .string r.val], 2, 84, 27⟩
theorem recK_ok : recK.Ok 32 where
 und := Tryz.underlying27
 info := by
  obtain ⟨i, hi, hz, hs, hb⟩ := info_parts infoRec
  exact ⟨i, _, hi, hz, hs, hb, rfl⟩
 len := fun _ => rfl
 pos := by decide
 one := fun r u hu => by
  simp only [recK, List.mem_cons, List.not_mem_nil, or_false] at hu
  rcases hu with rfl | rfl <;> rfl
 few := by decide
theorem recsAt_row {w : World} {ad : Option Addr} {len cap : Nat} {l : List Rc} : RecsAt w ad len cap l ↔ RowAt recK w ad len cap l := by
 constructor
 · intro h
   refine ⟨h.length, h.fits, h.room, ?_⟩
   rcases h.cells with h0 | ⟨b, off, e, hlt, hc⟩
   · exact .inl h0
   refine .inr ⟨b, off, e, hlt, fun i x hi j u hj => ?_⟩
   obtain ⟨h1, h2⟩ := hc i x hi
   rcases j with _ | _ | j
   · cases hj; exact h1
   · cases hj; exact h2
   simp [recK] at hj
 intro h
 refine ⟨h.length, h.fits, h.room, ?_⟩
 rcases h.cells with h0 | ⟨b, off, e, hlt, hc⟩
 · exact .inl h0
 exact .inr ⟨b, off, e, hlt, fun i x hi => ⟨hc i x hi 0 _ rfl, hc i x hi 1 _ rfl⟩⟩
end Go.Proofs.YtjmfdildnojknaaGreat
namespace Go.Proofs.YtjmfdildnojknaaGreat
open Go.RowKit
open Go.SeqMath
open Go.BatMath
theorem bel_drewN {B : Nat} {a w : World} (h : Below B a w) (n : Nat) : Below B a (w.drewN n) := h.trans ⟨rfl, rfl, rfl, Nat.le_refl _, fun _ _ => rfl⟩
def SaysB (r : Bool) (w : World) (e : Ending) (w' : World) : Prop := e = .returned (.bool r) ∧ Below w.heap.size w w'
theorem saysB_mk {r s : Bool} {w w' : World} (h : s = r) (hb : Below w.heap.size w w') : SaysB r w (.returned (.bool s)) w' := ⟨by rw [h], hb⟩
def SameAt (w : World) (l m : List Rc) (v : Value) (wr : World) : Prop := ∃ j : Nat, j ≤ l.length ∧ v = .int .i64 j ∧ l.take j = m.take j ∧ Below w.heap.size w wr
theorem ba_toList_inj {s t : ByteArray} (h : s.toList = t.toList) : s = t := by
 rw [ByteArray.toList_eq, ByteArray.toList_eq] at h
 cases s; cases t
 simp only at h
 rw [Array.toList_inj.1 h]
theorem ba_ne {s t : ByteArray} (h : s ≠ t) : (s.toList == t.toList) = false := by
 rw [beq_eq_false_iff_ne]
 exact fun e => h (ba_toList_inj e)
theorem RecsAt.at {w W : World} {ad : Option Addr} {len cap : Nat} {l : List Rc} (h : RecsAt w ad len cap l) (hb : Below w.heap.size w W) (j : Nat) (hj : j < len) :
 ∃ bk off r, ad = some ⟨bk, off, none⟩ ∧ bk < w.heap.size ∧ l[j]? = some r ∧ W.cell? ⟨bk, off + j * 2, none⟩ = some (.string r.key) ∧ W.cell? ⟨bk, off + j * 2 + 1, none⟩ = some (.string r.val) := by
 have hl := h.length
 have hjl : j < l.length := by omega
 rcases h.cells with h0 | ⟨bk, off, e, hlt, hc⟩
 · omega
 have hi : l[j]? = some (l[j]'hjl) := List.getElem?_eq_getElem hjl
 obtain ⟨h1, h2⟩ := hc j _ hi
 exact ⟨bk, off, _, e, hlt, hi, (hb.cell (p := ⟨bk, _, none⟩) hlt).trans h1, (hb.cell (p := ⟨bk, _, none⟩) hlt).trans h2⟩
theorem take_same {l m : List Rc} {j : Nat} {r : Rc} (h : l.take j = m.take j) (hl : l[j]? = some r) (hm : m[j]? = some r) : l.take (j + 1) = m.take (j + 1) := by
 obtain ⟨h1, e1⟩ := List.getElem?_eq_some_iff.1 hl
 obtain ⟨h2, e2⟩ := List.getElem?_eq_some_iff.1 hm
 rw [List.take_succ_eq_append_getElem h1, List.take_succ_eq_append_getElem h2, h, e1, e2]
theorem refRecs_any (w : World) (a1 a2 : Option Addr) (n1 n2 c1 c2 : Nat) (l1 l2 : List Rc) (h1 : RecsAt w a1 n1 c1 l1) (h2 : RecsAt w a2 n2 c2 l2) (hL : n1 ≤ 140737488355328) (r : Bool) (hr : r = true ↔ l1 = l2) :
 Calls Tryz.prog 87 #[.slice a1 n1 c1, .slice a2 n2 c2] w (SaysB r w) := by
 have q1 := h1.length
 have q2 := h2.length
 have H1 := qh h1
 have H2 := qh h2
 have HR := qh hr
 have Q1 := qh q1
 have Q2 := qh q2
 clear h1 h2 hr q1 q2
 by_cases hn : n1 = n2
 rotate_left
 · have hn1 : ((n1 : Int) != (n2 : Int)) = true := by simp; omega
   have hfin : Hid (false = r) := by
    show false = r
    cases r
    · rfl
    have e := HR.out.1 rfl
    exact absurd (by rw [← Q1.out, ← Q2.out, e]) hn
   go_enter Tryz.func87, Tryz.ntmps87
   go_wp2
   go_ret
   exact saysB_mk hfin.out (Below.refl _ _)
 subst hn
 go_enter Tryz.func87, Tryz.ntmps87
 go_wp2_with fail
 go_loopw [13] (fun v13 wr => SameAt w l1 l2 v13 wr) (fun v13 _ => n1 - (intOf v13).toNat)
 case atStart => exact ⟨0, Nat.zero_le _, rfl, rfl, Below.refl _ _⟩
 obtain ⟨j, hj, rfl, htk, hbel⟩ := hrel
 have HBEL := qh hbel
 have HTK := qh htk
 rw [Q1.out] at hj
 clear hbel htk
 by_cases hlt : j < n1
 rotate_left
 · obtain rfl : j = n1 := by omega
   have hfin : Hid (true = r) := by
    show true = r
    have := HTK.out
    rw [List.take_of_length_le (by rw [Q1.out]; exact Nat.le_refl _), List.take_of_length_le (by rw [Q2.out]; exact Nat.le_refl _)] at this
    exact (HR.out.2 this).symm
   go_wp2
   go_ret
   exact saysB_mk hfin.out HBEL.out
 obtain ⟨b1, o1, r1, rfl, hb1, hi1, hk1, hv1⟩ := H1.out.at HBEL.out j hlt
 obtain ⟨b2, o2, r2, rfl, hb2, hi2, hk2, hv2⟩ := H2.out.at HBEL.out j hlt
 have HI1 := qh hi1
 have HI2 := qh hi2
 clear hi1 hi2
 by_cases he : r1 = r2
 · subst he
   obtain ⟨k1, v1⟩ := r1
   simp only at hk1 hv1 hk2 hv2
   have HLE : Hid (j + 1 ≤ l1.length) := by show _ ≤ _; rw [Q1.out]; exact hlt
   have HT2 := qh (take_same HTK.out HI1.out HI2.out)
   go_wp2_with fail
   go_quiet (fail)
   go_wp2
   go_roundw
   case rel => exact ⟨j + 1, HLE.out, by go_num, HT2.out, bel_drewN HBEL.out _⟩
   simp [intOf]; omega
 have HE : Hid (r1 ≠ r2) := he
 obtain ⟨k1, v1⟩ := r1
 obtain ⟨k2, v2⟩ := r2
 simp only at hk1 hv1 hk2 hv2
 have hfin : Hid (false = r) := by
  show false = r
  cases r
  · rfl
  have e := HR.out.1 rfl
  have a := HI1.out
  rw [e, HI2.out] at a
  exact absurd (Option.some.inj a).symm HE.out
 by_cases hk : k1 = k2
 · subst hk
   have hv : v1 ≠ v2 := fun e => he (by rw [e])
   have hvv := ba_ne hv
   clear he hv
   go_wp2_with fail
   go_quiet (fail)
   go_wp2
   go_ret
   exact saysB_mk hfin.out (bel_drewN HBEL.out _)
 have hkk := ba_ne hk
 clear he hk
 go_wp2_with fail
 go_quiet (fail)
 go_wp2
 go_ret
 exact saysB_mk hfin.out (bel_drewN HBEL.out _)
theorem refSame_any (w : World) (x y : Bat) (ad1 ad2 : Option Addr) (n1 n2 c1 c2 : Nat) (h1 : RecsAt w ad1 n1 c1 x.recs) (h2 : RecsAt w ad2 n2 c2 y.recs) (hL : n1 ≤ 140737488355328) (r : Bool) (hr : r = true ↔ x = y) :
 Calls Tryz.prog 51 #[.agg #[.int .i64 x.base, .int .i64 x.prod, .int .i64 x.epoch, .int .i64 x.seq, .bool x.txn, .int .i64 x.marker, .slice ad1 n1 c1], .agg #[.int .i64 y.base, .int .i64 y.prod, .int .i64 y.epoch, .int .i64 y.seq, .bool y.txn, .int .i64 y.marker, .slice ad2 n2 c2]] w (SaysB r w) := by
 have HF : Hid (x ≠ y → false = r) := by
  intro h
  cases r
  · rfl
  exact absurd (hr.1 rfl) h
 obtain ⟨a0, a1, a2, a3, a4, a5, l1⟩ := x
 obtain ⟨b0, b1, b2, b3, b4, b5, l2⟩ := y
 simp only at h1 h2 ⊢
 have H1 := qh h1
 have H2 := qh h2
 have HR := qh hr
 have HBB : ∀ {p q r s t u v p' q' r' s' t' u' v' : Value}, Hid (Below w.heap.size w ((w.alloc (.cells #[p, q, r, s, t, u, v] 29)).alloc (.cells #[p', q', r', s', t', u', v'] 29))) := (bal _ _).alloc (by simp) _
 clear h1 h2 hr
 by_cases h0 : a0 = b0
 rotate_left
 · have e0 : (a0 == b0) = false := by simpa using h0
   have hfin : Hid (false = r) := HF.out (fun h => h0 (by have := congrArg Bat.base h; exact this))
   clear h0
   go_enter Tryz.func51, Tryz.ntmps51
   go_wp2
   go_ret
   exact saysB_mk hfin.out HBB.out
 subst h0
 by_cases h1 : a1 = b1
 rotate_left
 · have e1 : (a1 == b1) = false := by simpa using h1
   have hfin : Hid (false = r) := HF.out (fun h => h1 (by have := congrArg Bat.prod h; exact this))
   clear h1
   go_enter Tryz.func51, Tryz.ntmps51
   go_wp2
   go_ret
   exact saysB_mk hfin.out HBB.out
 subst h1
 by_cases h2 : a2 = b2
 rotate_left
 · have e2 : (a2 == b2) = false := by simpa using h2
   have hfin : Hid (false = r) := HF.out (fun h => h2 (by have := congrArg Bat.epoch h; exact this))
   clear h2
   go_enter Tryz.func51, Tryz.ntmps51
   go_wp2
   go_ret
   exact saysB_mk hfin.out HBB.out
 subst h2
 by_cases h3 : a3 = b3
 rotate_left
 · have e3 : (a3 == b3) = false := by simpa using h3
   have hfin : Hid (false = r) := HF.out (fun h => h3 (by have := congrArg Bat.seq h; exact this))
   clear h3
   go_enter Tryz.func51, Tryz.ntmps51
   go_wp2
   go_ret
   exact saysB_mk hfin.out HBB.out
 subst h3
 by_cases h4 : a4 = b4
 rotate_left
 · have hfin : Hid (false = r) := HF.out (fun h => h4 (by have := congrArg Bat.txn h; exact this))
   cases a4
   · cases b4
     · exact absurd rfl h4
     go_enter Tryz.func51, Tryz.ntmps51
     go_wp2
     go_ret
     exact saysB_mk hfin.out HBB.out
   cases b4
   · go_enter Tryz.func51, Tryz.ntmps51
     go_wp2
     go_ret
     exact saysB_mk hfin.out HBB.out
   exact absurd rfl h4
 subst h4
 by_cases h5 : a5 = b5
 rotate_left
 · have e5 : (a5 == b5) = false := by simpa using h5
   have hfin : Hid (false = r) := HF.out (fun h => h5 (by have := congrArg Bat.marker h; exact this))
   clear h5
   cases a4
   all_goals
    go_enter Tryz.func51, Tryz.ntmps51
    go_wp2
    go_ret
    exact saysB_mk hfin.out HBB.out
 subst h5
 have hrr : Hid (r = true ↔ l1 = l2) := by
  show r = true ↔ l1 = l2
  rw [HR.out]
  exact ⟨fun h => by have := congrArg Bat.recs h; exact this, fun h => by rw [h]⟩
 cases a4
 all_goals
  go_enter Tryz.func51, Tryz.ntmps51
  go_wp2_with fail
  refine (refRecs_any _ _ _ _ _ _ _ l1 l2 (H1.out.keep (HBB.out)) (H2.out.keep (HBB.out)) hL r hrr.out).mono ?_
  rintro e w1 ⟨rfl, hb⟩
  have HB1 := qh (HBB.out.trans (hb.mono HBB.out.size))
  clear hb
  go_wp2
  go_ret
  exact saysB_mk rfl HB1.out
end Go.Proofs.YtjmfdildnojknaaGreat
