/- Parts of a proof. -/
import Derived.Shelf.SlIterI.Sorted
import Derived.Shelf.SortM.Plain
import Derived.Shelf.SortM.SortNone
import Derived.Test.YtjmfdildnojknaaGreatProg
import Derived.Test.YtjmfdildnojknaaGreatKP16
import Derived.Test.YtjmfdildnojknaaGreatKP14
set_option maxRecDepth 100000
set_option maxHeartbeats 16000000
set_option linter.unusedVariables false
namespace Go.ProdMath
open Go.SeqMath
open Go.BatMath
open Go.FoMath
open Go.AbMath (DrsOk okD lastD lastD_lt tdrop_is)
theorem newLast_mem {l : List Tr} {x y : Tr} (h : y ∈ newLast l x) : y ∈ l ∨ y = x := by
 unfold newLast at h
 rcases List.mem_append.1 (List.mem_of_mem_drop h) with h | h
 · exact .inl h
 exact .inr (List.mem_singleton.1 h)
theorem apply_pos {p : Pd} {k : Bool} {b : Bat} (h : ∀ x ∈ p.last, 0 ≤ x.b) (hb : 0 ≤ b.base) : ∀ x ∈ (applyD p k b).last, 0 ≤ x.b := by
 have ho : ∀ x ∈ oldLast p k b, 0 ≤ x.b := fun x hx => by
  unfold oldLast at hx
  split at hx
  · exact h x hx
  cases hx
 unfold applyD
 split
 · exact ho
 intro x hx
 rcases newLast_mem hx with h1 | h1
 · exact ho x h1
 rw [h1]; exact hb
def posP (l : List Pd) : Prop := ∀ p ∈ l, ∀ x ∈ p.last, 0 ≤ x.b
theorem get_pos {l : List Pd} (h : posP l) (id : Int) : ∀ x ∈ (getD l id).last, 0 ≤ x.b := by
 unfold getD
 split
 · split
   · rename_i p hp; exact h p (List.mem_of_getElem? hp)
   intro x hx; cases hx
 intro x hx; cases hx
theorem tapply_pos {l : List Pd} (h : posP l) {b : Bat} (hb : 0 ≤ b.base) : posP (tapplyD l b) := by
 unfold tapplyD
 split
 · exact h
 split
 · intro p hp
   rcases List.mem_or_eq_of_mem_set hp with h1 | h1
   · exact h p h1
   rw [h1]; exact apply_pos (get_pos h _) hb
 intro p hp
 rcases List.mem_append.1 hp with h1 | h1
 · exact h p (List.mem_of_mem_take h1)
 rcases List.mem_cons.1 h1 with h1 | h1
 · rw [h1]; exact apply_pos (fun x hx => by cases hx) hb
 exact h p (List.mem_of_mem_drop h1)
theorem foldP_pos : ∀ {l : List Pd} (bs : List Bat), posP l → (∀ b ∈ bs, 0 ≤ b.base) → posP (foldP l bs)
 | l, [], h, _ => h
 | l, b :: bs, h, hb => foldP_pos (l := tapplyD l b) bs (tapply_pos h (hb b (by simp))) (fun c hc => hb c (by simp [hc]))
theorem dup_in_last : ∀ {l : List Tr} {s : Int} {c : Nat} {n : Int}, dupL l s c = some n → ∃ x ∈ l, x.b = n
 | [], s, c, n, h => by cases h
 | x :: l, s, c, n, h => by
   cases hb : hitB x s c with
   | true =>
     rw [dup_hit hb] at h
     cases h
     exact ⟨x, by simp, rfl⟩
   | false =>
     rw [dup_miss hb] at h
     obtain ⟨y, hy, e⟩ := dup_in_last h
     exact ⟨y, by simp [hy], e⟩
theorem check_sign {l : List Pd} (h : posP l) (b : Bat) : (tcheckD l b).1 = -1 ∨ (0 ≤ (tcheckD l b).1 ∧ (tcheckD l b).2 = 0) := by
 unfold tcheckD
 split
 · exact .inl rfl
 split
 · exact .inl rfl
 unfold checkD
 split
 · split
   · exact .inl rfl
   split
   · exact .inl rfl
   split <;> exact .inl rfl
 split
 · exact .inl rfl
 split
 · exact .inl rfl
 split
 · split
   · exact .inl rfl
   split <;> exact .inl rfl
 split
 · rename_i n hn
   obtain ⟨x, hx, e⟩ := dup_in_last hn
   refine .inr ⟨?_, rfl⟩
   show 0 ≤ n
   rw [← e]
   exact get_pos h _ x hx
 split
 · exact .inl rfl
 split <;> exact .inl rfl
theorem rowW_pos {s : Int} {bs : List Bat} (h : RowW s bs) (h0 : 0 ≤ s) : posP (foldP [] bs) := foldP_pos bs (fun p hp => by cases hp) (fun b hb => by have := ((rowW_bases h).2.1 b hb).1; omega)
theorem rowW_opns {start : Int} {bs : List Bat} (h : RowW start bs) (h0 : 0 ≤ start) : ∀ p ∈ foldP [] bs, p.opn < endD start bs := by
 induction h with
 | nil => intro p hp; cases hp
 | @snoc l b hl hb hw hr he ih =>
   have ha : Asc (foldP [] l) := fold_asc l asc_nil
   have hpos := right_count hr
   have hend : endD start (l ++ [b]) = b.base + countD b := end_last (by simp)
   have hb0 : 0 ≤ b.base := by rw [hb]; have := (rowW_bases hl).2.2; omega
   rw [foldP_snoc]
   by_cases hp : b.prod < 0
   · rw [tapply_no (Or.inr hp)]
     intro p hm
     have := ih p hm
     rw [hend, hb]; omega
   rw [tapply_ins ha b hr (by omega)]
   intro p hm
   rcases ins_ids _ _ _ hm with e | e
   rotate_left
   · have := ih p e
     rw [hend, hb]; omega
   rw [e, hend]
   have hq : ((lookD (foldP [] l) b.prod).getD Pd.zero).opn < b.base ∨ lookD (foldP [] l) b.prod = none := by
    cases hlk : lookD (foldP [] l) b.prod with
    | none => exact .inr rfl
    | some q => exact .inl (by rw [hb]; exact ih q (look_id hlk).2)
   have ho : oldOpen ((lookD (foldP [] l) b.prod).getD Pd.zero) (lookD (foldP [] l) b.prod).isSome < b.base + countD b := by
    unfold oldOpen
    split
    · rename_i hk
      rcases hq with hq | hq
      · omega
      rw [hq] at hk; cases hk
    omega
   unfold applyD
   split
   · show (-1 : Int) < _; omega
   show (if b.txn = true ∧ _ then b.base else _) < _
   split
   · omega
   exact ho
theorem rowW_drops {start : Int} {bs : List Bat} (h : RowW start bs) (h0 : 0 ≤ start) (h1 : start ≤ 1099511627776) : DrsOk (foldR [] bs) ∧ ∀ d ∈ foldR [] bs, d.last < endD start bs := by
 induction h with
 | nil => exact ⟨DrsOk.nil, fun d hd => by cases hd⟩
 | @snoc l b hl hb hw hr he ih =>
   have ha : Asc (foldP [] l) := fold_asc l asc_nil
   have hpos := right_count hr
   have hend : endD start (l ++ [b]) = b.base + countD b := end_last (by simp)
   have hb0 : 0 ≤ b.base := by rw [hb]; have := (rowW_bases hl).2.2; omega
   obtain ⟨i1, i2⟩ := ih
   rw [foldR_snoc]
   cases hd : tdropD (foldP [] l) b with
   | none =>
     show DrsOk (_ ++ []) ∧ _
     rw [List.append_nil]
     refine ⟨i1, fun d hdm => ?_⟩
     rw [show foldR [] l ++ (none : Option Dr).toList = foldR [] l from List.append_nil _] at hdm
     have := i2 d hdm
     rw [hend, hb]; omega
   | some d =>
     obtain ⟨hp, p, hpm, hpo, e⟩ := tdrop_is ha hd
     have hop := rowW_opns hl h0 p hpm
     have hdl : d.last = b.base := by rw [e]
     have hok : okD (lastD (foldR [] l)) d := by
      refine ⟨?_, (lastD_lt i1 (by omega)).2 fun x hx => by have := i2 x hx; omega⟩
      rw [e]
      exact ⟨hp, hpo, by show p.opn < b.base; omega, by show b.base ≤ _; omega⟩
     refine ⟨i1.snoc hok, fun x hx => ?_⟩
     rcases List.mem_append.1 hx with hx | hx
     · have := i2 x hx
       rw [hend, hb]; omega
     rw [List.mem_singleton.1 (show x ∈ [d] from hx), hend]; omega
def stepK (top s : Int) (b : Bat) : Int := if b.base ≤ top then max s b.base else s
def foldK (top s : Int) (bs : List Bat) : Int := bs.foldl (stepK top) s
theorem foldK_snoc (top s : Int) (bs : List Bat) (b : Bat) : foldK top s (bs ++ [b]) = stepK top (foldK top s bs) b := by unfold foldK; rw [List.foldl_append]; rfl
theorem baseD_at {start : Int} {bs : List Bat} {k : Nat} {b : Bat} (h : bs[k]? = some b) : baseD start bs k = b.base := by unfold baseD; rw [h]
theorem baseD_len (start : Int) (bs : List Bat) : baseD start bs bs.length = endD start bs := by unfold baseD; rw [List.getElem?_eq_none (Nat.le_refl _)]
theorem baseD_zero {start : Int} {bs : List Bat} (h : RowW start bs) : baseD start bs 0 = start := by rw [baseD_is h 0 (Nat.zero_le _), List.take_zero]; rfl
theorem baseD_lt {start : Int} {bs : List Bat} (h : RowW start bs) {i j : Nat} (hij : i < j) (hj : j ≤ bs.length) : baseD start bs i < baseD start bs j := by
 obtain ⟨h1, h2, _⟩ := rowW_bases h
 have hi : i < bs.length := by omega
 rw [baseD_at (List.getElem?_eq_getElem hi)]
 by_cases hjl : j < bs.length
 · rw [baseD_at (List.getElem?_eq_getElem hjl)]
   exact List.pairwise_iff_getElem.1 h1 i j hi hjl hij
 rw [show j = bs.length by omega, baseD_len]
 exact (h2 _ (List.getElem_mem hi)).2
theorem baseD_le {start : Int} {bs : List Bat} (h : RowW start bs) {i j : Nat} (hij : i ≤ j) (hj : j ≤ bs.length) : baseD start bs i ≤ baseD start bs j := by
 rcases Nat.lt_or_ge i j with h1 | h1
 · exact Int.le_of_lt (baseD_lt h h1 hj)
 rw [show i = j by omega]; exact Int.le_refl _
theorem foldK_is {start top : Int} {bs : List Bat} (h : RowW start bs) : ∀ j, j < bs.length → foldK top start (bs.take (j + 1)) = baseD start bs (keepAt start top bs j)
 | 0, hj => by
   have e := List.getElem?_eq_getElem hj
   have h0 := baseD_zero h
   have e1 := baseD_at (start := start) e
   rw [h0] at e1
   rw [List.take_add_one, e, List.take_zero]
   show stepK top start bs[0] = baseD start bs 0
   rw [h0]
   unfold stepK
   rw [← e1]
   split <;> omega
 | j + 1, hj => by
   have ih := foldK_is (top := top) h j (by omega)
   have e := List.getElem?_eq_getElem hj
   have e1 := baseD_at (start := start) e
   rw [List.take_add_one, e]
   show foldK top start (bs.take (j + 1) ++ [bs[j + 1]]) = _
   rw [foldK_snoc, ih]
   show stepK top (baseD start bs (keepAt start top bs j)) bs[j + 1] = baseD start bs (if baseD start bs (j + 1) ≤ top then j + 1 else keepAt start top bs j)
   unfold stepK
   rw [← e1]
   have hle := keepAt_le start top bs j
   have hb := baseD_le h (i := keepAt start top bs j) (j := j + 1) (by omega) (by omega)
   split
   · omega
   rfl
theorem keep_fin {start top : Int} {bs : List Bat} (h : RowW start bs) : (if endD start bs ≤ top then endD start bs else foldK top start bs) = baseD start bs (keepAt start top bs bs.length) := by
 by_cases he : endD start bs ≤ top
 · rw [if_pos he, keepAt_yes (by rw [baseD_len]; exact he), baseD_len]
 rw [if_neg he]
 obtain ⟨n, hn⟩ : ∃ n, n = bs.length := ⟨_, rfl⟩
 cases n with
 | zero =>
   obtain rfl := List.eq_nil_of_length_eq_zero hn.symm
   rfl
 | succ n =>
   have h1 := foldK_is (top := top) h n (by omega)
   rw [List.take_of_length_le (by omega)] at h1
   rw [h1, ← hn, keepAt_no (by rw [hn, baseD_len]; exact he)]
theorem keep_is {start fr : Int} {bs : List Bat} (h : RowW start bs) : keepD start fr bs = (baseD start bs (keepN start fr bs), bs.drop (keepN start fr bs)) := by
 have hk : keepN start fr bs ≤ bs.length := keepAt_le _ _ _ _
 have h0 := baseD_zero h
 unfold keepD
 split
 · rfl
 rename_i h1
 have hz : keepN start fr bs = 0 := by
  rcases Nat.eq_zero_or_pos (keepN start fr bs) with h2 | h2
  · exact h2
  have := baseD_lt h h2 hk; omega
 rw [hz, h0, List.drop_zero]
end Go.ProdMath
namespace Go.Proofs.YtjmfdildnojknaaGreat
open Go.RowKit
open Go.SeqMath
open Go.ProdMath
open Go.BatMath hiding AllB getD_lt take_all In64
def NotStr (u : Value) : Prop := ∀ s, u ≠ .string s
def NoStr (w : World) (v : Value) : Prop := ∀ q, v.ownBlock = some q → ∃ cur t fr, w.heap[q]? = some (.cells cur t fr) ∧ ∀ u ∈ cur.toList, NotStr u
theorem noStr_nil (w : World) : NoStr w (.slice none 0 0) := fun q h => by cases h
theorem NoStr.same {w w' : World} {v : Value} (h : NoStr w v) (hs : ∀ q, v.ownBlock = some q → w'.heap[q]? = w.heap[q]?) : NoStr w' v := fun q hq => by
 obtain ⟨cur, t, fr, h1, h2⟩ := h q hq
 exact ⟨cur, t, fr, (hs q hq).trans h1, h2⟩
theorem zero_notStr : ∃ i z, Tryz.prog.info? batK.ty = some i ∧ i.zero = some z ∧ i.size = batK.size ∧ i.bytes = 72 ∧ z.cells.size = batK.size ∧ ∀ n, ∀ u ∈ (Builtin.zeroCells z.cells n).toList, NotStr u := by
 obtain ⟨i, hi, hz, hs, hb⟩ := info_parts infoBat
 refine ⟨i, _, hi, hz, hs, hb, rfl, fun n u hu => ?_⟩
 unfold Builtin.zeroCells at hu
 simp only [Array.toList_map, List.mem_map] at hu
 obtain ⟨j, _, rfl⟩ := hu
 have key : ∀ r, r < 7 → NotStr ((Value.agg #[.int .i64 0, .int .i64 0, .int .i64 0, .int .i64 0, .bool false, .int .i64 0, .slice none 0 0]).cells[r]!) := by
  intro r hr s
  have : r = 0 ∨ r = 1 ∨ r = 2 ∨ r = 3 ∨ r = 4 ∨ r = 5 ∨ r = 6 := by omega
  rcases this with rfl | rfl | rfl | rfl | rfl | rfl | rfl <;> intro e <;> cases e
 exact key _ (Nat.mod_lt _ (by decide))
theorem enc_notStr (m : BM) : ∀ u ∈ batK.enc m, NotStr u := by
 intro u hu
 simp only [batK, List.mem_cons, List.not_mem_nil, or_false] at hu
 rcases hu with rfl | rfl | rfl | rfl | rfl | rfl | rfl <;> intro s e <;> cases e
theorem all_notStr (l : List BM) : ∀ u ∈ batK.all l, NotStr u := by
 intro u hu
 obtain ⟨x, _, hx⟩ := List.mem_flatMap.1 hu
 exact enc_notStr x u hx
theorem noStr_lit (w : World) (l : List BM) (cs : Array Value) (hcs : cs = (batK.all l).toArray) (n c : Nat) : NoStr (w.alloc (.cells cs batK.ty)) (.slice (some ⟨w.heap.size, 0, none⟩) n c) := by
 intro q hq
 cases hq
 subst hcs
 exact ⟨_, _, _, heap_alloc_new w _, fun u hu => all_notStr l u (by simpa using hu)⟩
theorem bat_append_noStr (w w' : World) (base : Nat) (v v' : Value) (l m : List BM) (ty : Nat) (hown : OwnRow batK w base v l) (hns : NoStr w v) (ad : Option Addr) (n cap : Nat) (hr : RowAt batK w ad n cap m) (hn : l.length + n ≤ 1000000000)
 (hrun : (Builtin.append_ #[batK.sl, batK.sl] ty #[v, .slice ad n cap]).run Tryz.prog w = .ok v' w') : NoStr w' v' := by
 obtain ⟨i, z, hi, hz, hs, hby, hzs, hzn⟩ := zero_notStr
 have hK := batK_ok
 have hu := hK.und
 obtain rfl := hr.length
 rcases ad with _ | a
 · have hc := hr.room rfl
   have hf := hr.fits
   have hm0 : m.length = 0 := by omega
   subst hc
   have hrun2 := run_append_owned_none (P := Tryz.prog) (w := w) base batK.sl ty batK.ty i batK.size hu hi v _ _ hown
   rw [hm0, hrun2] at hrun
   injection hrun with e1 e2
   subst e1 e2
   exact hns
 have hml := hK.all_len m
 rw [← hs] at hml
 by_cases hm : m.length = 0
 · have hme : m = [] := List.eq_nil_of_length_eq_zero hm
   subst hme
   rcases hown.2 with ⟨rfl, h0⟩ | ⟨g, cp, cur, rfl, hbg, hg, hnc, hcm, hcs, htake⟩
   · have hrun2 : (Builtin.append_ #[batK.sl, batK.sl] ty #[.slice none 0 0, .slice (some a) 0 cap]).run Tryz.prog w = .ok (.slice none 0 0) w := by
      simp [Builtin.append_, run_underlying hu, sizeOf, typeInfo, hi, Builtin.lenOf, Builtin.firstCells, loadCells, loadCellsFrom]
     rw [List.length_nil, hrun2] at hrun
     injection hrun with e1 e2
     subst e1 e2
     exact hns
   have hl : (batK.all ([] : List BM)).length = 0 * i.size := by simp [Kind.all]
   rw [List.length_nil, run_append_room (P := Tryz.prog) w batK.sl ty batK.ty i hu hi g l.length cp cur hg a 0 cap (batK.all []) hl (fun j u hj => by simp [Kind.all] at hj) (hK.all_one _) (by omega) (by rw [hl, hcs, ← hs]; have := Nat.mul_le_mul_right i.size hnc; omega)] at hrun
   injection hrun with e1 e2
   subst e1 e2
   intro q hq
   cases hq
   obtain ⟨cur2, t2, fr2, hb2, hn2⟩ := hns g rfl
   rw [hg] at hb2
   cases hb2
   refine ⟨_, _, _, setRow_heap w g cur _ batK.ty _ hg, fun u hu2 => ?_⟩
   simp only [List.mem_append] at hu2
   rcases hu2 with (h1 | h1) | h1
   · exact hn2 u (List.mem_of_mem_take h1)
   · simp [Kind.all] at h1
   exact hn2 u (List.mem_of_mem_drop h1)
 obtain ⟨b, off, sp⟩ := a
 have hsp : sp = none := by
  rcases hr.cells with h0 | ⟨_, _, e, _⟩
  · exact absurd h0 hm
  cases e; rfl
 subst hsp
 have hnews := hr.news hK
 rcases hown.2 with ⟨rfl, h0⟩ | ⟨g, cp, cur, rfl, hbg, hg, hnc, hcm, hcs, htake⟩
 · rw [run_append_nil (P := Tryz.prog) w batK.sl ty batK.ty i z hu hi hz ⟨b, off, none⟩ m.length cap (batK.all m) hml hnews (by omega) (by omega) (by rw [hby]; omega)] at hrun
   injection hrun with e1 e2
   subst e1 e2
   intro q hq
   cases hq
   refine ⟨_, _, _, heap_alloc_new w.drew _, fun u hu2 => ?_⟩
   simp only [Array.toList_append, List.mem_append] at hu2
   rcases hu2 with h1 | h1
   · exact all_notStr m u h1
   exact hzn _ u h1
 obtain ⟨cur2, t2, fr2, hb2, hn2⟩ := hns g rfl
 rw [hg] at hb2
 cases hb2
 by_cases hroom : l.length + m.length ≤ cp
 · rw [run_append_room (P := Tryz.prog) w batK.sl ty batK.ty i hu hi g l.length cp cur hg ⟨b, off, none⟩ m.length cap (batK.all m) hml hnews (hK.all_one m) hroom (by rw [hml, hcs, ← hs, ← Nat.add_mul]; exact Nat.mul_le_mul_right _ hroom)] at hrun
   injection hrun with e1 e2
   subst e1 e2
   intro q hq
   cases hq
   refine ⟨_, _, _, setRow_heap w g cur _ batK.ty _ hg, fun u hu2 => ?_⟩
   simp only [List.mem_append] at hu2
   rcases hu2 with (h1 | h1) | h1
   · exact hn2 u (List.mem_of_mem_take h1)
   · exact all_notStr m u h1
   exact hn2 u (List.mem_of_mem_drop h1)
 have hlo : (batK.all l).length = l.length * i.size := by rw [hs]; exact hK.all_len l
 rw [run_append_grow (P := Tryz.prog) w batK.sl ty batK.ty i z hu hi hz ⟨g, 0, none⟩ l.length cp (batK.all l) hlo (World.ownsRow.cells hown (g := g) rfl) ⟨b, off, none⟩ m.length cap (batK.all m) hml hnews (by omega) (by omega) (growslice_fits (by omega) (by rw [hby]; omega))] at hrun
 injection hrun with e1 e2
 subst e1 e2
 intro q hq
 cases hq
 refine ⟨_, _, _, heap_alloc_new w.drew _, fun u hu2 => ?_⟩
 simp only [Array.toList_append, List.mem_append] at hu2
 rcases hu2 with (h1 | h1) | h1
 · exact all_notStr l u h1
 · exact all_notStr m u h1
 exact hzn _ u h1
theorem list_bat {w : World} {ops : Array Oper} {rest : List Oper} {o : Oper} {a : Act} {Q : Exit → Act → World → Prop} (hw : Region.wanted o (yielded ops a.tmps) = true) (s x : Operand)
 (ho : o.op = .call { callee := .builtin .append, args := #[s, x], argTypes := #[batK.sl, batK.sl] })
 (base : Nat) (l m : List BM) (v : Value) (hs : a.eval s = v) (hown : OwnRow batK w base v l) (hns : NoStr w v) (hbase : base ≤ w.heap.size)
 (ad : Option Addr) (n cap : Nat) (hx : a.eval x = .slice ad n cap) (hr : RowAt batK w ad n cap m) (hn : l.length + n ≤ 1000000000)
 (h : ∀ v' w', Appended batK w base v (l ++ m) v' w' → NoStr w' v' → wpList Tryz.prog ops Q rest (a.put o.dst v') w') :
 wpList Tryz.prog ops Q (o :: rest) a w := by
 refine BigFrame.wpList_want hw fun C hC => ?_
 obtain ⟨v', w', hrun, h2⟩ := run_row_append batK_ok w base v l m o.type hown ad n cap hr (by omega) (by omega) hbase
 unfold Oper.wp execOp
 simp only [ho, resolve, invoke, builtin, Sem.run_bind, Sem.run_pure, Result.andThen_ok, List.map_toArray, List.map_cons, List.map_nil, hs, hx, hrun]
 exact hC _ _ (h v' w' h2 (bat_append_noStr w w' base v v' l m o.type hown hns ad n cap hr hn hrun))
theorem held_bat {w : World} {ops : Array Oper} {o : Oper} {a : Act} {C : Act → World → Prop} {Q : Exit → Act → World → Prop} {Z : Prop} [Decidable (Region.wanted o (yielded ops a.tmps) = true)] (hw : Region.wanted o (yielded ops a.tmps) = true) (s x : Operand)
 (ho : o.op = .call { callee := .builtin .append, args := #[s, x], argTypes := #[batK.sl, batK.sl] })
 (base : Nat) (l m : List BM) (v : Value) (hs : a.eval s = v) (hown : OwnRow batK w base v l) (hns : NoStr w v) (hbase : base ≤ w.heap.size)
 (ad : Option Addr) (n cap : Nat) (hx : a.eval x = .slice ad n cap) (hr : RowAt batK w ad n cap m) (hn : l.length + n ≤ 1000000000)
 (h : ∀ v' w', Appended batK w base v (l ++ m) v' w' → NoStr w' v' → C (a.put o.dst v') w') :
 if Region.wanted o (yielded ops a.tmps) = true then Oper.wp Tryz.prog o a w C Q else Z := by
 rw [if_pos hw]
 obtain ⟨v', w', hrun, h2⟩ := run_row_append batK_ok w base v l m o.type hown ad n cap hr (by omega) (by omega) hbase
 unfold Oper.wp execOp
 simp only [ho, resolve, invoke, builtin, Sem.run_bind, Sem.run_pure, Result.andThen_ok, List.map_toArray, List.map_cons, List.map_nil, hs, hx, hrun]
 exact h v' w' h2 (bat_append_noStr w w' base v v' l m o.type hown hns ad n cap hr hn hrun)
theorem recs_apart {w : World} {v : Value} (h : NoStr w v) {ad : Option Addr} {n c : Nat} {l : List Rc} (hr : RecsAt w ad n c l) : n = 0 ∨ ∀ a, ad = some a → v.ownBlock ≠ some a.block := by
 rcases hr.cells with h0 | ⟨b, off, e, hlt, hc⟩
 · exact .inl h0
 rcases Nat.eq_zero_or_pos n with h0 | h0
 · exact .inl h0
 refine .inr fun a ha hq => ?_
 rw [ha] at e
 cases e
 obtain ⟨cur, t, fr, hb, hn⟩ := h b hq
 have hl : 0 < l.length := by rw [hr.length]; exact h0
 have h1 := (hc 0 _ (List.getElem?_eq_getElem hl)).1
 have h2 : cur[off]? = some (.string l[0].key) := by
  have h3 : w.cell? ⟨b, off + 0 * 2, none⟩ = cur[off + 0 * 2]? := by
   obtain ⟨fx, fy⟩ := fr
   simp [World.cell?, hb]
  rw [h3] at h1
  simpa using h1
 exact hn _ (by simpa using Array.mem_of_getElem? h2) _ rfl
theorem recs_past {w w' : World} {ad : Option Addr} {n c : Nat} {l : List Rc} {G : Nat → Prop} (hr : RecsAt w ad n c l) (hk : Kept w w' G) (h : n = 0 ∨ ∀ a, ad = some a → ¬ G a.block) : RecsAt w' ad n c l := by
 rcases h with h0 | h
 · exact ⟨hr.length, hr.fits, hr.room, .inl h0⟩
 exact recsAt_row.2 (hk.row (recsAt_row.1 hr) h)
end Go.Proofs.YtjmfdildnojknaaGreat
namespace Go.Proofs
open Go.Shelf
def Tryz.keysA_ren : Go.Shelf.Ren := ⟨fun | 7 => 83 | 10 => 119 | n => n, fun | 23 => 110 | 26 => 2 | 3 => 58 | 28 => 125 | 0 => 0 | 27 => 124 | 33 => 120 | 4 => 4 | n => n, fun | n => n⟩
theorem Tryz.keysA : Go.Proofs.SlLaysZI.n7 Tryz.prog Tryz.keysA_ren := {
  mixed := by kernel_rfl
  f7 := ⟨Tryz.f83.name, by decide, Tryz.func83.trans (congrArg some (by kernel_rfl))⟩
  f10 := ⟨Tryz.f119.name, by decide, Tryz.func119.trans (congrArg some (by kernel_rfl))⟩
  t0 := Tryz.underlying0
  a0 := Tryz.isAgg0
  z0 := Tryz.sizeOf0
  v0 := Tryz.zeroValue0
  t4 := Tryz.underlying4
  a4 := Tryz.isAgg4
  z4 := Tryz.sizeOf4
  v4 := Tryz.zeroValue4
  t23 := Tryz.underlying110
  a23 := Tryz.isAgg110
  z23 := Tryz.sizeOf110
  v23 := Tryz.zeroValue110
  t26 := Tryz.underlying2
  a26 := Tryz.isAgg2
  z26 := Tryz.sizeOf2
  v26 := Tryz.zeroValue2
  t27 := Tryz.underlying124
  a27 := Tryz.isAgg124
  z27 := Tryz.sizeOf124
  v27 := Tryz.zeroValue124
  t28 := Tryz.underlying125
  a28 := Tryz.isAgg125
  z28 := Tryz.sizeOf125
  v28 := Tryz.zeroValue125
  t33 := Tryz.underlying120
  a33 := Tryz.isAgg120
  z33 := Tryz.sizeOf120
  v33 := Tryz.zeroValue120 }
def Tryz.sortedA_ren : Go.Shelf.Ren := ⟨fun | 6 => 82 | 8 => 117 | 9 => 118 | 11 => 141 | 13 => 143 | 12 => 142 | 23 => 165 | 24 => 166 | 14 => 156 | 15 => 157 | 16 => 158 | 17 => 159 | 18 => 160 | 19 => 161 | 20 => 162 | 21 => 163 | 22 => 164 | 25 => 174 | 26 => 175 | 27 => 176 | 28 => 177 | 29 => 178 | 30 => 179 | 31 => 182 | n => n, fun | 26 => 2 | 28 => 125 | 24 => 31 | 0 => 0 | 3 => 3 | 37 => 154 | 48 => 143 | 50 => 183 | 4 => 4 | 40 => 189 | 39 => 188 | 45 => 161 | 5 => 5 | 9 => 9 | 51 => 200 | 55 => 204 | 57 => 207 | 58 => 208 | 33 => 120 | n => n, fun | n => n⟩
theorem Tryz.sortedA : Go.Proofs.SlLaysZI.n6 Tryz.prog Tryz.sortedA_ren := {
  mixed := by kernel_rfl
  f6 := ⟨Tryz.f82.name, by decide, Tryz.func82.trans (congrArg some (by kernel_rfl))⟩
  f8 := ⟨Tryz.f117.name, by decide, Tryz.func117.trans (congrArg some (by kernel_rfl))⟩
  f11 := ⟨Tryz.f141.name, by decide, Tryz.func141.trans (congrArg some (by kernel_rfl))⟩
  t0 := Tryz.underlying0
  a0 := Tryz.isAgg0
  z0 := Tryz.sizeOf0
  v0 := Tryz.zeroValue0
  t24 := Tryz.underlying31
  a24 := Tryz.isAgg31
  z24 := Tryz.sizeOf31
  v24 := Tryz.zeroValue31
  t26 := Tryz.underlying2
  a26 := Tryz.isAgg2
  z26 := Tryz.sizeOf2
  v26 := Tryz.zeroValue2
  t28 := Tryz.underlying125
  a28 := Tryz.isAgg125
  z28 := Tryz.sizeOf125
  v28 := Tryz.zeroValue125
  i26 := by kernel_rfl }
def Tryz.sortA_ren : Go.Shelf.Ren := ⟨fun | 5 => 118 | 8 => 143 | 7 => 142 | 19 => 165 | 20 => 166 | 10 => 156 | 11 => 157 | 12 => 158 | 13 => 159 | 14 => 160 | 15 => 161 | 16 => 162 | 17 => 163 | 18 => 164 | 30 => 174 | 31 => 175 | 32 => 176 | 33 => 177 | 34 => 178 | 35 => 179 | 40 => 182 | n => n, fun | 23 => 31 | 25 => 2 | 3 => 3 | 32 => 154 | 22 => 31 | 0 => 0 | 44 => 143 | 46 => 183 | 4 => 4 | 36 => 189 | 35 => 188 | 41 => 161 | 5 => 5 | 9 => 9 | 53 => 200 | 57 => 204 | 63 => 207 | 64 => 208 | n => n, fun | n => n⟩
theorem Tryz.sortA : Go.Proofs.SlLaysM.n5 Tryz.prog Tryz.sortA_ren := {
  mixed := by kernel_rfl
  f5 := ⟨Tryz.f118.name, by decide, Tryz.func118.trans (congrArg some (by kernel_rfl))⟩
  f7 := ⟨Tryz.f142.name, by decide, Tryz.func142.trans (congrArg some (by kernel_rfl))⟩
  f8 := Tryz.func143.trans (congrArg some (by kernel_rfl))
  f10 := ⟨Tryz.f156.name, by decide, Tryz.func156.trans (congrArg some (by kernel_rfl))⟩
  f11 := ⟨Tryz.f157.name, by decide, Tryz.func157.trans (congrArg some (by kernel_rfl))⟩
  f12 := ⟨Tryz.f158.name, by decide, Tryz.func158.trans (congrArg some (by kernel_rfl))⟩
  f13 := ⟨Tryz.f159.name, by decide, Tryz.func159.trans (congrArg some (by kernel_rfl))⟩
  f14 := ⟨Tryz.f160.name, by decide, Tryz.func160.trans (congrArg some (by kernel_rfl))⟩
  f15 := ⟨Tryz.f161.name, by decide, Tryz.func161.trans (congrArg some (by kernel_rfl))⟩
  f16 := ⟨Tryz.f162.name, by decide, Tryz.func162.trans (congrArg some (by kernel_rfl))⟩
  f17 := ⟨Tryz.f163.name, by decide, Tryz.func163.trans (congrArg some (by kernel_rfl))⟩
  f18 := ⟨Tryz.f164.name, by decide, Tryz.func164.trans (congrArg some (by kernel_rfl))⟩
  f19 := Tryz.func165.trans (congrArg some (by kernel_rfl))
  f20 := Tryz.func166.trans (congrArg some (by kernel_rfl))
  f30 := ⟨Tryz.f174.name, by decide, Tryz.func174.trans (congrArg some (by kernel_rfl))⟩
  f31 := Tryz.func175.trans (congrArg some (by kernel_rfl))
  f32 := Tryz.func176.trans (congrArg some (by kernel_rfl))
  f33 := ⟨Tryz.f177.name, by decide, Tryz.func177.trans (congrArg some (by kernel_rfl))⟩
  f34 := ⟨Tryz.f178.name, by decide, Tryz.func178.trans (congrArg some (by kernel_rfl))⟩
  f35 := ⟨Tryz.f179.name, by decide, Tryz.func179.trans (congrArg some (by kernel_rfl))⟩
  f40 := ⟨Tryz.f182.name, by decide, Tryz.func182.trans (congrArg some (by kernel_rfl))⟩
  t0 := Tryz.underlying0
  a0 := Tryz.isAgg0
  z0 := Tryz.sizeOf0
  v0 := Tryz.zeroValue0
  t3 := Tryz.underlying3
  a3 := Tryz.isAgg3
  z3 := Tryz.sizeOf3
  v3 := Tryz.zeroValue3
  t4 := Tryz.underlying4
  a4 := Tryz.isAgg4
  z4 := Tryz.sizeOf4
  v4 := Tryz.zeroValue4
  t5 := Tryz.underlying5
  a5 := Tryz.isAgg5
  z5 := Tryz.sizeOf5
  v5 := Tryz.zeroValue5
  t9 := Tryz.underlying9
  a9 := Tryz.isAgg9
  z9 := Tryz.sizeOf9
  v9 := Tryz.zeroValue9
  t22 := Tryz.underlying31
  a22 := Tryz.isAgg31
  z22 := Tryz.sizeOf31
  v22 := Tryz.zeroValue31
  t23 := Tryz.underlying31
  a23 := Tryz.isAgg31
  z23 := Tryz.sizeOf31
  v23 := Tryz.zeroValue31
  t25 := Tryz.underlying2
  a25 := Tryz.isAgg2
  z25 := Tryz.sizeOf2
  v25 := Tryz.zeroValue2
  t32 := Tryz.underlying154
  a32 := Tryz.isAgg154
  z32 := Tryz.sizeOf154
  v32 := Tryz.zeroValue154
  t35 := Tryz.underlying188
  a35 := Tryz.isAgg188
  z35 := Tryz.sizeOf188
  v35 := Tryz.zeroValue188
  t36 := Tryz.underlying189
  a36 := Tryz.isAgg189
  z36 := Tryz.sizeOf189
  v36 := Tryz.zeroValue189
  t41 := Tryz.underlying161
  a41 := Tryz.isAgg161
  z41 := Tryz.sizeOf161
  v41 := Tryz.zeroValue161
  t44 := Tryz.underlying143
  a44 := Tryz.isAgg143
  z44 := Tryz.sizeOf143
  v44 := Tryz.zeroValue143
  t46 := Tryz.underlying183
  a46 := Tryz.isAgg183
  z46 := Tryz.sizeOf183
  v46 := Tryz.zeroValue183
  t53 := Tryz.underlying200
  a53 := Tryz.isAgg200
  z53 := Tryz.sizeOf200
  v53 := Tryz.zeroValue200
  t57 := Tryz.underlying204
  a57 := Tryz.isAgg204
  z57 := Tryz.sizeOf204
  v57 := Tryz.zeroValue204
  t63 := Tryz.underlying207
  a63 := Tryz.isAgg207
  z63 := Tryz.sizeOf207
  v63 := Tryz.zeroValue207
  t64 := Tryz.underlying208
  a64 := Tryz.isAgg208
  z64 := Tryz.sizeOf208
  v64 := Tryz.zeroValue208 }
end Go.Proofs
namespace Go.Proofs.YtjmfdildnojknaaGreat
open Go.RowKit
open Go.SeqMath
open Go.ProdMath
open Go.WideElems (Fit rd rg rd_mk rg_of)
open Go.BatMath hiding AllB getD_lt take_all
def stR : Value → Option (DataW Unit × List MemPlace) := fun _ => some (.lit (.bool true), [])
def keyInt (e : Value × Value) : Int := match e.1 with | .int _ n => n | _ => 0
theorem rd_st {x : MapEntry} {n : Int} (hx : x.key = .int .i64 n) (h : (Lit.int .i64 n).wf = true) : rd Tryz.prog 2 stR x = some (.int .i64 n, .lit (.bool true)) := by
 unfold rd
 rw [hx, Maps.keyOf_int_mk Tryz.underlying2 h]
 rfl
theorem wf_of_key {n : Int} (h : ∃ l, keyOf Tryz.prog 2 (.int .i64 n) = some l) : (Lit.int .i64 n).wf = true := by
 obtain ⟨l, hl⟩ := h
 obtain ⟨x, hx, _, hw⟩ := Maps.keyOf_int_inv Tryz.underlying2 hl
 have e : n = x := by simpa using hx
 rw [e]
 exact hw
theorem ids_of {P : Program} {k : TypeId} {R : Value → Option (DataW Unit × List MemPlace)} (es : List MapEntry) (hrd : ∀ x ∈ es, rd P k R x = some (.int .i64 (keyInt (entryP x)), .lit (.bool true))) :
 es.map ((fun p : Lit × DataW Unit => Go.intOf p.1) ∘ rg P k R) = (es.map entryP).map keyInt := by
 rw [List.map_map]
 refine List.map_congr_left fun x hx => ?_
 show Go.intOf (rg P k R x).1 = keyInt (entryP x)
 rw [rg_of (hrd x hx)]
 rfl
theorem tc_owns {w : World} {km : Nat} {ms : List PM} (h : TcMap w km ms) (hL : ms.length ≤ 1000000) : ∃ D0 : DataW Unit, w.ownsMap Tryz.prog 2 stR km ms.length D0 ∧ (intKeys D0).Perm (ms.map (·.p.id)) ∧ Maps.size D0 = ms.length := by
 obtain ⟨es, clock, hb, hs, hq, hz⟩ := h
 have hlen : es.size = ms.length := by have := hq.length_eq; simpa using this
 have hes : ∀ x ∈ es.toList, ∃ n : Int, x.key = .int .i64 n ∧ (Lit.int .i64 n).wf = true := fun x hx => by
  obtain ⟨m, hm, e⟩ := List.mem_map.1 (hq.mem_iff.1 (List.mem_map.2 ⟨x, hx, rfl⟩))
  have e1 : x.key = .int .i64 m.p.id := (congrArg Prod.fst e).symm
  exact ⟨m.p.id, e1, wf_of_key (hz m hm)⟩
 have hrd : ∀ x ∈ es.toList, rd Tryz.prog 2 stR x = some (.int .i64 (keyInt (entryP x)), .lit (.bool true)) := fun x hx => by
  obtain ⟨n, hn, hw⟩ := hes x hx
  have e : keyInt (entryP x) = n := by unfold keyInt entryP; rw [hn]
  rw [e]
  exact rd_st hn hw
 refine ⟨_, ⟨es, clock, hb, ⟨by rw [hlen]; unfold maxLen; omega, hs, fun x hx => ⟨_, hrd x hx⟩⟩, Nat.le_of_eq hlen, rfl⟩, ?_, ?_⟩
 · show (((es.toList.map (rg Tryz.prog 2 stR)).foldr DataW.insert []).map fun p => Go.intOf p.1).Perm _
   refine ((Go.WideShapes.sorted_perm _).map _).trans ?_
   rw [List.map_map]
   have e1 := ids_of es.toList hrd
   rw [e1]
   exact (hq.map keyInt).trans (by rw [List.map_map]; exact List.Perm.refl _)
 show ((es.toList.map (rg Tryz.prog 2 stR)).foldr DataW.insert []).length = ms.length
 rw [DataW.length_sorted]
 simpa using hlen
theorem Tryz.sortsA (m : Nat) : AnyZI.SortsIn Tryz.prog Tryz.sortedA_ren Fence.wide m :=
 ⟨fun blk off cap ss W hH hblk hsz => callsIn_wide.2 (AnyM.slices_Sort_int Tryz.sortA blk off cap ss W hH hblk hsz),
  fun p cap W => callsIn_wide.2 (AnyM.slices_Sort_int_none Tryz.sortA p cap W)⟩
theorem tcKeys_any (mb : Option Nat) (W : World) : Calls Tryz.prog 83 #[.map mb] W fun e w' => e = .returned (.func (.func 119) #[] #[.pointer (some ⟨W.heap.size, 0, none⟩)]) ∧ w' = W.alloc (.cells #[.map mb] 110) :=
 (callsIn_wide (n := 6)).1 (AnyZI.keys_in Tryz.keysA Fence.wide 6 trivial rfl mb W)
theorem sort_ids {l : List Pd} (ha : Asc l) : (l.map (·.id)).mergeSort (fun x y => decide (x ≤ y)) = l.map (·.id) := by
 refine List.mergeSort_of_pairwise ?_
 rw [List.pairwise_map]
 exact ha.imp fun h => by simp; omega
def GivesIds (w : World) (ids : List Int) (e : Ending) (w' : World) : Prop := ∃ v, e = .returned v ∧ w'.ownsRow w.heap.size 2 1 v ids.length (ids.map (Value.int .i64)) ∧ Below w.heap.size w w'
theorem tcSorted_any (w : World) (km Bm : Nat) (ms : List PM) (h : TcMap w km ms) (hL : ms.length ≤ 1000000) (ha : Asc (pds ms)) (hBm : Bm < w.heap.size) (hm : w.cell? ⟨Bm, 0, none⟩ = some (.map (some km))) :
 Calls Tryz.prog 82 #[.func (.func 119) #[] #[.pointer (some ⟨Bm, 0, none⟩)]] w (GivesIds w ((pds ms).map (·.id))) := by
 obtain ⟨D0, hown, hperm, hsize⟩ := tc_owns h hL
 have hseq : SeqGives Fence.wide 3 Tryz.prog 119 #[.pointer (some ⟨Bm, 0, none⟩)] encZ (fun ss => ss.Perm (intKeys D0)) (Maps.size D0) w :=
  AnyZI.keys_gives (ρ := Tryz.keysA_ren) { Tryz.keysA with } Fence.wide _ trivial rfl (by omega) Bm km ms.length D0 w hBm hm hown
 have cS := AnyZI.sorted_in Tryz.sortedA Fence.wide 6 trivial trivial trivial trivial rfl (by omega) (Tryz.sortsA _) (enters_of Tryz.func118 (by kernel_rfl) rfl) 119 #[.pointer (some ⟨Bm, 0, none⟩)] trivial (enters_of Tryz.func119 (by kernel_rfl) rfl) _ _ (by rw [hsize]; unfold maxLen; omega) (by rw [hsize]; omega) _ hseq
 change CallsIn _ _ Tryz.prog 82 _ _ _ at cS
 refine ((callsIn_wide (n := 6)).1 cS).mono ?_
 rintro e w' ⟨v, ss, rfl, hS, hrow, _, hb⟩
 have hp : ss.Perm ((pds ms).map (·.id)) := hS.trans (by
  refine hperm.trans ?_
  unfold pds
  rw [List.map_map]
  exact List.Perm.refl _)
 have e1 : ss.mergeSort (fun x y => decide (x ≤ y)) = (pds ms).map (·.id) := (mergeSort_of_perm_i hp).trans (sort_ids ha)
 refine ⟨v, rfl, ?_, hb⟩
 rw [e1] at hrow
 have e2 : ss.length = ((pds ms).map (·.id)).length := hp.length_eq
 rw [e2] at hrow
 exact hrow
end Go.Proofs.YtjmfdildnojknaaGreat
namespace Go.Proofs.YtjmfdildnojknaaGreat
open Go.RowKit
open Go.SeqMath
open Go.ProdMath
open Go.BatMath hiding AllB getD_lt take_all
theorem RowAt.past_none {α : Type} {K : Kind α} {w w' : World} {ad : Option Addr} {len cap k : Nat} {l : List α} (h : RowAt K w ad len cap l) (hg : w.grownBy w' (some k)) (hk : ∀ j, w.cell? ⟨k, j, none⟩ = none) : RowAt K w' ad len cap l := by
 refine ⟨h.length, h.fits, h.room, ?_⟩
 rcases h.cells with h0 | ⟨b, off, e, hlt, hc⟩
 · exact .inl h0
 refine .inr ⟨b, off, e, Nat.lt_of_lt_of_le hlt hg.size, fun i x hi j u hj => hg.cell (hc i x hi j u hj) (fun e2 => ?_)⟩
 have h3 := hc i x hi j u hj
 have e3 : b = k := Option.some.inj e2
 rw [e3, hk] at h3
 cases h3
theorem cell_iterAs {α : Type} {P : Program} {t : TypeId} {f : α → Value × Value} {w : World} {km r : Nat} {ps dn lf : List α} (hr : RangeAs P t f w km r ps dn lf) (j : Nat) : w.cell? ⟨r, j, none⟩ = none := by
 obtain ⟨es, clock, since, seen, c0, _, _, _, _, h1, _⟩ := hr
 simp [World.cell?, h1]
theorem TcOk.past_iter {w w' : World} {kt km k2 r : Nat} {ms ps dn lf : List PM} (h : TcOk w kt km ms) (hr : RangeAs Tryz.prog 2 pmE w k2 r ps dn lf) (hg : w.grownBy w' (some r)) : TcOk w' kt km ms :=
 ⟨h.box.same (hg.block kt h.box.lt fun e => cells_iterAs hr h.box (Option.some.inj e)), h.map.same (hg.block km h.map.lt fun e => by
  obtain ⟨es, c, hb⟩ := h.map.is
  obtain ⟨es2, clock, since, seen, c0, _, _, _, _, h1, _⟩ := hr
  rw [Option.some.inj e, h1] at hb
  cases hb), fun m hm => (h.ins m hm).past_none hg (cell_iterAs hr)⟩
theorem RangeAs.fresh {α : Type} {P : Program} {t : TypeId} {f : α → Value × Value} {w : World} {km r : Nat} {ps dn lf lf' : List α} {p : α} (h : RangeAs P t f w km r ps dn lf) (hl : lf.Perm (p :: lf')) : ∀ q ∈ dn, (f q).1 ≠ (f p).1 := by
 have h1 := h.map.keys
 have h2 : ps.Perm (dn ++ (p :: lf')) := h.all.trans (hl.append_left dn)
 have h3 : ((dn ++ (p :: lf')).map fun p => (f p).1).Pairwise (· ≠ ·) := ((h2.map _).pairwise_iff (fun {_ _} h => Ne.symm h)).1 h1
 rw [List.map_append, List.pairwise_append] at h3
 intro q hq
 exact h3.2.2 _ (List.mem_map.2 ⟨q, hq, rfl⟩) _ (List.mem_map.2 ⟨p, by simp, rfl⟩)
theorem infoId : (Tryz.prog.info? 2).map (fun i => (i.zero, i.size, i.bytes)) = some (some (.int .i64 0), 1, 8) := by kernel_rfl
def idK : Kind Int := ⟨fun n => [.int .i64 n], 1, 2, 31⟩
theorem idK_ok : idK.Ok 8 where
 und := Tryz.underlying31
 info := by
  obtain ⟨i, hi, hz, hs, hb⟩ := info_parts infoId
  exact ⟨i, _, hi, hz, hs, hb, rfl⟩
 len := fun _ => rfl
 pos := by decide
 one := fun r u hu => by
  simp only [idK, List.mem_cons, List.not_mem_nil, or_false] at hu
  rcases hu with rfl <;> rfl
 few := by decide
theorem idK_all : ∀ l : List Int, idK.all l = l.map (Value.int .i64)
 | [] => rfl
 | n :: l => by
   have ih := idK_all l
   show [Value.int .i64 n] ++ idK.all l = _
   rw [ih]
   rfl
theorem ownRow_ids {w : World} {base : Nat} {v : Value} {ids : List Int} (h : w.ownsRow base 2 1 v ids.length (ids.map (Value.int .i64))) : OwnRow idK w base v ids := by
 unfold OwnRow
 rw [idK_all]
 exact h
structure AllW (l : List Pd) (j base : Nat) (u : Value) (os : List PM) (W : World) : Prop where
 own : OwnRow pdK W base u os
 ins : ∀ m ∈ os, LastAt W m ∧ ∀ a, m.ad = some a → a.block < W.heap.size ∧ u.ownBlock ≠ some a.block
 eq : pds os = l.take j
theorem AllW.on {l : List Pd} {j base : Nat} {u : Value} {os : List PM} {W W' : World} (h : AllW l j base u os W) (hb : Below W.heap.size W W') : AllW l j base u os W' :=
 ⟨h.own.on hb, fun m hm => ⟨(h.ins m hm).1.keep hb, fun a ha => ⟨Nat.lt_of_lt_of_le ((h.ins m hm).2 a ha).1 hb.size, ((h.ins m hm).2 a ha).2⟩⟩, h.eq⟩
def TcFresh (n : Nat) (ms : List PM) : Prop := ∀ m ∈ ms, ∀ a, m.ad = some a → n ≤ a.block
def AllF (n : Nat) (ms : List PM) (W : World) : Prop := ∀ m ∈ ms, ∀ a, m.ad = some a → n ≤ a.block ∧ a.block < W.heap.size
def GivesTcFresh (w : World) (l : List Pd) (e : Ending) (w' : World) : Prop :=
 ∃ kt km ps, e = .returned (.pointer (some ⟨kt, 0, none⟩)) ∧ TcOk w' kt km ps ∧ pds ps = l ∧ w.heap.size ≤ kt ∧ w.heap.size ≤ km ∧ Below w.heap.size w w' ∧ TcFresh w.heap.size ps
def GivesTcAll2 (w : World) (l : List Pd) (e : Ending) (w' : World) : Prop :=
 ∃ ad len cap os, e = .returned (.slice ad len cap) ∧ PdsAt w' ad len cap os ∧ pds os = l ∧ Below w.heap.size w w' ∧ (∀ a, ad = some a → w.heap.size ≤ a.block ∧ a.block < w'.heap.size) ∧ AllF w.heap.size os w'
theorem tcFold2_any (w : World) (ad : Option Addr) (len cap : Nat) (ms : List BM) (h : BatsAt w ad len cap ms) (hL : len ≤ 100000) (hok : BatsOk (bats ms)) :
 Calls Tryz.prog 88 #[.slice ad len cap] w (GivesTcFresh w (foldP [] (bats ms))) := by
 have H := qh h
 have hlen := h.row.length
 obtain ⟨bs, hbs⟩ := exq (bats ms)
 have hbl : bs.length = len := by rw [hbs]; unfold bats; rw [List.length_map]; exact hlen
 have HGET : Hid (∀ (i : Nat) m, ms[i]? = some m → bs[i]? = some m.b) := by
  intro i m hm
  rw [hbs]; unfold bats
  rw [List.getElem?_map, hm]; rfl
 rw [← hbs] at hok
 rw [← hbs]
 have HOK := qh hok
 have HBL := qh hbl
 clear h hbs hlen hok hbl
 go_enter Tryz.func88, Tryz.ntmps88
 go_wp2_with fail
 refine (tcNew_any w).mono ?_
 rintro e w1 ⟨kt, km, rfl, ht1, hb1, hk1, hk2⟩
 have HT1 := qh ht1
 have HB1 := qh hb1
 have HKT : Hid (w.heap.size ≤ kt ∧ w.heap.size ≤ km) := ⟨hk1, hk2⟩
 clear ht1 hb1 hk1 hk2
 go_wp2
 go_loopw [9] (fun v9 wr => ∃ j ps, v9 = .int .i64 ((j : Nat) : Int) ∧ j ≤ len ∧ Hid (TcOk wr kt km ps) ∧ Hid (pds ps = foldP [] (bs.take j)) ∧ Hid (Below w.heap.size w wr) ∧ Hid (TcFresh w.heap.size ps)) (fun v9 _ => len - (intOf v9).toNat)
 case atStart => exact ⟨0, [], rfl, Nat.zero_le _, HT1.out, rfl, HB1.out, fun m hm => by cases hm⟩
 obtain ⟨j, ps, rfl, hj, HT, HPS, HB, HFS⟩ := hrel
 clear HT1 HB1
 obtain ⟨wo, hwo⟩ := exq wr
 subst hwo
 by_cases hlt : j < len
 rotate_left
 · have hd : decide (j < len) = false := decide_eq_false hlt
   have hjl : j = len := by omega
   have HFIN : Hid (pds ps = foldP [] bs) := by
    show _ = _
    rw [HPS.out, hjl, ← HBL.out, List.take_length]
   clear HPS hjl
   go_wp2
   go_ret
   exact ⟨kt, km, ps, rfl, HT.out, HFIN.out, HKT.out.1, HKT.out.2, HB.out, HFS.out⟩
 have hd : decide (j < len) = true := decide_eq_true hlt
 have hjl : (j : Int) < (len : Int) := by omega
 obtain ⟨bk, off, m, rfl, hbk, hm, hrec, c0, c1, c2, c3, c4, c5, c6⟩ := (H.out.keep HB.out).get hlt
 have hbm := HGET.out j m hm
 have htk : bs.take (j + 1) = bs.take j ++ [m.b] := by
  rw [List.take_add_one, hbm]; rfl
 have HTK := qh htk
 obtain ⟨hk1, hk2, hk3⟩ := HOK.out m.b (List.mem_of_getElem? hbm)
 have HK1 := qh hk1
 have HFEW : Hid (fewP (pds ps)) := by rw [HPS.out]; exact foldP_few _ (fun p hp => by cases hp)
 have HASC : Hid (Asc (pds ps)) := by rw [HPS.out]; exact fold_asc _ asc_nil
 have HRC := qh hrec
 clear hbm htk hk1 hm hrec hbk
 go_upto_region 5 with fail
 obtain ⟨W1, hW1⟩ := exq (wo.alloc (.cells #[.int .i64 m.b.base, .int .i64 m.b.prod, .int .i64 m.b.epoch, .int .i64 m.b.seq, .bool m.b.txn, .int .i64 m.b.marker, .slice m.ad m.b.recs.length m.cap] 29))
 have hb1 := wbq hW1
 obtain ⟨K, hK⟩ := exq wo.heap.size
 have HX1 := bxq hW1 hK
 have HT1 := qh (HT.out.keep hb1)
 have HB1 := qh (HB.out.trans (hb1.mono HB.out.size))
 have HRC1 := qh (HRC.out.keep hb1)
 rw [← hW1, ← hK]
 clear hW1 hb1 hK c0 c1 c2 c3 c4 c5 c6
 obtain ⟨p0, p1, p2, p3, p4, p5, p6⟩ := HX1.out.cs
 obtain ⟨l', hl'⟩ : ∃ l', tapplyD (pds ps) m.b = l' := ⟨_, rfl⟩
 obtain ⟨dr, hdr⟩ : ∃ dr, tdropD (pds ps) m.b = dr := ⟨_, rfl⟩
 have CA := tcApply2_any W1 kt km ps HT1.out HASC.out HFEW.out m.b m.ad m.b.recs.length m.cap HRC1.out HK1.out hk3 hk2
 rw [hl', hdr] at CA
 have CAH := qh CA
 have HP2 : Hid (l' = foldP [] (bs.take (j + 1))) := by show _ = _; rw [HTK.out, foldP_snoc, ← HPS.out, hl']
 clear CA hl' hdr HPS HTK HFEW HASC HK1
 go_wp2_with fail
 refine CAH.out.mono ?_
 rintro e w2 ⟨d, ps2, rfl, hdd, ht2, hp2, hg2, hn2⟩
 have HT2 := qh ht2
 have HP3 : Hid (pds ps2 = foldP [] (bs.take (j + 1))) := by show _ = _; rw [hp2, HP2.out]
 have HFS2 : Hid (TcFresh w.heap.size ps2) := fun m hm a ha => by
  rcases hn2 m hm with h1 | h1
  · exact HFS.out m h1 a ha
  exact Nat.le_trans HB1.out.size (h1 a ha)
 have HB2 : Hid (Below w.heap.size w w2) := HB1.out.trans (below_grown hg2 HKT.out.2 HB1.out.size)
 clear ht2 hp2 hg2 hn2 HFS CAH p0 p1 p2 p3 p4 p5 p6 HT1 HX1 HP2 hdd HT HB HRC
 go_wp2
 go_roundw
 case rel => exact ⟨j + 1, ps2, rfl, by omega, HT2.out, HP3.out, HB2.out, HFS2.out⟩
 simp [intOf]; omega
theorem tcCopy2_any (w : World) (kt km : Nat) (ms : List PM) (h : TcOk w kt km ms) (hfew : fewP (pds ms)) :
 Calls Tryz.prog 67 #[.pointer (some ⟨kt, 0, none⟩)] w (GivesTcFresh w (pds ms)) := by
 have H := qh h
 have HF := qh hfew
 clear h hfew
 go_enter Tryz.func67, Tryz.ntmps67
 go_wp2_with fail
 refine (tcNew_any w).mono ?_
 rintro e w1 ⟨k2, m2, rfl, ht1, hb1, hk1, hk2⟩
 have HT1 := qh ht1
 have HK2 : Hid (w.heap.size ≤ k2 ∧ w.heap.size ≤ m2) := ⟨hk1, hk2⟩
 have H1 := qh (H.out.keep hb1)
 obtain ⟨w2, hrange, hrg, hb2, hs2⟩ := mapAs_range (P := Tryz.prog) tcMapT H1.out.map
 obtain ⟨rr, hrr⟩ := exq w1.heap.size
 rw [← hrr] at hrange hrg
 have HRR : Hid (w.heap.size ≤ rr) := by show _ ≤ _; rw [hrr]; exact hb1.size
 have HRG2 := qh hrg
 have HB2 := qh (hb1.trans (hb2.mono hb1.size))
 have HT2 := qh (HT1.out.keep hb2)
 have t0 := H1.out.box.c0
 clear ht1 hb1 hk1 hk2 hrg hb2 hs2 hrr HT1 H1
 go_wp2_with fail
 clear hrange t0
 go_loopw [] (fun wr => ∃ cs dn lf, Hid (RangeAs Tryz.prog 2 pmE wr km rr ms dn lf) ∧ Hid (TcOk wr k2 m2 cs) ∧ Hid (pds cs = pds dn) ∧ Hid (Below w.heap.size w wr) ∧ Hid (TcFresh w.heap.size cs)) (fun wr => wr.rangeLeft km rr)
 case atStart => exact ⟨[], [], ms, HRG2.out, HT2.out, rfl, HB2.out, fun m hm => by cases hm⟩
 obtain ⟨cs, dn, lf, HRG, HTC, HPC, HBL, HFS⟩ := hrel
 obtain ⟨w4, hw4⟩ := exq wr
 subst hw4
 clear HRG2 HB2 HT2
 rcases mapAs_next (P := Tryz.prog) HRG.out 0 with ⟨hl0, hnext⟩ | ⟨p, lf', w5, hlp, hpm, hnext, hrg5, hg5, hs5, hen⟩
 · have HLF : Hid (lf = []) := hl0
   clear hl0
   go_wp2
   go_ret
   have h1 := HRG.out.all
   rw [HLF.out, List.append_nil] at h1
   have h2 : (cs.map (·.p)).Perm (pds ms) := by
    have e : cs.map (·.p) = pds dn := HPC.out
    rw [e]
    exact h1.symm.map _
   obtain ⟨cs', h3, h4⟩ := perm_lift (·.p) (pds ms) cs h2
   exact ⟨k2, m2, cs', rfl, ⟨HTC.out.box, HTC.out.map.perm h3, fun m hm => HTC.out.ins m (h3.mem_iff.2 hm)⟩, h4, HK2.out.1, HK2.out.2, HBL.out, fun m hm => HFS.out m (h3.mem_iff.2 hm)⟩
 have HFR := qh (HRG.out.fresh hlp)
 simp only [pmE] at hnext hen
 have HRG5 := qh hrg5
 have HCNT := qh HRG.out.count
 have HCNTN := qh hlp.length_eq
 have HB5 : Hid (Below w.heap.size w w5) := HBL.out.trans (below_grown hg5 HRR.out HBL.out.size)
 have HTC5 := qh (HTC.out.past_iter HRG.out hg5)
 have HLA5 := qh ((H.out.ins p hpm).keep HB5.out)
 have hp5 := HF.out p.p (List.mem_map.2 ⟨p, hpm, rfl⟩)
 have HWF := qh (H.out.map)
 have HKEY : Hid (∃ l, keyOf Tryz.prog 2 (.int .i64 p.p.id) = some l) := by
  obtain ⟨_, _, _, _, _, hz⟩ := H.out.map
  exact hz p hpm
 obtain ⟨⟨pid, pep, pl, po⟩, pd, pc⟩ := p
 simp only at hnext hen hp5 HFR HLA5 HKEY
 obtain ⟨pn, hpn⟩ := exq pl.length
 rw [← hpn] at hnext hen hp5 HLA5
 have HPN := qh hpn
 clear hlp hrg5 hg5 hs5 hpm hpn HBL HRG HTC
 go_upto_region 5 with fail
 obtain ⟨W6, hW6⟩ := exq (w5.alloc (.cells #[.int .i64 pid, .int .i64 pep, .slice pd pn pc, .int .i64 po] 58))
 have hb := wbq hW6
 obtain ⟨P, hP⟩ := exq w5.heap.size
 have HP6 : Hid (PBox W6 P pid pep (.slice pd pn pc) po) := by rw [hW6, hP]; exact pbox_new w5 _ _ _ _
 have HR6 := qh (HRG5.out.on hb)
 have HB6 := qh (HB5.out.trans (hb.mono HB5.out.size))
 have HTC6 := qh (HTC5.out.keep hb)
 have HLA6 := qh (HLA5.out.keep hb)
 rw [← hW6, ← hP]
 clear hW6 hP hb hnext hen HRG5 HB5 HTC5 HLA5
 have KS : Hid (∀ V, Below W6.heap.size W6 V → (fun (V : World) => V.cell? ⟨k2, 0, none⟩ = some (.map (some m2)) ∧ V.cell? ⟨P, 0, none⟩ = some (.int .i64 pid) ∧ V.cell? ⟨P, 1, none⟩ = some (.int .i64 pep) ∧ V.cell? ⟨P, 2, none⟩ = some (.slice pd pn pc) ∧ V.cell? ⟨P, 3, none⟩ = some (.int .i64 po)) V) := fun V hV => ⟨(HTC6.out.keep hV).box.c0, (HP6.out.on hV).c0, (HP6.out.on hV).c1, (HP6.out.on hV).c2, (HP6.out.on hV).c3⟩
 refine zs [7] KS fun u3 HU3 hHeld => ?_
 refine zt 0 ?_
 refine zt 1 ?_
 refine zt 2 ?_
 refine zt 3 ?_
 refine zt 4 ?_
 refine zt 5 ?_
 refine zr 6 (fun C hC => ?_)
 go_simp
 refine (tcCopied_any u3 pid pep po pl pd pn pc (HLA6.out.keep HU3.out) (by omega)).mono ?_
 rintro e u4 ⟨xd, xc, rfl, hxo, hb4⟩
 simp only at hxo
 obtain ⟨ad3, cap3, e3, hxr, hxk⟩ := OwnRow.row trK_ok hxo rfl
 injection e3 with e31 e32 e33
 subst e31 e33
 have HU4 := qh (HU3.out.trans (hb4.mono HU3.out.size))
 have HXR4 := qh hxr
 have hpn4 := HPN.out
 simp only
 rw [← hpn4]
 have HXK4 : Hid (∀ a, xd = some a → w.heap.size ≤ a.block) := fun a ha => by
  have h1 := (hxk a ha).1
  have h2 := HU3.out.size
  have h3 := HB6.out.size
  omega
 clear hb4 hxr hxk hxo e32
 have hHeld := KS.out _ HU4.out
 refine zc hC hHeld ?_
 clear hC C
 obtain ⟨c, hc⟩ : ∃ c : PM, c = ⟨⟨pid, pep, pl, po⟩, xd, xc⟩ := ⟨_, rfl⟩
 have hT4 := HTC6.out.keep HU4.out
 have hfr : ∀ q ∈ cs, (pmE q).1 ≠ (pmE c).1 := fun q hq e => by
  have h1 : q.p ∈ pds dn := by rw [← HPC.out]; exact List.mem_map.2 ⟨q, hq, rfl⟩
  obtain ⟨q2, hq2, e2⟩ := List.mem_map.1 h1
  have h2 := HFR.out q2 hq2
  have h3 : (pmE q).1 = .int .i64 pid := by rw [e, hc]; rfl
  have h4 : Value.int .i64 q.p.id = .int .i64 pid := h3
  exact h2 (by show Value.int .i64 q2.p.id = .int .i64 pid; rw [e2]; exact h4)
 obtain ⟨u5, hput, hmap5, hg5, hs5⟩ := mapAs_put tcMapT keyI hT4.map c (by rw [hc]; exact HKEY.out) hfr
 have hput2 : (Instr.mapUpdate 110 (.map (some m2)) (.int .i64 pid) (.agg #[.int .i64 pid, .int .i64 pep, .slice xd pn xc, .int .i64 po])).run Tryz.prog u4 = .ok () u5 := by
  rw [hc] at hput
  rw [HPN.out]
  exact hput
 have HTZ : Hid (TcOk u5 k2 m2 (cs ++ [c])) := by
  refine ⟨hT4.box.past_map hg5 hT4.map.is, hmap5.perm (List.perm_append_singleton _ _).symm, fun m hm => ?_⟩
  rcases List.mem_append.1 hm with hm | hm
  · exact (hT4.ins m hm).past_map hg5 hT4.map.is
  rw [List.mem_singleton.1 hm, hc]
  exact RowAt.past_map HXR4.out hg5 hT4.map.is
 have HFZ : Hid (TcFresh w.heap.size (cs ++ [c])) := fun m hm => by
  rcases List.mem_append.1 hm with hm | hm
  · exact HFS.out m hm
  rw [List.mem_singleton.1 hm, hc]
  exact HXK4.out
 have HPZ : Hid (pds (cs ++ [c]) = pds (dn ++ [⟨⟨pid, pep, pl, po⟩, pd, pc⟩])) := by
  show _ = _
  have h1 := HPC.out
  unfold pds at h1 ⊢
  rw [List.map_append, List.map_append, h1, hc]
  rfl
 have HRZ : Hid (RangeAs Tryz.prog 2 pmE u5 km rr ms (dn ++ [⟨⟨pid, pep, pl, po⟩, pd, pc⟩]) lf') := by
  have hr4 := HR6.out.on HU4.out
  refine hr4.grown hg5 (fun e => ?_) (fun e => ?_)
  · have h1 := H.out.map.lt
    have h2 := HK2.out.2
    have := Option.some.inj e
    omega
  obtain ⟨es, clock, since, seen, c0, _, _, _, _, h1, _⟩ := hr4
  obtain ⟨es2, c2, h2⟩ := hT4.map.is
  rw [Option.some.inj e, h1] at h2
  cases h2
 have HBZ : Hid (Below w.heap.size w u5) := (HB6.out.trans (HU4.out.mono HB6.out.size)).trans (below_grown hg5 HK2.out.2 (HB6.out.trans (HU4.out.mono HB6.out.size)).size)
 clear hT4 hfr hput hmap5 hg5 hs5 hc hpn4
 refine zr 7 (fun C hC => ?_)
 go_simp
 refine zl hC ?_
 clear hC C
 refine zd ?_
 clear hHeld KS hput2
 go_wp2
 go_roundw
 case rel => exact ⟨cs ++ [c], dn ++ [(⟨⟨pid, pep, pl, po⟩, pd, pc⟩ : PM)], lf', HRZ.out, HTZ.out, HPZ.out, HBZ.out, HFZ.out⟩
 rw [HRZ.out.count, HCNT.out, HCNTN.out]
 simp
theorem tcAll2_any (w : World) (kt km : Nat) (ms : List PM) (h : TcOk w kt km ms) (ha : Asc (pds ms)) (hfew : fewP (pds ms)) (hL : ms.length ≤ 1000000) :
 Calls Tryz.prog 48 #[.pointer (some ⟨kt, 0, none⟩)] w (GivesTcAll2 w (pds ms)) := by
 have H := qh h
 have HF := qh hfew
 have HAS := qh ha
 have t0 := h.box.c0
 clear h hfew ha
 go_enter Tryz.func48, Tryz.ntmps48
 go_wp2_with fail
 refine (tcKeys_any (some km) w).mono ?_
 rintro e w1 ⟨rfl, hw1⟩
 have hb1 := wbq hw1
 obtain ⟨Bm, hBm⟩ := exq w.heap.size
 have HBM : Hid (w1.heap[Bm]? = some (.cells #[.map (some km)] 110 (0, 0))) := by show _ = _; rw [hw1, hBm]; exact heap_alloc_new w _
 have HB1 := qh hb1
 have H1 := qh (H.out.keep hb1)
 rw [← hBm]
 clear hw1 hb1 hBm t0
 go_wp2_with fail
 refine (tcSorted_any w1 km Bm ms H1.out.map hL HAS.out (lt_of_block HBM.out) (by rw [cell_of_row _ _ 0 _ _ _ HBM.out]; rfl)).mono ?_
 rintro e w2 ⟨v, rfl, hrow, hb2⟩
 obtain ⟨iad, icap, hv, hir, _⟩ := OwnRow.row (n := ms.length) idK_ok (ownRow_ids hrow) (by unfold pds; rw [List.length_map, List.length_map])
 subst hv
 have HIR := qh hir
 have HB2 := qh (HB1.out.trans (hb2.mono HB1.out.size))
 obtain ⟨n, hn⟩ := exq ms.length
 rw [← hn] at HIR hL
 rw [← hn]
 have HN := qh hn
 clear hrow hb2 hir hn HBM H1
 go_wp2
 go_loopw [3, 13] (fun v3 v13 wr => ∃ (j : Nat) (u : Value) (os : List PM), u = v3 ∧ v13 = .int .i64 (j : Int) ∧ j ≤ n ∧ Hid (AllW (pds ms) j w2.heap.size u os wr) ∧ Hid (Below w2.heap.size w2 wr) ∧ Hid (AllF w.heap.size os wr)) (fun _ v13 _ => n - (intOf v13).toNat)
 case atStart => exact ⟨0, _, [], rfl, rfl, Nat.zero_le _, ⟨ownRow_nil _ _ _, (fun m hm => by cases hm), rfl⟩, Below.refl _ _, fun m hm => by cases hm⟩
 obtain ⟨j, u, os, rfl, rfl, hj, HAW, HBL, HFS⟩ := hrel
 obtain ⟨w4, hw4⟩ := exq wr
 subst hw4
 have HW4 : Hid (Below w.heap.size w w4) := HB2.out.trans (HBL.out.mono HB2.out.size)
 by_cases hlt : j < n
 rotate_left
 · have hd : decide (j < n) = false := decide_eq_false hlt
   have hjn : j = n := by omega
   have HFIN : Hid (pds os = pds ms) := by
    show _ = _
    rw [HAW.out.eq, hjn, HN.out, List.take_of_length_le (by unfold pds; rw [List.length_map]; exact Nat.le_refl _)]
   clear hjn
   go_wp2
   go_ret
   obtain ⟨ad, cap, hv, hr, hk⟩ := OwnRow.row pdK_ok HAW.out.own rfl
   exact ⟨ad, os.length, cap, os, congrArg Ending.returned hv, ⟨hr, fun m hm => (HAW.out.ins m hm).1⟩, HFIN.out, HW4.out, (fun a ha => ⟨Nat.le_trans HB2.out.size (hk a ha).1, (hk a ha).2⟩), HFS.out⟩
 have hd : decide (j < n) = true := decide_eq_true hlt
 have hjl : (j : Int) < (n : Int) := by omega
 obtain ⟨bk, off, x, rfl, hbk, hx, hcell⟩ := (HIR.out.keep HBL.out).get hlt
 have hjm : j < ms.length := by have := HN.out; omega
 obtain ⟨m, hm⟩ : ∃ m, ms[j]? = some m := ⟨_, List.getElem?_eq_getElem hjm⟩
 have hxm : x = m.p.id := by
  unfold pds at hx
  rw [List.getElem?_map, List.getElem?_map, hm] at hx
  exact (Option.some.inj hx).symm
 subst hxm
 have c0 := hcell 0 (.int .i64 m.p.id) rfl
 have hmem := List.mem_of_getElem? hm
 have H4 := qh (H.out.keep HW4.out)
 have hlk := mapAs_some tcMapT keyI H4.out.map m hmem false
 simp only [pmE] at hlk
 have hp5 := HF.out m.p (List.mem_map.2 ⟨m, hmem, rfl⟩)
 have HLA := qh (H4.out.ins m hmem)
 have htk : (pds ms).take (j + 1) = (pds ms).take j ++ [m.p] := by
  have : (pds ms)[j]? = some m.p := by unfold pds; rw [List.getElem?_map, hm]; rfl
  rw [List.take_add_one, this]; rfl
 have HTK := qh htk
 have t0 := H4.out.box.c0
 rw [show idK.size = 1 from rfl, Nat.mul_one, Nat.add_zero] at c0
 obtain ⟨⟨pid, pep, pl, po⟩, pd, pc⟩ := m
 simp only [Bool.false_eq_true, if_false] at hlk hp5 HLA HTK c0
 obtain ⟨pn, hpn⟩ := exq pl.length
 have HLA2 : Hid (RowAt trK w4 pd pl.length pc pl) := HLA
 clear HLA
 have HLA := HLA2
 clear HLA2
 rw [← hpn] at hlk hp5 HLA
 have HPN := qh hpn
 clear hx hcell htk hm hmem hpn hjm hbk HAS
 go_wp2_with fail
 refine (tcCopied_any w4 pid pep po pl pd pn pc HLA.out (by omega)).mono ?_
 rintro e w5 ⟨ad2, cap2, rfl, ho, hb⟩
 simp only at ho
 obtain ⟨ad3, cap3, e3, hrow2, hown2⟩ := OwnRow.row trK_ok ho rfl
 injection e3 with e31 e32 e33
 subst e31 e33
 have HROW := qh hrow2
 have HS45 : Hid (w4.heap.size ≤ w5.heap.size) := hb.size
 have HW4S : Hid (w.heap.size ≤ w4.heap.size) := HW4.out.size
 have HOWN2 : Hid (∀ a, ad2 = some a → w4.heap.size ≤ a.block ∧ a.block < w5.heap.size) := fun a ha => ⟨by have := (hown2 a ha).1; omega, (hown2 a ha).2⟩
 have HAW5 := qh (HAW.out.on hb)
 have HB5 := qh (HBL.out.trans (hb.mono HBL.out.size))
 have HU5 : Hid (∀ k, u.ownBlock = some k → k < w4.heap.size) := fun k hk => (HAW.out.own.lt k hk).2
 clear ho hb hrow2 hown2 e32 hlk t0 c0 HLA H4 HAW HBL
 simp only
 obtain ⟨c, hc⟩ : ∃ c : PM, c = ⟨⟨pid, pep, pl, po⟩, ad2, cap2⟩ := ⟨_, rfl⟩
 obtain ⟨W6, hW6⟩ := exq (w5.alloc (.cells #[.int .i64 pid, .int .i64 pep, .slice ad2 pl.length cap2, .int .i64 po] 58))
 have hb6 := wbq hW6
 have HLIT : Hid (RowAt pdK W6 (some ⟨w5.heap.size, 0, none⟩) 1 1 [c]) := by
  show RowAt _ _ _ _ _ _
  rw [hW6]
  exact rowAt_lit pdK_ok w5 [c] (by simp) _ (by rw [hc]; rfl) 1 rfl
 have HAW6 := qh (HAW5.out.on hb6)
 have HB6 := qh (HB5.out.trans (hb6.mono HB5.out.size))
 have hosl : os.length ≤ 1000000 := by
  have h1 := congrArg List.length HAW6.out.eq
  unfold pds at h1
  rw [List.length_take, List.length_map, List.length_map] at h1
  have := HN.out
  omega
 have HW6 := qh hW6
 have HC := qh hc
 have HROW6 := qh (HROW.out.keep hb6)
 have HS6 : Hid (w5.heap.size ≤ W6.heap.size) := hb6.size
 have HS56 : Hid (w4.heap.size ≤ W6.heap.size) := Nat.le_trans HS45.out hb6.size
 clear hb6 hc hW6
 go_wp2_with (at_builtin; rw [← HW6.out]; refine list_row (by rfl) pdK_ok (.tmp 17) (.tmp 25) rfl w2.heap.size os [c] u rfl HAW6.out.own HB6.out.size (some ⟨w5.heap.size, 0, none⟩) 1 1 rfl HLIT.out (by omega) ?_)
 intro v7 w7 hap
 have HFS7 : Hid (AllF w.heap.size (os ++ [c]) w7) := fun m hm a ha => by
  rcases List.mem_append.1 hm with hm | hm
  · exact ⟨(HFS.out m hm a ha).1, Nat.lt_of_lt_of_le (HFS.out m hm a ha).2 (Nat.le_trans HS56.out hap.2.1.size)⟩
  rw [List.mem_singleton.1 hm, HC.out] at ha
  have h4 := HOWN2.out a ha
  have h5 := HS6.out
  have h6 := hap.2.1.size
  have h7 := HW4S.out
  exact ⟨by omega, by omega⟩
 have HAW7 : Hid (AllW (pds ms) (j + 1) w2.heap.size v7 (os ++ [c]) w7) := by
  refine ⟨hap.1, fun m hm => ?_, ?_⟩
  · rcases List.mem_append.1 hm with hm | hm
    · obtain ⟨h1, h2⟩ := HAW6.out.ins m hm
      refine ⟨h1.grown hap.2.1 fun a ha e => (h2 a ha).2 e.symm, fun a ha => ⟨Nat.lt_of_lt_of_le (h2 a ha).1 hap.2.1.size, fun e => ?_⟩⟩
      rcases hap.2.2.2 _ e with h3 | h3
      · exact (h2 a ha).2 h3
      have := (h2 a ha).1; omega
    rw [List.mem_singleton.1 hm]
    have h4 : ∀ a, c.ad = some a → w4.heap.size ≤ a.block ∧ a.block < w5.heap.size := by rw [HC.out]; exact HOWN2.out
    refine ⟨?_, fun a ha => ⟨Nat.lt_of_lt_of_le (Nat.lt_of_lt_of_le (h4 a ha).2 HS6.out) hap.2.1.size, fun e => ?_⟩⟩
    · have h5 : LastAt W6 c := by rw [HC.out]; exact HROW6.out
      refine h5.grown hap.2.1 fun a ha e => ?_
      have h6 := HU5.out _ e.symm
      have := (h4 a ha).1
      omega
    rcases hap.2.2.2 _ e with h3 | h3
    · have h6 := HU5.out _ h3
      have := (h4 a ha).1
      omega
    have := (h4 a ha).2
    have := HS6.out
    omega
  unfold pds
  rw [List.map_append]
  have h7 := HAW6.out.eq
  unfold pds at h7 HTK
  rw [h7, HTK.out, HC.out]
  rfl
 have HB7 : Hid (Below w2.heap.size w2 w7) := HB6.out.grown hap.2.1 HB6.out.size fun k hk => (HAW6.out.own.lt k hk).1
 clear hap HAW5 HAW6 HB5 HB6 HLIT HW6 HROW HROW6
 go_wp2
 go_roundw
 case rel => exact ⟨j + 1, v7, _, rfl, rfl, by omega, HAW7.out, HB7.out, HFS7.out⟩
 simp [intOf]; omega
end Go.Proofs.YtjmfdildnojknaaGreat
namespace Go.Proofs.YtjmfdildnojknaaGreat
open Go.RowKit
open Go.FoMath
open Go.ProdMath
open Go.BatMath hiding AllB getD_lt take_all In64
def McBox (w : World) (k : Nat) (c s : Int) (v : Value) (kt : Nat) (z : Int) : Prop := w.heap[k]? = some (.cells #[.int .i64 c, .int .i64 s, v, .pointer (some ⟨kt, 0, none⟩), .int .i64 z] 88 (0, 0))
section
variable {w w' : World} {k kt : Nat} {c s z : Int} {v : Value}
theorem McBox.c0 (h : McBox w k c s v kt z) : w.cell? ⟨k, 0, none⟩ = some (.int .i64 c) := by rw [cell_of_row _ _ 0 _ _ _ h]; rfl
theorem McBox.c1 (h : McBox w k c s v kt z) : w.cell? ⟨k, 1, none⟩ = some (.int .i64 s) := by rw [cell_of_row _ _ 1 _ _ _ h]; rfl
theorem McBox.c2 (h : McBox w k c s v kt z) : w.cell? ⟨k, 2, none⟩ = some v := by rw [cell_of_row _ _ 2 _ _ _ h]; rfl
theorem McBox.c3 (h : McBox w k c s v kt z) : w.cell? ⟨k, 3, none⟩ = some (.pointer (some ⟨kt, 0, none⟩)) := by rw [cell_of_row _ _ 3 _ _ _ h]; rfl
theorem McBox.c4 (h : McBox w k c s v kt z) : w.cell? ⟨k, 4, none⟩ = some (.int .i64 z) := by rw [cell_of_row _ _ 4 _ _ _ h]; rfl
theorem McBox.free (h : McBox w k c s v kt z) (j : Nat) : w.frozen? ⟨k, j, none⟩ = false := frozen_of_row w k j _ _ h
theorem McBox.lt (h : McBox w k c s v kt z) : k < w.heap.size := lt_of_block h
theorem McBox.same (h : McBox w k c s v kt z) (he : w'.heap[k]? = w.heap[k]?) : McBox w' k c s v kt z := he.trans h
theorem McBox.on (h : McBox w k c s v kt z) (hb : Below w.heap.size w w') : McBox w' k c s v kt z := h.same (hb.block k h.lt)
theorem McBox.s1 (h : McBox w k c s v kt z) (n : Int) : McBox (w.setCell ⟨k, 1, none⟩ (.int .i64 n)) k c n v kt z := box_set h 1 _
theorem McBox.s2 (h : McBox w k c s v kt z) (u : Value) : McBox (w.setCell ⟨k, 2, none⟩ u) k c s u kt z := box_set h 2 _
theorem McBox.s3 (h : McBox w k c s v kt z) (q : Nat) : McBox (w.setCell ⟨k, 3, none⟩ (.pointer (some ⟨q, 0, none⟩))) k c s v q z := box_set h 3 _
theorem McBox.s4 (h : McBox w k c s v kt z) (n : Int) : McBox (w.setCell ⟨k, 4, none⟩ (.int .i64 n)) k c s v kt n := box_set h 4 _
end
structure McL (w : World) (v : Value) (ms : List BM) : Prop where
 own : OwnRow batK w 0 v ms
 ins : RecssAt w ms
 old : ∀ m ∈ ms, ∀ a, m.ad = some a → a.block < w.heap.size ∧ v.ownBlock ≠ some a.block
 str : NoStr w v
def FootL (v : Value) (ms : List BM) (j : Nat) : Prop := v.ownBlock = some j ∨ ∃ m ∈ ms, ∃ a, m.ad = some a ∧ a.block = j
def FootT (kt km : Nat) (ps : List PM) (j : Nat) : Prop := j = kt ∨ j = km ∨ ∃ p ∈ ps, p.p.last.length ≠ 0 ∧ ∃ a, p.ad = some a ∧ a.block = j
section
variable {w w' : World} {v : Value} {ms : List BM} {j kt km : Nat} {ps : List PM} {G : Nat → Prop}
theorem McL.lt (h : McL w v ms) (hj : FootL v ms j) : j < w.heap.size := by
 rcases hj with h1 | ⟨m, hm, a, ha, rfl⟩
 · exact (h.own.lt j h1).2
 exact (h.old m hm a ha).1
theorem McL.kept (h : McL w v ms) (hk : Kept w w' G) (hd : ∀ j, FootL v ms j → ¬ G j) : McL w' v ms :=
 ⟨h.own.same fun q hq => hk.block q (h.own.lt q hq).2 (hd q (.inl hq)), fun m hm => RecsAt.kept hk (h.ins m hm) fun a ha => hd _ (.inr ⟨m, hm, a, ha, rfl⟩), fun m hm a ha => ⟨Nat.lt_of_lt_of_le (h.old m hm a ha).1 hk.size, (h.old m hm a ha).2⟩, h.str.same fun q hq => hk.block q (h.own.lt q hq).2 (hd q (.inl hq))⟩
theorem McL.on (h : McL w v ms) (hb : Below w.heap.size w w') : McL w' v ms := h.kept (Kept.of_below hb (F := fun _ => False)) fun _ _ h => h
theorem McL.at (h : McL w v ms) : ∃ ad cap, v = .slice ad ms.length cap ∧ BatsAt w ad ms.length cap ms ∧ ∀ a, ad = some a → FootL v ms a.block := by
 obtain ⟨ad, cap, h1, h2, h3⟩ := h.own.at batK_ok
 refine ⟨ad, cap, h1, ⟨h2, h.ins⟩, fun a ha => .inl ?_⟩
 rw [ha] at h1
 rw [h1]
 rcases h.own.2 with ⟨e, _⟩ | ⟨g, cp, cur, e, _⟩
 · rw [h1] at e
   injection e with e1 e2 e3
   cases e1
 rw [h1] at e
 injection e with e1 e2 e3
 injection e1 with e1
 rw [e1]
 rfl
theorem McL.put {v' : Value} {m : BM} (h : McL w v ms) (hap : Appended batK w 0 v (ms ++ [m]) v' w') (hns : NoStr w' v') (hr : RecAt w m) (hn : ∀ a, m.ad = some a → a.block < w.heap.size ∧ v.ownBlock ≠ some a.block) : McL w' v' (ms ++ [m]) := by
 have hk : Kept w w' (fun q => v.ownBlock = some q) := Kept.of_own hap.2.1 fun q hq => .inl hq
 have key : ∀ x ∈ ms ++ [m], RecAt w x ∧ ∀ a, x.ad = some a → a.block < w.heap.size ∧ v.ownBlock ≠ some a.block := fun x hx => by
  rcases List.mem_append.1 hx with hx | hx
  · exact ⟨h.ins x hx, h.old x hx⟩
  rw [List.mem_singleton.1 hx]; exact ⟨hr, hn⟩
 refine ⟨hap.1, fun x hx => RecsAt.kept hk (key x hx).1 fun a ha => ((key x hx).2 a ha).2, fun x hx a ha => ⟨Nat.lt_of_lt_of_le ((key x hx).2 a ha).1 hap.2.1.size, fun e => ?_⟩, hns⟩
 rcases hap.2.2.2 _ e with h3 | h3
 · exact ((key x hx).2 a ha).2 h3
 have := ((key x hx).2 a ha).1; omega
theorem tc_lt (h : TcOk w kt km ps) (hj : FootT kt km ps j) : j < w.heap.size := by
 rcases hj with rfl | rfl | ⟨p, hp, h0, a, ha, rfl⟩
 · exact h.box.lt
 · exact h.map.lt
 exact (h.ins p hp).lt (by omega) a ha
theorem tc_kept (h : TcOk w kt km ps) (hk : Kept w w' G) (hd : ∀ j, FootT kt km ps j → ¬ G j) : TcOk w' kt km ps :=
 tcOk_kept h hk (hd _ (.inl rfl)) (hd _ (.inr (.inl rfl))) fun m hm => by
  by_cases h0 : m.p.last.length = 0
  · exact .inl h0
  exact .inr fun a ha => hd _ (.inr (.inr ⟨m, hm, h0, a, ha, rfl⟩))
theorem footT_fresh {n : Nat} (h : TcFresh n ps) (hkt : n ≤ kt) (hkm : n ≤ km) (hj : FootT kt km ps j) : n ≤ j := by
 rcases hj with rfl | rfl | ⟨p, hp, _, a, ha, rfl⟩
 · exact hkt
 · exact hkm
 exact h p hp a ha
end
structure McAt (w : World) (k kt km : Nat) (v : Value) (ms : List BM) (ps : List PM) (c s : Int) : Prop where
 box : McBox w k c s v kt (bytesD (bats ms))
 list : McL w v ms
 tab : TcOk w kt km ps
 eq : pds ps = foldP [] (bats ms)
 kL : ¬ FootL v ms k
 kT : ¬ FootT kt km ps k
 LT : ∀ j, FootL v ms j → ¬ FootT kt km ps j
 cap : 1 ≤ c ∧ c ≤ 1073741824
def McFoot (k kt km : Nat) (v : Value) (ms : List BM) (ps : List PM) (j : Nat) : Prop := j = k ∨ FootL v ms j ∨ FootT kt km ps j
section
variable {w w' : World} {k kt km : Nat} {v : Value} {ms : List BM} {ps : List PM} {c s : Int} {j : Nat} {G : Nat → Prop}
theorem McAt.lt (h : McAt w k kt km v ms ps c s) (hj : McFoot k kt km v ms ps j) : j < w.heap.size := by
 rcases hj with rfl | h1 | h1
 · exact h.box.lt
 · exact h.list.lt h1
 exact tc_lt h.tab h1
theorem McAt.kept (h : McAt w k kt km v ms ps c s) (hk : Kept w w' G) (hd : ∀ j, McFoot k kt km v ms ps j → ¬ G j) : McAt w' k kt km v ms ps c s :=
 ⟨h.box.same (hk.block k h.box.lt (hd k (.inl rfl))), h.list.kept hk fun j hj => hd j (.inr (.inl hj)), tc_kept h.tab hk fun j hj => hd j (.inr (.inr hj)), h.eq, h.kL, h.kT, h.LT, h.cap⟩
theorem McAt.on (h : McAt w k kt km v ms ps c s) (hb : Below w.heap.size w w') : McAt w' k kt km v ms ps c s := h.kept (Kept.of_below hb (F := fun _ => False)) fun _ _ h => h
end
def McR : LogP := fun F w a c s bs => ∃ k kt km v ms ps, a = ⟨k, 0, none⟩ ∧ bats ms = bs ∧ McAt w k kt km v ms ps c s ∧ ∀ j, F j ↔ McFoot k kt km v ms ps j
theorem mcR_lt (F : Nat → Prop) (W : World) (a : Addr) (c s : Int) (bs : List Bat) (h : McR F W a c s bs) : ∀ k, F k → k < W.heap.size := by
 obtain ⟨k, kt, km, v, ms, ps, rfl, rfl, h1, h2⟩ := h
 exact fun j hj => h1.lt ((h2 j).1 hj)
theorem mcR_kept (F G : Nat → Prop) (W W' : World) (a : Addr) (c s : Int) (bs : List Bat) (h : McR F W a c s bs) (hk : Kept W W' G) (hd : ∀ k, F k → ¬ G k) : McR F W' a c s bs := by
 obtain ⟨k, kt, km, v, ms, ps, rfl, rfl, h1, h2⟩ := h
 exact ⟨k, kt, km, v, ms, ps, rfl, rfl, h1.kept hk fun j hj => hd j ((h2 j).2 hj), h2⟩
section
variable {w w' : World} {k kt km kt' km' : Nat} {v v' : Value} {ms ms' : List BM} {ps ps' : List PM} {c s s' : Int} {F : Nat → Prop} {r : Value} {bs' : List Bat}
theorem turns_mk (hF : ∀ j, F j ↔ McFoot k kt km v ms ps j) (h : McAt w' k kt' km' v' ms' ps' c s') (hb : bats ms' = bs') (hk : Kept w w' (McFoot k kt km v ms ps)) (hf : ∀ j, McFoot k kt' km' v' ms' ps' j → McFoot k kt km v ms ps j ∨ w.heap.size ≤ j) : LTurns McR F w ⟨k, 0, none⟩ c s' bs' r (.returned r) w' :=
 ⟨McFoot k kt' km' v' ms' ps', rfl, ⟨k, kt', km', v', ms', ps', rfl, hb, h, fun _ => Iff.rfl⟩, hk.more fun j hj => (hF j).2 hj, fun j hj => (hf j hj).imp_left (hF j).2⟩
theorem turns_same (hF : ∀ j, F j ↔ McFoot k kt km v ms ps j) (h : McAt w k kt km v ms ps c s) (hb : bats ms = bs') (hbw : Below w.heap.size w w') : LTurns McR F w ⟨k, 0, none⟩ c s bs' r (.returned r) w' :=
 turns_mk hF (h.on hbw) hb (Kept.of_below hbw) fun j hj => .inl hj
end
def GivesRecClone (w : World) (l : List Rc) (e : Ending) (w' : World) : Prop := ∃ ad cap, e = .returned (.slice ad l.length cap) ∧ OwnRow recK w' w.heap.size (.slice ad l.length cap) l ∧ Below w.heap.size w w'
theorem recClone_any (w : World) (ad : Option Addr) (len cap : Nat) (l : List Rc) (hr : RowAt recK w ad len cap l) (hl : len ≤ 1000000) : Calls Tryz.prog 85 #[.slice ad len cap] w (GivesRecClone w l) := by
 have hroom := hr.room
 have hlen := hr.length
 have HR := qh hr
 clear hr
 cases ad with
 | none =>
   have hc := hroom rfl
   have hfits := HR.out.fits
   have h0 : len = 0 := by omega
   subst hc
   subst h0
   obtain rfl : l = [] := List.eq_nil_of_length_eq_zero hlen
   have hnil : ∀ W, (binOp .eql 27 (.slice none 0 0) (.slice none 0 0)).run Tryz.prog W = .ok (.bool true) W := fun W => Lib.run_eql_slice_nil (P := Tryz.prog) W 27 84 none 0 0 0 0 Tryz.underlying27
   go_enter Tryz.func85, Tryz.ntmps85
   go_wp2
   go_ret
   exact ⟨none, 0, rfl, ownRow_nil _ _ _, Below.refl _ _⟩
 | some a =>
   have hnil : ∀ W, (binOp .eql 27 (.slice (some a) len cap) (.slice none 0 0)).run Tryz.prog W = .ok (.bool false) W := fun W => Lib.run_eql_slice_nil (P := Tryz.prog) W 27 84 (some a) len cap 0 0 Tryz.underlying27
   have HL := qh hlen
   clear hroom hlen
   go_enter Tryz.func85, Tryz.ntmps85
   go_wp2_with (at_builtin; refine list_row (by rfl) recK_ok (.tmp 5) (.tmp 6) rfl w.heap.size [] l _ rfl (ownRow_lit recK_ok w w.heap.size [] (Nat.le_refl _) (by simp) _ rfl 0 rfl) (by simp) (some a) len cap rfl (HR.out.keep (bal w _)) (by rw [List.length_nil]; omega) ?_)
   rintro v' w' hap
   have HAP := qh hap
   clear hap
   go_wp2
   go_ret
   have h1 := HAP.out
   obtain ⟨ad', cap', rfl, hr', hk'⟩ := OwnRow.row recK_ok h1.1 rfl
   refine ⟨ad', cap', rfl, h1.1, ?_⟩
   exact appended_below h1 (ownRow_lit recK_ok w w.heap.size [] (Nat.le_refl _) (by simp) _ rfl 0 rfl) (bal w _) (Nat.le_refl _) (by simp)
def GivesBatClone (w : World) (l : List BM) (e : Ending) (w' : World) : Prop := ∃ ad cap, e = .returned (.slice ad l.length cap) ∧ OwnRow batK w' w.heap.size (.slice ad l.length cap) l ∧ NoStr w' (.slice ad l.length cap) ∧ Below w.heap.size w w'
theorem batClone_any (w : World) (ad : Option Addr) (len cap : Nat) (l : List BM) (hr : RowAt batK w ad len cap l) (hl : len ≤ 1000000) : Calls Tryz.prog 90 #[.slice ad len cap] w (GivesBatClone w l) := by
 have hroom := hr.room
 have hlen := hr.length
 have HR := qh hr
 clear hr
 cases ad with
 | none =>
   have hc := hroom rfl
   have hfits := HR.out.fits
   have h0 : len = 0 := by omega
   subst hc
   subst h0
   obtain rfl : l = [] := List.eq_nil_of_length_eq_zero hlen
   have hnil : ∀ W, (binOp .eql 42 (.slice none 0 0) (.slice none 0 0)).run Tryz.prog W = .ok (.bool true) W := fun W => Lib.run_eql_slice_nil (P := Tryz.prog) W 42 29 none 0 0 0 0 Tryz.underlying42
   go_enter Tryz.func90, Tryz.ntmps90
   go_wp2
   go_ret
   exact ⟨none, 0, rfl, ownRow_nil _ _ _, noStr_nil _, Below.refl _ _⟩
 | some a =>
   have hnil : ∀ W, (binOp .eql 42 (.slice (some a) len cap) (.slice none 0 0)).run Tryz.prog W = .ok (.bool false) W := fun W => Lib.run_eql_slice_nil (P := Tryz.prog) W 42 29 (some a) len cap 0 0 Tryz.underlying42
   have HL := qh hlen
   clear hroom hlen
   go_enter Tryz.func90, Tryz.ntmps90
   go_wp2_with (at_builtin; refine list_bat (by rfl) (.tmp 5) (.tmp 6) rfl w.heap.size [] l _ rfl (ownRow_lit batK_ok w w.heap.size [] (Nat.le_refl _) (by simp) _ rfl 0 rfl) (noStr_lit w [] _ rfl 0 0) (by simp) (some a) len cap rfl (HR.out.keep (bal w _)) (by rw [List.length_nil]; omega) ?_)
   rintro v' w' hap hns
   have HNS := qh hns
   clear hns
   have HAP := qh hap
   clear hap
   go_wp2
   go_ret
   have h1 := HAP.out
   obtain ⟨ad', cap', rfl, hr', hk'⟩ := OwnRow.row batK_ok h1.1 rfl
   refine ⟨ad', cap', rfl, h1.1, HNS.out, ?_⟩
   exact appended_below h1 (ownRow_lit batK_ok w w.heap.size [] (Nat.le_refl _) (by simp) _ rfl 0 rfl) (bal w _) (Nat.le_refl _) (by simp)
theorem resultsMcCopied {tmps : Array Value} {B : Nat} {W : World} {b0 b1 b2 b3 : Int} {b4 : Bool} {b5 : Int} {v : Value} (h : BoxAt W B b0 b1 b2 b3 b4 b5 v) (ht : tmps.getD 2 undef = .pointer (some ⟨B, 0, none⟩)) :
 (results Tryz.f49 tmps).run Tryz.prog W = .ok (.agg #[.int .i64 b0, .int .i64 b1, .int .i64 b2, .int .i64 b3, .bool b4, .int .i64 b5, v]) W := by
 rw [results_cell_one (p := 2) (ty := 29) Tryz.results49, ht]
 have hl := run_loadVar_row (P := Tryz.prog) W B 29 29 _ (0, 0) _ h Tryz.underlying29 rfl (by kernel_rfl)
 simp only [asAddr, Sem.run_pure, Result.andThen, hl]
def GivesCop (w : World) (b : Bat) (e : Ending) (w' : World) : Prop :=
 ∃ ad cap, e = .returned (.agg #[.int .i64 b.base, .int .i64 b.prod, .int .i64 b.epoch, .int .i64 b.seq, .bool b.txn, .int .i64 b.marker, .slice ad b.recs.length cap]) ∧ RecsAt w' ad b.recs.length cap b.recs ∧ (∀ a, ad = some a → w.heap.size ≤ a.block ∧ a.block < w'.heap.size) ∧ Below w.heap.size w w'
theorem mcCopied_any (w : World) (b : Bat) (rd : Option Addr) (rn rc : Nat) (hr : RecsAt w rd rn rc b.recs) (hn : rn ≤ 1000000) :
 Calls Tryz.prog 49 #[.agg #[.int .i64 b.base, .int .i64 b.prod, .int .i64 b.epoch, .int .i64 b.seq, .bool b.txn, .int .i64 b.marker, .slice rd rn rc]] w (GivesCop w b) := by
 obtain ⟨b0, b1, b2, b3, b4, b5, recs⟩ := b
 simp only at hr
 simp only
 obtain ⟨W0, hW0⟩ : ∃ W0, W0 = ((w.alloc (.cells #[.int .i64 b0, .int .i64 b1, .int .i64 b2, .int .i64 b3, .bool b4, .int .i64 b5, .slice rd rn rc] 29)).alloc (.cells #[.int .i64 0, .int .i64 0, .int .i64 0, .int .i64 0, .bool false, .int .i64 0, .slice none 0 0] 29)) := ⟨_, rfl⟩
 have HB0 : Hid (Below w.heap.size w W0) := by rw [hW0]; exact (bal _ _).alloc (by simp) _
 have HP0 : Hid (BoxAt W0 w.heap.size b0 b1 b2 b3 b4 b5 (.slice rd rn rc)) := by
  show BoxAt _ _ _ _ _ _ _ _ _
  rw [hW0]
  exact (boxAt_new w b0 b1 b2 b3 b4 b5 (.slice rd rn rc)).keep (bal _ _) (by simp)
 have HQ0 : Hid (BoxAt W0 (w.heap.size + 1) 0 0 0 0 false 0 (.slice none 0 0)) := by
  show BoxAt _ _ _ _ _ _ _ _ _
  rw [hW0]
  have h1 := boxAt_new (w.alloc (.cells #[.int .i64 b0, .int .i64 b1, .int .i64 b2, .int .i64 b3, .bool b4, .int .i64 b5, .slice rd rn rc] 29)) 0 0 0 0 false 0 (.slice none 0 0)
  rw [show (w.alloc (.cells #[.int .i64 b0, .int .i64 b1, .int .i64 b2, .int .i64 b3, .bool b4, .int .i64 b5, .slice rd rn rc] 29)).heap.size = w.heap.size + 1 by simp] at h1
  exact h1
 have HS0 : Hid (W0.heap.size = w.heap.size + 2) := by show _ = _; rw [hW0]; simp
 have HL0 := qh (recsAt_row.1 (hr.keep HB0.out))
 clear hr
 have HW0 := qh hW0
 clear hW0
 obtain ⟨B1, hB1⟩ := exq w.heap.size
 obtain ⟨B2, hB2⟩ := exq (w.heap.size + 1)
 have HBN : Hid (B1 = w.heap.size ∧ B2 = w.heap.size + 1) := ⟨hB1, hB2⟩
 rw [← hB1] at HP0
 rw [← hB2] at HQ0
 go_enter Tryz.func49, Tryz.ntmps49
 go_upto_region 1 with fail
 rw [← HW0.out, ← hB2, ← hB1]
 clear HW0 hB1 hB2
 have q6 := HP0.out.c6
 have g6 := HP0.out.free 6
 go_wp2_with fail
 refine (recClone_any W0 rd rn rc recs HL0.out hn).mono ?_
 rintro e w1 ⟨ad1, cap1, rfl, ho, hb⟩
 have HO := qh ho
 have HB1 := qh (HB0.out.trans (hb.mono HB0.out.size))
 have HP1 := qh (HP0.out.on hb)
 have HQ1 := qh (HQ0.out.on hb)
 clear ho hb q6 g6 HP0 HQ0
 have q6 := HP1.out.c6
 have g6 := HP1.out.free 6
 go_upto_region 2 with fail
 obtain ⟨w2, hw2⟩ := exq (w1.setCell ⟨B1, 6, none⟩ (.slice ad1 recs.length cap1))
 rw [← hw2]
 have hne : B2 ≠ B1 := by have := HBN.out; omega
 have HP2 : Hid (BoxAt w2 B1 b0 b1 b2 b3 b4 b5 (.slice ad1 recs.length cap1)) := by rw [hw2]; exact HP1.out.s6 _
 have HQ2 : Hid (BoxAt w2 B2 0 0 0 0 false 0 (.slice none 0 0)) := by rw [hw2]; exact box_off HQ1.out hne.symm _
 have HB2 : Hid (Below w.heap.size w w2) := by rw [hw2]; exact HB1.out.setCell (show w.heap.size ≤ B1 by have := HBN.out; omega) _
 have HO2 : Hid (OwnRow recK w2 (w.heap.size + 2) (.slice ad1 recs.length cap1) recs) := by
  show OwnRow _ _ _ _ _
  have h1 := HO.out
  rw [HS0.out] at h1
  rw [hw2]
  exact h1.off (by have := HBN.out; omega) _ _
 clear hw2 HP1 HQ1 HB1 HO q6 g6
 obtain ⟨q0, q1, q2, q3, q4, q5, q6⟩ := HP2.out.cs
 obtain ⟨r0, r1, r2, r3, r4, r5, r6⟩ := HQ2.out.cs
 obtain ⟨f0, f1, f2, f3, f4, f5, f6⟩ := HQ2.out.fs
 go_wp2
 have hB2 : w.heap.size ≤ B2 := by have := HBN.out; omega
 have hB3 : B2 < w.heap.size + 2 := by have := HBN.out; omega
 have HF : OwnRow recK (((((((w2.setCell ⟨B2, 0, none⟩ (.int .i64 b0)).setCell ⟨B2, 1, none⟩ (.int .i64 b1)).setCell ⟨B2, 2, none⟩ (.int .i64 b2)).setCell ⟨B2, 3, none⟩ (.int .i64 b3)).setCell ⟨B2, 4, none⟩ (.bool b4)).setCell ⟨B2, 5, none⟩ (.int .i64 b5)).setCell ⟨B2, 6, none⟩ (.slice ad1 recs.length cap1)) (w.heap.size + 2) (.slice ad1 recs.length cap1) recs :=
  ((((((HO2.out.off hB3 _ _).off hB3 _ _).off hB3 _ _).off hB3 _ _).off hB3 _ _).off hB3 _ _).off hB3 _ _
 obtain ⟨ad3, cap3, e3, hrw, hk3⟩ := OwnRow.row recK_ok HF rfl
 injection e3 with e31 e32 e33
 subst e31 e33
 have hfin : GivesCop w ⟨b0, b1, b2, b3, b4, b5, recs⟩ (.returned (.agg #[.int .i64 b0, .int .i64 b1, .int .i64 b2, .int .i64 b3, .bool b4, .int .i64 b5, .slice ad1 recs.length cap1])) (((((((w2.setCell ⟨B2, 0, none⟩ (.int .i64 b0)).setCell ⟨B2, 1, none⟩ (.int .i64 b1)).setCell ⟨B2, 2, none⟩ (.int .i64 b2)).setCell ⟨B2, 3, none⟩ (.int .i64 b3)).setCell ⟨B2, 4, none⟩ (.bool b4)).setCell ⟨B2, 5, none⟩ (.int .i64 b5)).setCell ⟨B2, 6, none⟩ (.slice ad1 recs.length cap1)) :=
  ⟨ad1, cap1, rfl, recsAt_row.2 hrw, (fun a ha => ⟨by have := (hk3 a ha).1; omega, (hk3 a ha).2⟩), ((((((HB2.out.setCell hB2 _).setCell hB2 _).setCell hB2 _).setCell hB2 _).setCell hB2 _).setCell hB2 _).setCell hB2 _⟩
 exact bodyPost_ret (v := .agg #[.int .i64 b0, .int .i64 b1, .int .i64 b2, .int .i64 b3, .bool b4, .int .i64 b5, .slice ad1 recs.length cap1]) (resultsMcCopied (((((((HQ2.out.s0 b0).s1 b1).s2 b2).s3 b3).s4 b4).s5 b5).s6 (.slice ad1 recs.length cap1)) rfl) rfl hfin
theorem bats_length (ms : List BM) : (bats ms).length = ms.length := by unfold bats; rw [List.length_map]
theorem mcStart_any (w : World) (k kt km : Nat) (v : Value) (ms : List BM) (ps : List PM) (c s : Int) (h : McAt w k kt km v ms ps c s) :
 Calls Tryz.prog 26 #[.pointer (some ⟨k, 0, none⟩)] w (GivesI w s) := by
 have q1 := h.box.c1
 clear h
 go_enter Tryz.func26, Tryz.ntmps26
 go_wp2
 go_ret
 exact ⟨rfl, Below.refl _ _⟩
theorem mcEnd_any (w : World) (k kt km : Nat) (v : Value) (ms : List BM) (ps : List PM) (c s : Int) (h : McAt w k kt km v ms ps c s) (hr : LogRow s (bats ms)) :
 Calls Tryz.prog 19 #[.pointer (some ⟨k, 0, none⟩)] w (GivesI w (endD s (bats ms))) := by
 obtain ⟨ad, cap, rfl, hb, -⟩ := h.list.at
 obtain ⟨en, hen⟩ := exq (endD s (bats ms))
 have hf := hr.few
 rw [bats_length] at hf
 have HC : Hid (∀ W, Below w.heap.size w W → Calls Tryz.prog 47 #[.int .i64 s, .slice ad ms.length cap] W (GivesI W en)) := fun W hW => fcEnd_any W s ad ms.length cap ms (hb.keep hW) (by omega) hr.ok en hen.symm
 have HX := qh h.box
 obtain ⟨n, hn⟩ := exq ms.length
 rw [← hen]
 rw [← hn] at HX HC
 clear h hr hb hen hf hn
 go_enter Tryz.func19, Tryz.ntmps19
 go_upto_region 1 with fail
 have KS : Hid (∀ V, Below w.heap.size w V → (fun (V : World) => V.cell? ⟨k, 1, none⟩ = some (.int .i64 s) ∧ V.cell? ⟨k, 2, none⟩ = some (.slice ad n cap)) V) := fun V hV => ⟨(HX.out.on hV).c1, (HX.out.on hV).c2⟩
 refine zs [] KS fun u0 HU0 hHeld => ?_
 refine zt 0 ?_
 refine zt 1 ?_
 refine zt 2 ?_
 refine zt 3 ?_
 refine zt 4 ?_
 refine zt 5 ?_
 refine zt 6 ?_
 refine zt 7 ?_
 refine zr 8 (fun C hC => ?_)
 go_simp
 refine (HC.out u0 HU0.out).mono ?_
 rintro e u1 ⟨rfl, hb⟩
 have HZ := qh (HU0.out.trans (hb.mono HU0.out.size))
 clear hb
 have hHeld := KS.out _ HZ.out
 refine zc hC hHeld ?_
 clear hC C
 refine zt 9 ?_
 refine zd ?_
 clear hHeld KS HU0 HC
 go_wp2
 go_ret
 exact ⟨rfl, HZ.out⟩
theorem mcProducers_any (w : World) (k kt km : Nat) (v : Value) (ms : List BM) (ps : List PM) (c s : Int) (h : McAt w k kt km v ms ps c s) (hr : LogRow s (bats ms)) :
 Calls Tryz.prog 20 #[.pointer (some ⟨k, 0, none⟩)] w (GivesTcAll2 w (foldP [] (bats ms))) := by
 have q3 := h.box.c3
 have HC : Hid (Calls Tryz.prog 48 #[.pointer (some ⟨kt, 0, none⟩)] w (GivesTcAll2 w (foldP [] (bats ms)))) := by
  show Calls _ _ _ _ _
  rw [← h.eq]
  have h1 := hr.few
  have h2 : ps.length ≤ 1000000 := by
   have h3 := foldP_len [] (bats ms)
   rw [← h.eq] at h3
   unfold pds at h3
   simp only [List.length_map, List.length_nil] at h3
   omega
  exact tcAll2_any w kt km ps h.tab (by rw [h.eq]; exact fold_asc _ asc_nil) (by rw [h.eq]; exact foldP_few _ (fun p hp => by cases hp)) h2
 clear h hr
 go_enter Tryz.func20, Tryz.ntmps20
 go_wp2_with fail
 refine HC.out.mono ?_
 rintro e w1 ⟨ad, len, cap, os, rfl, h1⟩
 have H1 := qh h1
 clear h1 HC q3
 go_wp2
 go_ret
 exact ⟨ad, len, cap, os, rfl, H1.out⟩
theorem resultsMcFetch {tmps : Array Value} {B : Nat} {W : World} {v0 v1 : Value} {x2 x3 : Int} {x : Value} (h : FBox W B v0 v1 x2 x3) (ht : tmps.getD 8 undef = .pointer (some ⟨B, 0, none⟩)) (hx : tmps.getD 9 undef = x) :
 (results Tryz.f29 tmps).run Tryz.prog W = .ok (.tuple #[.agg #[v0, v1, .int .i64 x2, .int .i64 x3], x]) W := by
 rw [results_cell_tmp (p := 8) (u := 9) (ty := 73) Tryz.results29, ht]
 have hl := run_loadVar_row (P := Tryz.prog) W B 73 73 _ (0, 0) _ h Tryz.underlying73 rfl (by kernel_rfl)
 simp only [asAddr, Sem.run_pure, Result.andThen, hl, hx]
theorem mcFetch_any (w : World) (k kt km : Nat) (v : Value) (ms : List BM) (ps : List PM) (c s : Int) (h : McAt w k kt km v ms ps c s) (hr : LogRow s (bats ms)) (o n : Int) (only : Bool) :
 Calls Tryz.prog 29 #[.pointer (some ⟨k, 0, none⟩), .int .i64 o, .int .i64 n, .bool only] w (GivesFd w (fetchD s (bats ms) o n only)) := by
 obtain ⟨ad, cap, rfl, hb, -⟩ := h.list.at
 have hf := hr.few
 rw [bats_length] at hf
 have HC : Hid (∀ W, Below w.heap.size w W → Calls Tryz.prog 61 #[.int .i64 s, .slice ad ms.length cap, .int .i64 o, .int .i64 n, .bool only] W (GivesFd W (fetchD s (bats ms) o n only))) := fun W hW => fcFetch_any W s ad ms.length cap ms (hb.keep hW) hf hr.fo (rowW_drops hr.row hr.lo hr.hi).1 o n only
 have HX := qh h.box
 obtain ⟨len, hn⟩ := exq ms.length
 obtain ⟨⟨⟨rs, ds, nx, st⟩, er⟩, hr0⟩ : ∃ r, fetchD s (bats ms) o n only = r := ⟨_, rfl⟩
 rw [hr0] at HC ⊢
 rw [← hn] at HX HC
 clear h hr hb hf hn hr0
 go_enter Tryz.func29, Tryz.ntmps29
 go_upto_region 1 with fail
 obtain ⟨W0, hW0⟩ := exq (w.alloc (.cells #[.slice none 0 0, .slice none 0 0, .int .i64 0, .int .i64 0] 73))
 obtain ⟨P, hP⟩ := exq w.heap.size
 have hb0 := wbq hW0
 have HP0 : Hid (FBox W0 P (.slice none 0 0) (.slice none 0 0) 0 0) := by rw [hW0, hP]; exact fbox_new w _ _ _ _
 have HWP : Hid (w.heap.size ≤ P ∧ k < P ∧ P < W0.heap.size) := by
  have := HX.out.lt
  show _ ∧ _ ∧ _
  refine ⟨by omega, by omega, HP0.out.lt⟩
 have HB0 := qh hb0
 rw [← hW0, ← hP]
 clear hW0 hP hb0
 have KS : Hid (∀ V, Below W0.heap.size W0 V → (fun (V : World) => V.cell? ⟨k, 1, none⟩ = some (.int .i64 s) ∧ V.cell? ⟨k, 2, none⟩ = some (.slice ad len cap)) V) := fun V hV => ⟨(HX.out.on (HB0.out.trans (hV.mono HB0.out.size))).c1, (HX.out.on (HB0.out.trans (hV.mono HB0.out.size))).c2⟩
 refine zs [] KS fun u0 HU0 hHeld => ?_
 refine zt 0 ?_
 refine zt 1 ?_
 refine zt 2 ?_
 refine zt 3 ?_
 refine zt 4 ?_
 refine zt 5 ?_
 refine zt 6 ?_
 refine zt 7 ?_
 refine zt 8 ?_
 refine zt 9 ?_
 refine zt 10 ?_
 refine zr 11 (fun C hC => ?_)
 go_simp
 refine (HC.out u0 (HB0.out.trans (HU0.out.mono HB0.out.size))).mono ?_
 rintro e u1 ⟨va, rfl, hfa, hb⟩
 obtain ⟨qa, qn, qc, ea, en, ec, rfl, hqa, hea⟩ := hfa
 simp only at hqa hea ⊢
 have HU1 : Hid (Below W0.heap.size W0 u1) := HU0.out.trans (hb.mono HU0.out.size)
 have HP1 : Hid (FBox u1 P (.slice none 0 0) (.slice none 0 0) 0 0) := HP0.out.on HU1.out
 have HQ := qh hqa
 have HE := qh hea
 clear hb hqa hea
 have hHeld := KS.out _ HU1.out
 refine zc hC hHeld ?_
 clear hC C
 refine zt 12 ?_
 refine zt 13 ?_
 have f0 := HP1.out.free 0
 have f1 := HP1.out.free 1
 have f2 := HP1.out.free 2
 have f3 := HP1.out.free 3
 have p0 := HP1.out.c0
 have p1 := HP1.out.c1
 have p2 := HP1.out.c2
 have p3 := HP1.out.c3
 refine zr 14 (fun C hC => ?_)
 go_simp
 obtain ⟨u2, hu2⟩ : ∃ z, z = (((u1.setCell ⟨P, 0, none⟩ (.slice qa qn qc)).setCell ⟨P, 1, none⟩ (.slice ea en ec)).setCell ⟨P, 2, none⟩ (.int .i64 nx)).setCell ⟨P, 3, none⟩ (.int .i64 st) := ⟨_, rfl⟩
 have HZ : Hid (FBox u2 P (.slice qa qn qc) (.slice ea en ec) nx st) := by rw [hu2]; exact (((HP1.out.s0 _).s1 _).s2 _).s3 _
 have HKM : Hid ((fun (V : World) => V.cell? ⟨k, 1, none⟩ = some (.int .i64 s) ∧ V.cell? ⟨k, 2, none⟩ = some (.slice ad len cap)) u2) := by
  have h2 := (HX.out.on (HB0.out.trans (HU1.out.mono HB0.out.size)))
  have h3 : McBox u2 k c s (.slice ad len cap) kt (bytesD (bats ms)) := by
   have hne : P ≠ k := fun e => by have := HWP.out.2.1; omega
   rw [hu2]
   exact box_off (box_off (box_off (box_off h2 hne _) hne _) hne _) hne _
  exact ⟨h3.c1, h3.c2⟩
 have HQS : Hid (RowAt gtK u2 qa qn qc rs) := by rw [hu2]; exact fo_gots_set2 HQ.out HP1.out _ _ _ _ _ _ _ _
 have HES : Hid (RowAt drK u2 ea en ec ds) := by rw [hu2]; exact fo_drs_set2 HE.out HP1.out _ _ _ _ _ _ _ _
 have HBZ : Hid (Below w.heap.size w u2) := by
  have h1 := HB0.out.trans (HU1.out.mono HB0.out.size)
  have h2 := HWP.out.1
  show Below _ _ _
  rw [hu2]
  exact (((h1.setCell h2 _).setCell h2 _).setCell h2 _).setCell h2 _
 (try rw [← hu2])
 clear hu2 f0 f1 f2 f3 p0 p1 p2 p3
 have hHeld := hq KS u2 (HKM.out)
 refine zc hC hHeld ?_
 clear hC C
 refine zt 15 ?_
 refine zd ?_
 clear hHeld KS
 go_wp2
 refine bodyPost_ret (v := .tuple #[.agg #[.slice qa qn qc, .slice ea en ec, .int .i64 nx, .int .i64 st], .int .i64 er]) (resultsMcFetch HZ.out rfl rfl) rfl ?_
 exact ⟨_, rfl, ⟨_, _, _, _, _, _, rfl, HQS.out, HES.out⟩, HBZ.out⟩
end Go.Proofs.YtjmfdildnojknaaGreat
