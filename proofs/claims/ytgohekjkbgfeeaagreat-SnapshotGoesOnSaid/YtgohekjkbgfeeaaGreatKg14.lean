/- Parts of a proof, merged: SnapMath4, TcGet, PrDup, PrCheck, PrApply, TcCheck, TcApply. -/
import Derived.Test.YtgohekjkbgfeeaaGreatKg3
import Derived.Test.YtgohekjkbgfeeaaGreatKg13
import Derived.Test.YtgohekjkbgfeeaaGreatKg9
import Derived.Test.YtgohekjkbgfeeaaGreatKg6
import Derived.Test.YtgohekjkbgfeeaaGreatKg8
import Derived.Test.YtgohekjkbgfeeaaGreatKg5
namespace Go.SnapMath
open Go.ProdMath
open Go.BatMath (In64)
open Go.VarMath (encN AllB)
set_option linter.unusedVariables false

/-- The bytes of a table's states behind their number, and what stands behind them. -/
def TabS (b : List Nat) (l : List Pd) (r : List Nat) : Prop := AccOk l ∧ l.length ≤ 1000000 ∧ b = encN (l.length : Int) ++ (pdsS l ++ r)
def TabNo (b : List Nat) : Prop := ∀ l r, ¬ TabS b l r
def lastW (acc : List Pd) : Int := match acc.getLast? with
  | none => -1
  | some q => q.id
theorem lastW_snoc (acc : List Pd) (p : Pd) : lastW (acc ++ [p]) = p.id := by
  unfold lastW
  rw [List.getLast?_append, List.getLast?_singleton]
  rfl
theorem lastW_yes {acc : List Pd} {p : Pd} (h : lastW acc < p.id) : lastId acc p = true := by
  unfold lastW at h
  unfold lastId
  cases hg : acc.getLast? with
  | none => rfl
  | some q => rw [hg] at h; exact decide_eq_true h
theorem pd_one {p q : Pd} {a b : List Nat} (hp : PdIn p) (hq : PdIn q) (e : pdS p ++ a = pdS q ++ b) : p = q ∧ a = b := by
  have h1 := getPd_enc hp a
  rw [e, getPd_enc hq b] at h1
  simp only [Option.some.injEq, Prod.mk.injEq] at h1
  exact ⟨h1.1.symm, h1.2.symm⟩
theorem pds_pre : ∀ {acc l : List Pd} {b r : List Nat}, (∀ p ∈ acc, PdIn p) → (∀ p ∈ l, PdIn p) → acc.length ≤ l.length → pdsS acc ++ b = pdsS l ++ r → ∃ l2, l = acc ++ l2 ∧ b = pdsS l2 ++ r
  | [], l, b, r, _, _, _, e => ⟨l, rfl, e⟩
  | p :: acc, [], b, r, _, _, h, e => absurd h (by simp)
  | p :: acc, q :: l, b, r, ha, hl, h, e => by
    have e2 : pdS p ++ (pdsS acc ++ b) = pdS q ++ (pdsS l ++ r) := by
      have e3 : pdS p ++ pdsS acc ++ b = pdS q ++ pdsS l ++ r := e
      rwa [List.append_assoc, List.append_assoc] at e3
    obtain ⟨h1, h2⟩ := pd_one (ha p (by simp)) (hl q (by simp)) e2
    obtain ⟨l2, h3, h4⟩ := pds_pre (fun x hx => ha x (by simp [hx])) (fun x hx => hl x (by simp [hx])) (Nat.le_of_succ_le_succ h) h2
    exact ⟨l2, by rw [h1, h3]; rfl, h4⟩
theorem tab_head {b b2 r : List Nat} {k : Int} {g : Bool} {l : List Pd} (h : TabS b l r) (e : rdN b false = (k, b2, g)) : k = (l.length : Int) ∧ g = false ∧ b2 = pdsS l ++ r := by
  obtain ⟨h1, h2, h3⟩ := h
  rw [h3, rdN_enc (in_nat h2)] at e
  cases e
  exact ⟨rfl, rfl, rfl⟩
theorem tab_fell {b b2 : List Nat} {k : Int} (e : rdN b false = (k, b2, true)) : TabNo b := fun l r h => by
  have := (tab_head h e).2.1
  cases this
theorem tab_neg {b b2 : List Nat} {k : Int} {g : Bool} (e : rdN b false = (k, b2, g)) (h : k < 0) : TabNo b := fun l r ht => by
  have := (tab_head ht e).1
  omega
/-- No state is next. -/
theorem tab_stop {b b2 c : List Nat} {k : Int} {g : Bool} {acc : List Pd} (e : rdN b false = (k, b2, g)) (ha : AccOk acc) (hb : b2 = pdsS acc ++ c) (hlt : (acc.length : Int) < k) (hn : StNo c) : TabNo b := fun l r h => by
  obtain ⟨h1, h2, h3⟩ := tab_head h e
  rw [hb] at h3
  obtain ⟨l2, h4, h5⟩ := pds_pre ha.pdIn h.1.pdIn (by omega) h3
  cases l2 with
  | nil => rw [h4, List.append_nil] at h1; omega
  | cons q l2 =>
    have hq : q ∈ l := by rw [h4]; simp
    refine hn q (pdsS l2 ++ r) (h.1.right q hq) (h.1.ids q hq) ?_
    rw [h5]
    show pdS q ++ pdsS l2 ++ r = _
    rw [List.append_assoc]
/-- One is next that does not rise. -/
theorem tab_low {b b2 c d : List Nat} {k : Int} {g : Bool} {acc : List Pd} {p : Pd} (e : rdN b false = (k, b2, g)) (ha : AccOk acc) (hb : b2 = pdsS acc ++ c) (hlt : (acc.length : Int) < k) (hp : RightP p) (hi : In64 p.id) (hc : c = pdS p ++ d) (hl : p.id ≤ lastW acc) : TabNo b := fun l r h => by
  obtain ⟨h1, h2, h3⟩ := tab_head h e
  rw [hb] at h3
  obtain ⟨l2, h4, h5⟩ := pds_pre ha.pdIn h.1.pdIn (by omega) h3
  cases l2 with
  | nil => rw [h4, List.append_nil] at h1; omega
  | cons q l2 =>
    have hq : q ∈ l := by rw [h4]; simp
    have e2 : pdS p ++ d = pdS q ++ (pdsS l2 ++ r) := by
      rw [← hc, h5]
      show pdS q ++ pdsS l2 ++ r = _
      rw [List.append_assoc]
    obtain ⟨h6, _⟩ := pd_one (right_in hp hi) (right_in (h.1.right q hq) (h.1.ids q hq)) e2
    have h7 := h.1.asc
    rw [h4] at h7
    have h8 := last_asc h7
    rw [← h6] at h8
    have h9 := hp.1.1
    unfold lastId at h8
    unfold lastW at hl
    cases hg : acc.getLast? with
    | none => rw [hg] at hl; have h10 : p.id ≤ -1 := hl; omega
    | some q2 =>
      rw [hg] at hl h8
      have h10 : p.id ≤ q2.id := hl
      have h11 : q2.id < p.id := of_decide_eq_true h8
      omega
theorem tab_done {b b2 c : List Nat} {k : Int} {acc : List Pd} (e : rdN b false = (k, b2, false)) (ha : AccOk acc) (hL : acc.length ≤ 1000000) (hb : b2 = pdsS acc ++ c) (hk : (acc.length : Int) = k) : TabS b acc c := by
  refine ⟨ha, hL, ?_⟩
  rw [(rdN_is e).1, hb, hk]
theorem pdsS_snoc (acc : List Pd) (p : Pd) (c : List Nat) : pdsS (acc ++ [p]) ++ c = pdsS acc ++ (pdS p ++ c) := by
  induction acc with
  | nil => show pdS p ++ [] ++ c = _; rw [List.append_nil]; rfl
  | cons q acc ih =>
    show pdS q ++ pdsS (acc ++ [p]) ++ c = pdS q ++ pdsS acc ++ (pdS p ++ c)
    rw [List.append_assoc, ih, List.append_assoc]
theorem snap_tab {bs : List Nat} {l : List Pd} {n : Int} (h : IsSnap bs l n) (hL : bs.length ≤ 1048600) : CrcMath.okB bs = true ∧ ∃ c, rdN (bs.drop 4) false = (n, c, false) ∧ TabS c l [] := by
  obtain ⟨ha, hn, e⟩ := h
  have h4 := snap_few (n := n) ha
  rw [← e] at h4
  have hin : PdsIn l := ⟨by omega, ha.pdIn⟩
  have hn64 : In64 n := ⟨by omega, by omega⟩
  refine ⟨?_, encN (l.length : Int) ++ pdsS l, ?_, ha, hin.1, by rw [List.append_nil]⟩
  · rw [e]
    exact CrcMath.okB_seal (bodyS_all hin hn64)
  · rw [e]
    unfold snapS
    rw [CrcMath.drop_sealB]
    exact rdN_enc hn64 _
theorem tab_snap {bs c : List Nat} {l : List Pd} {n : Int} (hb : AllB bs) (hok : CrcMath.okB bs = true) (e : rdN (bs.drop 4) false = (n, c, false)) (ht : TabS c l []) (h0 : 0 ≤ n) (h1 : n ≤ 1099511627776) : IsSnap bs l n := by
  refine ⟨ht.1, ⟨h0, h1⟩, ?_⟩
  have h4 : 4 ≤ bs.length := by
    rcases Nat.lt_or_ge bs.length 4 with h | h
    · rw [CrcMath.okB_short h] at hok; cases hok
    · exact h
  rw [← (CrcMath.sealB_drop h4 hb).2 hok]
  unfold snapS bodyS
  rw [(rdN_is e).1, ht.2.2, List.append_nil]
/-- What reading gives is no snapshot. -/
theorem snap_no {bs : List Nat} (hL : bs.length ≤ 1048600) (h : CrcMath.okB bs = false ∨ (∃ n c g, rdN (bs.drop 4) false = (n, c, g) ∧ (g = true ∨ n < 0 ∨ 1099511627776 < n ∨ TabNo c ∨ ∃ l r, r ≠ [] ∧ TabS c l r))) : ∀ l m, ¬ IsSnap bs l m := fun l m hs => by
  obtain ⟨h1, c, h2, h3⟩ := snap_tab hs hL
  rcases h with h | ⟨n, c2, g, e, h⟩
  · rw [h1] at h; cases h
  · rw [h2] at e
    cases e
    have h5 := hs.2.1
    rcases h with h | h | h | h | ⟨l2, r, hr, h⟩
    · cases h
    · omega
    · omega
    · exact h _ _ h3
    · have e1 := h3.2.2
      rw [h.2.2] at e1
      have e2 := rdN_enc (in_nat h.2.1) (pdsS l2 ++ r)
      rw [e1, rdN_enc (in_nat h3.2.1)] at e2
      have e3 : (l.length : Int) = (l2.length : Int) := congrArg (fun z => z.1) e2
      have e4 : pdsS l ++ [] = pdsS l2 ++ r := congrArg (fun z => z.2.1) e2
      obtain ⟨l3, e5, e6⟩ := pds_pre h3.1.pdIn h.1.pdIn (by omega) e4
      have e7 := congrArg List.length e6
      rw [List.length_append] at e7
      have e8 : r.length = 0 := by simp only [List.length_nil] at e7; omega
      exact hr (List.eq_nil_of_length_eq_zero e8)
end Go.SnapMath
namespace Go.Proofs.YtgohekjkbgfeeaaGreat
open Go.RowKit
open Go.SeqMath
open Go.ProdMath
open Go.BatMath hiding AllB getD_lt take_all
set_option linter.unusedVariables false

/-- What a look-up finds: the state of a producer, or none. -/
theorem tc_look (ms : List PM) (id : Int) (h0 : -9223372036854775808 ≤ id) (h1 : id ≤ 9223372036854775807) (hfew : fewP (pds ms)) :
    ∃ (p : Pd) (kn : Bool) (ad : Option Addr) (n cap : Nat), (lookD (pds ms) id).getD Pd.zero = p ∧ (lookD (pds ms) id).isSome = kn ∧ n ≤ 5 ∧
      (∀ W km, TcMap W km ms → (Instr.lookup 103 (.map (some km)) (.int .i64 id) true).run Tryz.prog W = .ok (.tuple #[.agg #[.int .i64 p.id, .int .i64 p.epoch, .slice ad n cap, .int .i64 p.opn], .bool kn]) W) ∧
      (∀ W km, TcMap W km ms → (Instr.lookup 103 (.map (some km)) (.int .i64 id) false).run Tryz.prog W = .ok (.agg #[.int .i64 p.id, .int .i64 p.epoch, .slice ad n cap, .int .i64 p.opn]) W) ∧
      ∀ W, LastsAt W ms → RowAt trK W ad n cap p.last := by
  have hl := lookM_p ms id
  cases hm : lookM ms id with
  | none =>
    rw [hm] at hl
    refine ⟨Pd.zero, false, none, 0, 0, by rw [← hl]; rfl, by rw [← hl]; rfl, by omega, fun W km hW => ?_, fun W km hW => ?_, fun W hW => rowAt_nil W⟩
    all_goals have hz : (zeroValue 78).run Tryz.prog W = .ok (.agg #[.int .i64 0, .int .i64 0, .slice none 0 0, .int .i64 0]) W := Tryz.zeroValue78 W
    · exact mapAs_none tcMapT keyI hW _ (key_int h0 h1) (fun q hq e => lookM_none hm q hq (by simpa [pmE] using e)) _ hz true
    · exact mapAs_none tcMapT keyI hW _ (key_int h0 h1) (fun q hq e => lookM_none hm q hq (by simpa [pmE] using e)) _ hz false
  | some m =>
    rw [hm] at hl
    obtain ⟨hmem, hid⟩ := lookM_some hm
    refine ⟨m.p, true, m.ad, m.p.last.length, m.cap, by rw [← hl]; rfl, by rw [← hl]; rfl, hfew m.p (List.mem_map.2 ⟨m, hmem, rfl⟩), fun W km hW => ?_, fun W km hW => ?_, fun W hW => hW m hmem⟩
    · have h2 := mapAs_some tcMapT keyI hW m hmem true
      rw [← hid]
      exact h2
    · have h2 := mapAs_some tcMapT keyI hW m hmem false
      rw [← hid]
      exact h2
end Go.Proofs.YtgohekjkbgfeeaaGreat
namespace Go.Proofs.YtgohekjkbgfeeaaGreat
open Go.RowKit
open Go.SeqMath
open Go.ProdMath
open Go.BatMath hiding AllB getD_lt take_all
set_option linter.unusedVariables false

/-- The blocks ahead of the result: the batch that came in, the result's, and how many there are. -/
structure AP (w : World) (xo : Obj) (W : World) : Prop where
  xb : W.heap[w.heap.size + 1]? = some xo
  rb : PBox W (w.heap.size + 2) 0 0 (.slice none 0 0) 0
  sz : W.heap.size = w.heap.size + 3
  bel : Below w.heap.size w W
theorem AP.p {w W : World} {xo : Obj} (h : AP w xo W) (j : Nat) (u : Value) : AP w xo (W.setCell ⟨w.heap.size, j, none⟩ u) :=
  ⟨box_off h.xb (by omega) _, h.rb.off (by omega) _, by rw [size_set]; exact h.sz, h.bel.setCell (Nat.le_refl _) _⟩
theorem resultsPrApply {tmps : Array Value} {B : Nat} {W : World} {b0 b1 b3 : Int} {v : Value} (h : PBox W B b0 b1 v b3) (ht : tmps.getD 6 undef = .pointer (some ⟨B, 0, none⟩)) :
    (results Tryz.f45 tmps).run Tryz.prog W = .ok (.agg #[.int .i64 b0, .int .i64 b1, v, .int .i64 b3]) W := by
  rw [results_cell_one (p := 6) (ty := 78) Tryz.results45, ht]
  have hl := run_loadVar_row (P := Tryz.prog) W B 78 78 _ (0, 0) _ h Tryz.underlying78 rfl (by kernel_rfl)
  simp only [asAddr, Sem.run_pure, Result.andThen, hl]
/-- What the walk knows ahead of the new state. -/
def ApCut (w : World) (xo : Obj) (b2 : Int) (l0 : List Tr) (o0 : Int) (W : World) : Prop :=
  ∃ i1 e1 a1 n1 c1 o1 l1, AP w xo W ∧ PBox W w.heap.size i1 e1 (.slice a1 n1 c1) o1 ∧ RowAt trK W a1 n1 c1 l1 ∧ n1 ≤ 1000000 ∧ Hid ((if b2 = e1 then l1 else []) = l0) ∧ Hid (o1 = o0)
set_option maxRecDepth 100000 in
set_option maxHeartbeats 8000000 in
theorem prApply_any (w : World) (id ep op : Int) (last : List Tr) (ad : Option Addr) (n cap : Nat) (hl : RowAt trK w ad n cap last) (hn : n ≤ 1000000) (known : Bool) (b0 b1 b2 b3 : Int) (b4 : Bool) (b5 : Int) (recs : List Rc) (rd : Option Addr) (rn rc : Nat) (hrl : recs.length = rn) (hrn : rn ≤ 140737488355328) (p : Pd) (hp : applyD ⟨id, ep, last, op⟩ known ⟨b0, b1, b2, b3, b4, b5, recs⟩ = p) :
    Calls Tryz.prog 45 #[.agg #[.int .i64 id, .int .i64 ep, .slice ad n cap, .int .i64 op], .bool known, .agg #[.int .i64 b0, .int .i64 b1, .int .i64 b2, .int .i64 b3, .bool b4, .int .i64 b5, .slice rd rn rc]] w (GivesApply w p) := by
  obtain ⟨xo, hxo⟩ : ∃ xo : Obj, xo = (.cells #[.int .i64 b0, .int .i64 b1, .int .i64 b2, .int .i64 b3, .bool b4, .int .i64 b5, .slice rd rn rc] 56 (0, 0)) := ⟨_, rfl⟩
  obtain ⟨W0, hW0⟩ : ∃ W0, W0 = (((w.alloc (.cells #[.int .i64 id, .int .i64 ep, .slice ad n cap, .int .i64 op] 78)).alloc (.cells #[.int .i64 b0, .int .i64 b1, .int .i64 b2, .int .i64 b3, .bool b4, .int .i64 b5, .slice rd rn rc] 56)).alloc (.cells #[.int .i64 0, .int .i64 0, .slice none 0 0, .int .i64 0] 78)) := ⟨_, rfl⟩
  have HA0 : Hid (AP w xo W0) := by
    show AP _ _ _
    rw [hW0, hxo]
    have e2 := Below.refl w.heap.size w
    refine ⟨?_, ?_, by simp, ((e2.alloc (Nat.le_refl _) _).alloc (by simp) _).alloc (by simp <;> omega) _⟩
    · rw [heap_alloc_old _ _ (by simp)]
      have := heap_alloc_new (w.alloc (.cells #[.int .i64 id, .int .i64 ep, .slice ad n cap, .int .i64 op] 78)) (.cells #[.int .i64 b0, .int .i64 b1, .int .i64 b2, .int .i64 b3, .bool b4, .int .i64 b5, .slice rd rn rc] 56)
      simpa using this
    · show (_ : World).heap[_]? = _
      have := heap_alloc_new ((w.alloc (.cells #[.int .i64 id, .int .i64 ep, .slice ad n cap, .int .i64 op] 78)).alloc (.cells #[.int .i64 b0, .int .i64 b1, .int .i64 b2, .int .i64 b3, .bool b4, .int .i64 b5, .slice rd rn rc] 56)) (.cells #[.int .i64 0, .int .i64 0, .slice none 0 0, .int .i64 0] 78)
      simpa using this
  have HPB : Hid (PBox W0 w.heap.size id ep (.slice ad n cap) op) := by
    show (_ : World).heap[_]? = _
    rw [hW0, heap_alloc_old _ _ (by simp <;> omega), heap_alloc_old _ _ (by simp)]
    exact heap_alloc_new w _
  have HL0 := Lib.hid (hl.keep HA0.out.bel)
  have HPP : Hid (applyD ⟨id, ep, last, op⟩ known ⟨b0, b1, b2, b3, b4, b5, recs⟩ = p) := hp
  have HRL := Lib.hid hrl
  have HXO := Lib.hid hxo
  clear hl hp hrl hxo
  go_enter Tryz.func45, Tryz.ntmps45
  go_upto_if 9 with (fail)
  rw [← hW0]
  clear hW0
  obtain ⟨l0, hl0⟩ : ∃ l0, l0 = oldLast ⟨id, ep, last, op⟩ known ⟨b0, b1, b2, b3, b4, b5, recs⟩ := ⟨_, rfl⟩
  obtain ⟨o0, ho0⟩ : ∃ o0, o0 = oldOpen ⟨id, ep, last, op⟩ known := ⟨_, rfl⟩
  have HPE1 : Hid (b5 ≠ 0 → p = ⟨b1, b2, l0, -1⟩) := by
    intro hm
    rw [← HPP.out, hl0]
    simp [applyD, hm]
  have HPE2 : Hid (b5 = 0 → ∀ oz, oz = (if b4 = true ∧ o0 < 0 then b0 else o0) → p = ⟨b1, b2, newLast l0 ⟨b3, lastI b3 rn, b0⟩, oz⟩) := by
    intro hm oz hoz
    rw [hoz, ← HPP.out, hl0, ho0, ← HRL.out]
    simp [applyD, hm]
  have HLE : Hid (l0 = if known = true ∧ ep = b2 then last else []) := by show l0 = _; rw [hl0]; rfl
  have HOE : Hid (o0 = if known = true then op else -1) := by show o0 = _; rw [ho0]; rfl
  clear hl0 ho0 HPP HRL
  go_cut [] from 8 (fun wx => ApCut w xo b2 l0 o0 wx)
  case first =>
    have q0 := HPB.out.c0
    have q1 := HPB.out.c1
    have q2 := HPB.out.c2
    have q3 := HPB.out.c3
    have f0 := HPB.out.free 0
    have f1 := HPB.out.free 1
    have f2 := HPB.out.free 2
    have f3 := HPB.out.free 3
    cases known
    · go_wp2
      go_meet
      case rel =>
        refine ⟨0, 0, none, 0, 0, -1, [], (((HA0.out.p 0 _).p 1 _).p 2 _).p 3 _, (((HPB.out.s0 0).s1 0).s2 (.slice none 0 0)).s3 (-1), rowAt_nil _, by omega, ?_, ?_⟩
        · show _ = _; rw [HLE.out]; simp
        · show _ = _; rw [HOE.out]; rfl
    · go_wp2
      go_meet
      case rel =>
        refine ⟨id, ep, ad, n, cap, op, last, HA0.out, HPB.out, HL0.out, hn, ?_, ?_⟩
        · show _ = _
          rw [HLE.out]
          by_cases h : b2 = ep
          · rw [if_pos h, if_pos (by simp [h])]
          · rw [if_neg h, if_neg (fun h2 => h h2.2.symm)]
        · show _ = _; rw [HOE.out]; rfl
  case rest =>
    obtain ⟨i1, e1, a1, n1, c1, o1, l1, hap, hpb, hrw, hn1, hle, hoe⟩ := hcut
    have HAP := Lib.hid hap
    have HPB1 := Lib.hid hpb
    have HRW := Lib.hid hrw
    clear hap hpb hrw HA0 HPB HL0 HLE HOE hn
    have hxb : BoxAt wc (w.heap.size + 1) b0 b1 b2 b3 b4 b5 (.slice rd rn rc) := by have := HAP.out.xb; rw [HXO.out] at this; exact this
    have HXB := Lib.hid hxb
    clear hxb
    have x1 := HXB.out.c1
    have x2 := HXB.out.c2
    have y1 := HPB1.out.c1
    go_upto_region 4 with fail
    obtain ⟨W1, hW1⟩ : ∃ W1, W1 = wc.alloc (.cells #[.int .i64 b1, .int .i64 b2, .slice none 0 0, .int .i64 (-1)] 78) := ⟨_, rfl⟩
    obtain ⟨po, hpo⟩ : ∃ po : Obj, po = .cells #[.int .i64 i1, .int .i64 e1, .slice a1 n1 c1, .int .i64 o1] 78 (0, 0) := ⟨_, rfl⟩
    have hb1 : Below wc.heap.size wc W1 := by rw [hW1]; exact (Below.refl _ _).alloc (Nat.le_refl _) _
    have HPB2 := Lib.hid (HPB1.out.on hb1)
    have HA1 : Hid (AS w po xo b1 b2 (.slice none 0 0) (-1) W1) := by
      show AS _ _ _ _ _ _ _ _
      refine ⟨by rw [hpo]; exact HPB2.out, ?_, HAP.out.rb.on hb1, ?_, HAP.out.bel.trans (hb1.mono HAP.out.bel.size)⟩
      · rw [hb1.block _ (lt_of_block HAP.out.xb)]; exact HAP.out.xb
      · have h3 := pbox_new wc b1 b2 (.slice none 0 0) (-1)
        rw [← hW1, HAP.out.sz] at h3
        exact h3
    have HL1 := Lib.hid (HRW.out.keep hb1)
    have HXB1 := Lib.hid (HXB.out.on hb1)
    have hsz := HAP.out.sz
    rw [← hW1, hsz]
    have HPO := Lib.hid hpo
    clear hW1 hb1 hsz x1 x2 y1 HPB1 HRW HXB HAP hpo
    have x2 := HXB1.out.c2
    have y1 := HPB2.out.c1
    have y2 := HPB2.out.c2
    have o2 := HA1.out.ob.c2
    have f2 := HA1.out.ob.free 2
    go_upto_if 20 with (fail)
    go_cut [] from 16 (fun wx => ∃ v, AS w po xo b1 b2 v (-1) wx ∧ OwnRow trK wx (w.heap.size + 4) v l0)
    case first =>
      by_cases hee : b2 = e1
      · have hd : (b2 == e1) = true := by rw [hee]; simp
        have e2 : l0 = l1 := by rw [← hle.out, if_pos hee]
        have HE2 := Lib.hid e2
        have HVE : Hid (OwnRow trK W1 (w.heap.size + 4) (.slice none 0 0) []) := ownRow_nil _ _ _
        clear hee e2
        go_wp2_with (at_builtin; refine list_row (by rfl) trK_ok (.tmp 22) (.tmp 24) rfl (w.heap.size + 4) [] l1 _ rfl HVE.out HA1.out.lt a1 n1 c1 rfl HL1.out (by rw [List.length_nil]; omega) ?_)
        intro v2 w2 hap
        obtain ⟨ad2, cap2, hv2, _, _⟩ := OwnRow.row trK_ok (l := l1) (n := n1) hap.1 HL1.out.length
        subst hv2
        have HO2 : Hid (OwnRow trK w2 (w.heap.size + 4) (.slice ad2 n1 cap2) l1) := hap.1
        have HA2 : Hid (AS w po xo b1 b2 (.slice none 0 0) (-1) w2) := HA1.out.grown hap.2.1 fun k hk => (HVE.out.lt k hk).1
        clear hap HVE o2 f2
        have o2 := HA2.out.ob.c2
        have f2 := HA2.out.ob.free 2
        go_wp2
        go_meet
        case rel => exact ⟨_, HA2.out.s2 (.slice ad2 n1 cap2), by rw [HE2.out]; exact HO2.out.off (by omega) _ _⟩
      · have hd : (b2 == e1) = false := beq_false_of_ne hee
        have e2 : l0 = [] := by rw [← hle.out, if_neg hee]
        clear hee
        go_wp2
        go_meet
        case rel => exact ⟨_, HA1.out, by rw [e2]; exact ownRow_nil _ _ _⟩
    case rest =>
      obtain ⟨v, ha, ho⟩ := hcut
      have HA := Lib.hid ha
      have HO := Lib.hid ho
      have hxb : BoxAt wc (w.heap.size + 1) b0 b1 b2 b3 b4 b5 (.slice rd rn rc) := by have := ha.xb; rw [HXO.out] at this; exact this
      have HXC := Lib.hid hxb
      have hn0 : l0.length ≤ 1000000 := by
        have hll := HL1.out.length
        rw [← hle.out]
        split
        · omega
        · exact Nat.zero_le _
      clear hxb ha ho HXB1 HPB2 HA1 HL1 hle x2 y1 y2 o2 f2
      obtain ⟨n0, hln0⟩ : ∃ n0, l0.length = n0 := ⟨_, rfl⟩
      rw [hln0] at hn0
      obtain ⟨ad0, cap0, hv0, hr0, hk0⟩ := OwnRow.row trK_ok HO.out hln0
      subst hv0
      have HLN := Lib.hid hln0
      have HR0 := Lib.hid hr0
      have HK0 : Hid (∀ a, ad0 = some a → w.heap.size + 4 ≤ a.block ∧ a.block < wc.heap.size) := fun a ha => hk0 a ha
      clear hln0 hr0 hk0
      have p5 := HXC.out.c5
      by_cases hm : b5 = 0
      · have hd : (b5 == 0) = true := by rw [hm]; rfl
        have hdn : (b5 != 0) = false := by rw [hm]; rfl
        have HPE : Hid (∀ oz, oz = (if b4 = true ∧ o0 < 0 then b0 else o0) → p = ⟨b1, b2, newLast l0 ⟨b3, lastI b3 rn, b0⟩, oz⟩) := HPE2.out hm
        obtain ⟨lv, hlv⟩ : ∃ lv, lastI b3 rn = lv := ⟨_, rfl⟩
        rw [hlv] at HPE
        have HLV := Lib.hid hlv
        have HM := Lib.hid hm
        clear HPE1 HPE2 hm hlv
        go_upto_region 8 with fail
        clear p5
        have KS : Hid (∀ W, AS w po xo b1 b2 (.slice ad0 n0 cap0) (-1) W → (fun (W : World) => W.cell? ⟨(w.heap.size + 1), 0, none⟩ = some (.int .i64 b0) ∧ W.cell? ⟨(w.heap.size + 1), 1, none⟩ = some (.int .i64 b1) ∧ W.cell? ⟨(w.heap.size + 1), 2, none⟩ = some (.int .i64 b2) ∧ W.cell? ⟨(w.heap.size + 1), 3, none⟩ = some (.int .i64 b3) ∧ W.cell? ⟨(w.heap.size + 1), 4, none⟩ = some (.bool b4) ∧ W.cell? ⟨(w.heap.size + 1), 5, none⟩ = some (.int .i64 b5) ∧ W.cell? ⟨(w.heap.size + 1), 6, none⟩ = some (.slice rd rn rc) ∧ W.cell? ⟨(w.heap.size + 3), 0, none⟩ = some (.int .i64 b1) ∧ W.cell? ⟨(w.heap.size + 3), 1, none⟩ = some (.int .i64 b2) ∧ W.cell? ⟨(w.heap.size + 3), 2, none⟩ = some (.slice ad0 n0 cap0) ∧ W.cell? ⟨(w.heap.size + 3), 3, none⟩ = some (.int .i64 (-1)) ∧ W.frozen? ⟨w.heap.size + 3, 2, none⟩ = false) W) := by
          intro W hW
          have hX : BoxAt W (w.heap.size + 1) b0 b1 b2 b3 b4 b5 (.slice rd rn rc) := by have := hW.xb; rw [HXO.out] at this; exact this
          exact ⟨hX.c0, hX.c1, hX.c2, hX.c3, hX.c4, hX.c5, hX.c6, hW.ob.c0, hW.ob.c1, hW.ob.c2, hW.ob.c3, hW.ob.free 2⟩
        have hdr : Below wc.heap.size wc wc.drew := (Below.refl _ wc).drew
        have HAd := Lib.hid (HA.out.on hdr)
        have HOd := Lib.hid (HO.out.on hdr)
        refine wp_region_noPanic ?_
        refine wp_region_z [12] (fun (W : World) => W.cell? ⟨(w.heap.size + 1), 0, none⟩ = some (.int .i64 b0) ∧ W.cell? ⟨(w.heap.size + 1), 1, none⟩ = some (.int .i64 b1) ∧ W.cell? ⟨(w.heap.size + 1), 2, none⟩ = some (.int .i64 b2) ∧ W.cell? ⟨(w.heap.size + 1), 3, none⟩ = some (.int .i64 b3) ∧ W.cell? ⟨(w.heap.size + 1), 4, none⟩ = some (.bool b4) ∧ W.cell? ⟨(w.heap.size + 1), 5, none⟩ = some (.int .i64 b5) ∧ W.cell? ⟨(w.heap.size + 1), 6, none⟩ = some (.slice rd rn rc) ∧ W.cell? ⟨(w.heap.size + 3), 0, none⟩ = some (.int .i64 b1) ∧ W.cell? ⟨(w.heap.size + 3), 1, none⟩ = some (.int .i64 b2) ∧ W.cell? ⟨(w.heap.size + 3), 2, none⟩ = some (.slice ad0 n0 cap0) ∧ W.cell? ⟨(w.heap.size + 3), 3, none⟩ = some (.int .i64 (-1)) ∧ W.frozen? ⟨w.heap.size + 3, 2, none⟩ = false) (by kernel_rfl) ?_
        have hHeld : (fun (W : World) => W.cell? ⟨(w.heap.size + 1), 0, none⟩ = some (.int .i64 b0) ∧ W.cell? ⟨(w.heap.size + 1), 1, none⟩ = some (.int .i64 b1) ∧ W.cell? ⟨(w.heap.size + 1), 2, none⟩ = some (.int .i64 b2) ∧ W.cell? ⟨(w.heap.size + 1), 3, none⟩ = some (.int .i64 b3) ∧ W.cell? ⟨(w.heap.size + 1), 4, none⟩ = some (.bool b4) ∧ W.cell? ⟨(w.heap.size + 1), 5, none⟩ = some (.int .i64 b5) ∧ W.cell? ⟨(w.heap.size + 1), 6, none⟩ = some (.slice rd rn rc) ∧ W.cell? ⟨(w.heap.size + 3), 0, none⟩ = some (.int .i64 b1) ∧ W.cell? ⟨(w.heap.size + 3), 1, none⟩ = some (.int .i64 b2) ∧ W.cell? ⟨(w.heap.size + 3), 2, none⟩ = some (.slice ad0 n0 cap0) ∧ W.cell? ⟨(w.heap.size + 3), 3, none⟩ = some (.int .i64 (-1)) ∧ W.frozen? ⟨w.heap.size + 3, 2, none⟩ = false) _ := KS.out _ HAd.out
        obtain ⟨u0, hu0⟩ : ∃ u, u = wc.drew := ⟨_, rfl⟩
        rw [← hu0] at hHeld HAd HOd
        rw [← hu0]
        clear hu0
        refine wpAnyZ_take (i := 0) (oi := ⟨_, _, _, _, _, _⟩) (v := ?_) rfl (by kernel_rfl) (by kernel_rfl) (by kernel_rfl) (by kernel_rfl) (by kernel_rfl) (fun _ _ _ h => h) (Or.inl ⟨by rfl, ?_⟩) (by assumption) ?_
        rotate_left
        · intro W hSw
          (try dsimp only at hSw)
          go_simp
          (try with_reducible rfl)
        (try simp only [Act.put, List.setIfInBounds_toArray, List.set_cons_zero, List.set_cons_succ])
        refine wpAnyZ_take (i := 1) (oi := ⟨_, _, _, _, _, _⟩) (v := ?_) rfl (by kernel_rfl) (by kernel_rfl) (by kernel_rfl) (by kernel_rfl) (by kernel_rfl) (fun _ _ _ h => h) (Or.inl ⟨by rfl, ?_⟩) (by assumption) ?_
        rotate_left
        · intro W hSw
          (try dsimp only at hSw)
          go_simp
          (try with_reducible rfl)
        (try simp only [Act.put, List.setIfInBounds_toArray, List.set_cons_zero, List.set_cons_succ])
        refine wpAnyZ_take (i := 2) (oi := ⟨_, _, _, _, _, _⟩) (v := ?_) rfl (by kernel_rfl) (by kernel_rfl) (by kernel_rfl) (by kernel_rfl) (by kernel_rfl) (fun _ _ _ h => h) (Or.inl ⟨by rfl, ?_⟩) (by assumption) ?_
        rotate_left
        · intro W hSw
          (try dsimp only at hSw)
          go_simp
          (try with_reducible rfl)
        (try simp only [Act.put, List.setIfInBounds_toArray, List.set_cons_zero, List.set_cons_succ])
        refine wpAnyZ_take (i := 3) (oi := ⟨_, _, _, _, _, _⟩) (v := ?_) rfl (by kernel_rfl) (by kernel_rfl) (by kernel_rfl) (by kernel_rfl) (by kernel_rfl) (fun _ _ _ h => h) (Or.inl ⟨by rfl, ?_⟩) (by assumption) ?_
        rotate_left
        · intro W hSw
          (try dsimp only at hSw)
          go_simp
          (try with_reducible rfl)
        (try simp only [Act.put, List.setIfInBounds_toArray, List.set_cons_zero, List.set_cons_succ])
        refine wpAnyZ_take (i := 4) (oi := ⟨_, _, _, _, _, _⟩) (v := ?_) rfl (by kernel_rfl) (by kernel_rfl) (by kernel_rfl) (by kernel_rfl) (by kernel_rfl) (fun _ _ _ h => h) (Or.inl ⟨by rfl, ?_⟩) (by assumption) ?_
        rotate_left
        · intro W hSw
          (try dsimp only at hSw)
          go_simp
          (try with_reducible rfl)
        (try simp only [Act.put, List.setIfInBounds_toArray, List.set_cons_zero, List.set_cons_succ])
        refine wpAnyZ_take (i := 6) (oi := ⟨_, _, _, _, _, _⟩) (v := ?_) rfl (by kernel_rfl) (by kernel_rfl) (by kernel_rfl) (by kernel_rfl) (by kernel_rfl) (fun _ _ _ h => h) (Or.inl ⟨by rfl, ?_⟩) (by assumption) ?_
        rotate_left
        · intro W hSw
          (try dsimp only at hSw)
          go_simp
          (try with_reducible rfl)
        (try simp only [Act.put, List.setIfInBounds_toArray, List.set_cons_zero, List.set_cons_succ])
        refine wpAnyZ_take (i := 7) (oi := ⟨_, _, _, _, _, _⟩) (v := ?_) rfl (by kernel_rfl) (by kernel_rfl) (by kernel_rfl) (by kernel_rfl) (by kernel_rfl) (fun _ _ _ h => h) (Or.inl ⟨by rfl, ?_⟩) (by assumption) ?_
        rotate_left
        · intro W hSw
          (try dsimp only at hSw)
          go_simp
          (try with_reducible rfl)
        (try simp only [Act.put, List.setIfInBounds_toArray, List.set_cons_zero, List.set_cons_succ])
        refine wpAnyZ_ready (rs := [5]) (by kernel_rfl) (by simp) ?_
        refine AllReadyZ.cons (o := ⟨_, _, _, _, _, _⟩) rfl (fun C hC => ?_) AllReadyZ.nil
        go_simp
        refine (prEnd_any u0 b0 b1 b2 b3 b4 b5 rd rn rc HM.out hrn lv HLV.out).mono ?_
        rintro e uz ⟨rfl, hbz⟩
        have HAz := Lib.hid (HAd.out.on hbz)
        have HOz := Lib.hid (HOd.out.on hbz)
        clear hbz
        go_wp2_with fail
        have hHeld : (fun (W : World) => W.cell? ⟨(w.heap.size + 1), 0, none⟩ = some (.int .i64 b0) ∧ W.cell? ⟨(w.heap.size + 1), 1, none⟩ = some (.int .i64 b1) ∧ W.cell? ⟨(w.heap.size + 1), 2, none⟩ = some (.int .i64 b2) ∧ W.cell? ⟨(w.heap.size + 1), 3, none⟩ = some (.int .i64 b3) ∧ W.cell? ⟨(w.heap.size + 1), 4, none⟩ = some (.bool b4) ∧ W.cell? ⟨(w.heap.size + 1), 5, none⟩ = some (.int .i64 b5) ∧ W.cell? ⟨(w.heap.size + 1), 6, none⟩ = some (.slice rd rn rc) ∧ W.cell? ⟨(w.heap.size + 3), 0, none⟩ = some (.int .i64 b1) ∧ W.cell? ⟨(w.heap.size + 3), 1, none⟩ = some (.int .i64 b2) ∧ W.cell? ⟨(w.heap.size + 3), 2, none⟩ = some (.slice ad0 n0 cap0) ∧ W.cell? ⟨(w.heap.size + 3), 3, none⟩ = some (.int .i64 (-1)) ∧ W.frozen? ⟨w.heap.size + 3, 2, none⟩ = false) uz := KS.out _ HAz.out
        refine hC.out _ _ (fun _ => hHeld) (fun _ => ?_)
        clear hC C
        (try simp only [Act.put, List.setIfInBounds_toArray, List.set_cons_zero, List.set_cons_succ])
        refine wpAnyZ_take (i := 8) (oi := ⟨_, _, _, _, _, _⟩) (v := ?_) rfl (by kernel_rfl) (by kernel_rfl) (by kernel_rfl) (by kernel_rfl) (by kernel_rfl) (fun _ _ _ h => h) (Or.inl ⟨by rfl, ?_⟩) (by assumption) ?_
        rotate_left
        · intro W hSw
          (try dsimp only at hSw)
          go_simp
          (try with_reducible rfl)
        (try simp only [Act.put, List.setIfInBounds_toArray, List.set_cons_zero, List.set_cons_succ])
        refine wpAnyZ_ready (rs := [9]) (by kernel_rfl) (by simp) ?_
        refine AllReadyZ.cons (o := ⟨_, _, _, _, _, _⟩) rfl (fun C hC => ?_) AllReadyZ.nil
        go_simp
        obtain ⟨u1, hu1⟩ : ∃ u, u = uz.alloc (.cells #[.int .i64 b3, .int .i64 lv, .int .i64 b0] 79) := ⟨_, rfl⟩
        have hb1 : Below uz.heap.size uz u1 := by rw [hu1]; exact (Below.refl _ _).alloc (Nat.le_refl _) _
        have HA1 := Lib.hid (HAz.out.on hb1)
        have HO1 := Lib.hid (HOz.out.on hb1)
        have HX1 : Hid (RowAt trK u1 (some ⟨uz.heap.size, 0, none⟩) 1 1 [⟨b3, lv, b0⟩]) := by show RowAt _ _ _ _ _ _; rw [hu1]; exact rowAt_lit trK_ok uz [⟨b3, lv, b0⟩] (by simp) _ rfl 1 rfl
        obtain ⟨G0, hG0⟩ : ∃ G, G = uz.heap.size := ⟨_, rfl⟩
        rw [← hG0] at HX1
        rw [← hu1, ← hG0]
        clear hu1 hb1 hG0
        have hHeld : (fun (W : World) => W.cell? ⟨(w.heap.size + 1), 0, none⟩ = some (.int .i64 b0) ∧ W.cell? ⟨(w.heap.size + 1), 1, none⟩ = some (.int .i64 b1) ∧ W.cell? ⟨(w.heap.size + 1), 2, none⟩ = some (.int .i64 b2) ∧ W.cell? ⟨(w.heap.size + 1), 3, none⟩ = some (.int .i64 b3) ∧ W.cell? ⟨(w.heap.size + 1), 4, none⟩ = some (.bool b4) ∧ W.cell? ⟨(w.heap.size + 1), 5, none⟩ = some (.int .i64 b5) ∧ W.cell? ⟨(w.heap.size + 1), 6, none⟩ = some (.slice rd rn rc) ∧ W.cell? ⟨(w.heap.size + 3), 0, none⟩ = some (.int .i64 b1) ∧ W.cell? ⟨(w.heap.size + 3), 1, none⟩ = some (.int .i64 b2) ∧ W.cell? ⟨(w.heap.size + 3), 2, none⟩ = some (.slice ad0 n0 cap0) ∧ W.cell? ⟨(w.heap.size + 3), 3, none⟩ = some (.int .i64 (-1)) ∧ W.frozen? ⟨w.heap.size + 3, 2, none⟩ = false) u1 := KS.out _ HA1.out
        refine hC.out _ _ (fun _ => hHeld) (fun _ => ?_)
        clear hC C
        (try simp only [Act.put, List.setIfInBounds_toArray, List.set_cons_zero, List.set_cons_succ])
        refine wpAnyZ_ready (rs := [10]) (by kernel_rfl) (by simp) ?_
        refine AllReadyZ.cons (o := ⟨_, _, _, _, _, _⟩) rfl (fun C hC => ?_) AllReadyZ.nil
        refine held_row (by rfl) trK_ok (.tmp 32) (.tmp 40) rfl (w.heap.size + 4) l0 [⟨b3, lv, b0⟩] _ rfl HO1.out HA1.out.lt (some ⟨G0, 0, none⟩) 1 1 rfl HX1.out (by rw [HLN.out]; omega) ?_
        rintro v2 u2 hap
        obtain ⟨ad2, cap2, hv2, hr2, hk2⟩ := OwnRow.row trK_ok hap.1 (n := n0 + 1) (by rw [List.length_append, HLN.out]; rfl)
        subst hv2
        have HA2 : Hid (AS w po xo b1 b2 (.slice ad0 n0 cap0) (-1) u2) := HA1.out.grown hap.2.1 fun k hk => (HO1.out.lt k hk).1
        have HR2 := Lib.hid hr2
        have HK2 : Hid (∀ a, ad2 = some a → w.heap.size + 4 ≤ a.block ∧ a.block < u2.heap.size) := fun a ha => hk2 a ha
        clear hap hr2 hk2 HO1 HA1 HX1 HAz HOz
        have hHeld : (fun (W : World) => W.cell? ⟨(w.heap.size + 1), 0, none⟩ = some (.int .i64 b0) ∧ W.cell? ⟨(w.heap.size + 1), 1, none⟩ = some (.int .i64 b1) ∧ W.cell? ⟨(w.heap.size + 1), 2, none⟩ = some (.int .i64 b2) ∧ W.cell? ⟨(w.heap.size + 1), 3, none⟩ = some (.int .i64 b3) ∧ W.cell? ⟨(w.heap.size + 1), 4, none⟩ = some (.bool b4) ∧ W.cell? ⟨(w.heap.size + 1), 5, none⟩ = some (.int .i64 b5) ∧ W.cell? ⟨(w.heap.size + 1), 6, none⟩ = some (.slice rd rn rc) ∧ W.cell? ⟨(w.heap.size + 3), 0, none⟩ = some (.int .i64 b1) ∧ W.cell? ⟨(w.heap.size + 3), 1, none⟩ = some (.int .i64 b2) ∧ W.cell? ⟨(w.heap.size + 3), 2, none⟩ = some (.slice ad0 n0 cap0) ∧ W.cell? ⟨(w.heap.size + 3), 3, none⟩ = some (.int .i64 (-1)) ∧ W.frozen? ⟨w.heap.size + 3, 2, none⟩ = false) u2 := KS.out _ HA2.out
        refine hC.out _ _ (fun _ => hHeld) (fun _ => ?_)
        clear hC C
        (try simp only [Act.put, List.setIfInBounds_toArray, List.set_cons_zero, List.set_cons_succ])
        refine wpAnyZ_take (i := 11) (oi := ⟨_, _, _, _, _, _⟩) (v := ?_) rfl (by kernel_rfl) (by kernel_rfl) (by kernel_rfl) (by kernel_rfl) (by kernel_rfl) (fun _ _ _ h => h) (Or.inl ⟨by rfl, ?_⟩) (by assumption) ?_
        rotate_left
        · intro W hSw
          (try dsimp only at hSw)
          go_simp
          (try with_reducible rfl)
        (try simp only [Act.put, List.setIfInBounds_toArray, List.set_cons_zero, List.set_cons_succ])
        refine wpAnyZ_ready (rs := [12]) (by kernel_rfl) (by simp) ?_
        refine AllReadyZ.cons (o := ⟨_, _, _, _, _, _⟩) rfl (fun C hC => ?_) AllReadyZ.nil
        go_simp
        refine hC.out _ _ (zfree_no (by kernel_rfl)) (fun _ => ?_)
        clear hC C
        (try simp only [Act.put, List.setIfInBounds_toArray, List.set_cons_zero, List.set_cons_succ])
        refine wpAnyZ_done (by kernel_rfl) ?_ _
        refine NoPanic.normal ?_
        clear hHeld
        obtain ⟨w3, hw3⟩ : ∃ w3, w3 = u2.setCell ⟨w.heap.size + 3, 2, none⟩ (.slice ad2 (n0 + 1) cap2) := ⟨_, rfl⟩
        have HA3 : Hid (AS w po xo b1 b2 (.slice ad2 (n0 + 1) cap2) (-1) w3) := by show AS _ _ _ _ _ _ _ _; rw [hw3]; exact HA2.out.s2 _
        have HR3 : Hid (RowAt trK w3 ad2 (n0 + 1) cap2 (l0 ++ [⟨b3, lv, b0⟩])) := by show RowAt _ _ _ _ _ _; rw [hw3]; exact HR2.out.off (fun a ha => by have := (HK2.out a ha).1; omega) _ _
        have HK3 : Hid (∀ a, ad2 = some a → w.heap.size + 4 ≤ a.block ∧ a.block < w3.heap.size) := fun a ha => by rw [hw3, size_set]; exact HK2.out a ha
        rw [← hw3]
        clear hw3 HA2 HR2 HA HAd HOd HR0 HK0 HXC HO HK2
        obtain ⟨k, hk⟩ : ∃ k, k = n0 + 1 - 5 := ⟨_, rfl⟩
        obtain ⟨ad4, cap4, hcut, hr4, hk4⟩ := row_from trK_ok HR3.out k (by omega)
        have hcut : ∀ W, (Instr.slice 76 (.slice ad2 (n0 + 1) cap2) (some (.int .i64 (k : Int))) none none).run Tryz.prog W = .ok (.slice ad4 (n0 + 1 - k) cap4) W := hcut
        have hmx : (if (n0 : Int) + 1 - 5 < 0 then 0 else (n0 : Int) + 1 - 5) = (k : Int) := by split <;> omega
        have HK4 : Hid (∀ a, ad4 = some a → w.heap.size + 4 ≤ a.block ∧ a.block < w3.heap.size) := fun a ha => by
          obtain ⟨a0, h0, h1⟩ := hk4 a ha
          rw [h1]; exact HK3.out a0 h0
        obtain ⟨l4, hl4⟩ : ∃ l4, l4 = (l0 ++ [(⟨b3, lv, b0⟩ : Tr)]).drop k := ⟨_, rfl⟩
        have HPF : Hid (∀ oz, oz = (if b4 = true ∧ o1 < 0 then b0 else o1) → p = ⟨b1, b2, l4, oz⟩) := by
          intro oz hoz
          rw [hoe.out] at hoz
          rw [HPE.out oz hoz, hl4, hk]
          unfold newLast
          rw [HLN.out]
        rw [← hl4] at hr4
        have HR4 := Lib.hid hr4
        have HKK := Lib.hid hk
        clear hr4 hk4 hl4 HPE HR3 HK3 hk
        have o0_ := HA3.out.ob.c2
        have g2 := HA3.out.ob.free 2
        go_upto_region 10 with fail
        obtain ⟨n4, hn4⟩ : ∃ n4, n4 = n0 + 1 - k := ⟨_, rfl⟩
        rw [← hn4] at HR4
        rw [← hn4]
        obtain ⟨w4, hw4⟩ : ∃ w4, w4 = w3.setCell ⟨w.heap.size + 3, 2, none⟩ (.slice ad4 n4 cap4) := ⟨_, rfl⟩
        have HA4 : Hid (AS w po xo b1 b2 (.slice ad4 n4 cap4) (-1) w4) := by show AS _ _ _ _ _ _ _ _; rw [hw4]; exact HA3.out.s2 _
        have HR5 : Hid (RowAt trK w4 ad4 n4 cap4 l4) := by show RowAt _ _ _ _ _ _; rw [hw4]; exact HR4.out.off (fun a ha => by have := (HK4.out a ha).1; omega) _ _
        have HK5 : Hid (∀ a, ad4 = some a → w.heap.size + 4 ≤ a.block ∧ a.block < w4.heap.size) := fun a ha => by rw [hw4, size_set]; exact HK4.out a ha
        rw [← hw4]
        clear hw4 HA3 HR4 HK4 hcut hmx hn4 o0_ g2 KS
        have HPC : Hid (PBox w4 w.heap.size i1 e1 (.slice a1 n1 c1) o1) := by show (_ : World).heap[_]? = _; rw [HA4.out.pb, HPO.out]
        have y3 := HPC.out.c3
        have g3 := HA4.out.ob.free 3
        have oc3 := HA4.out.ob.c3
        go_upto_region 11 with fail
        obtain ⟨w5, hw5⟩ : ∃ w5, w5 = w4.setCell ⟨w.heap.size + 3, 3, none⟩ (.int .i64 o1) := ⟨_, rfl⟩
        have HA5 : Hid (AS w po xo b1 b2 (.slice ad4 n4 cap4) o1 w5) := by show AS _ _ _ _ _ _ _ _; rw [hw5]; exact HA4.out.s3 _
        have HR6 : Hid (RowAt trK w5 ad4 n4 cap4 l4) := by show RowAt _ _ _ _ _ _; rw [hw5]; exact HR5.out.off (fun a ha => by have := (HK5.out a ha).1; omega) _ _
        have HK6 : Hid (∀ a, ad4 = some a → w.heap.size + 4 ≤ a.block ∧ a.block < w5.heap.size) := fun a ha => by rw [hw5, size_set]; exact HK5.out a ha
        rw [← hw5]
        clear hw5 HA4 HR5 HK5 y3 g3 oc3 HPC
        have HPC : Hid (PBox w5 w.heap.size i1 e1 (.slice a1 n1 c1) o1) := by show (_ : World).heap[_]? = _; rw [HA5.out.pb, HPO.out]
        have hX : BoxAt w5 (w.heap.size + 1) b0 b1 b2 b3 b4 b5 (.slice rd rn rc) := by have := HA5.out.xb; rw [HXO.out] at this; exact this
        have p4 := hX.c4
        cases b4
        · have HP : Hid (p = ⟨b1, b2, l4, o1⟩) := HPF.out o1 (by simp)
          clear HPF hX
          have oc0 := HA5.out.ob.c0
          have g0 := HA5.out.ob.free 0
          have r0 := HA5.out.rb.c0
          have f0 := HA5.out.rb.free 0
          have oc1 := HA5.out.ob.c1
          have g1 := HA5.out.ob.free 1
          have r1 := HA5.out.rb.c1
          have f1 := HA5.out.rb.free 1
          have oc2 := HA5.out.ob.c2
          have g2 := HA5.out.ob.free 2
          have r2 := HA5.out.rb.c2
          have f2 := HA5.out.rb.free 2
          have oc3 := HA5.out.ob.c3
          have g3 := HA5.out.ob.free 3
          have r3 := HA5.out.rb.c3
          have f3 := HA5.out.rb.free 3
          go_wp2
          exact bodyPost_ret (resultsPrApply ((((HA5.out.rb.s0 b1).s1 b2).s2 (.slice ad4 n4 cap4)).s3 o1) rfl) rfl (gives_apply HA5.out HP.out HR6.out HK6.out)
        · have y0 := HPC.out.c0
          have y1 := HPC.out.c1
          have y2 := HPC.out.c2
          have y3 := HPC.out.c3
          clear hX
          by_cases hlt : 0 ≤ o1
          · have HD : Hid (decide (0 ≤ o1) = true) := decide_eq_true hlt
            have HP : Hid (p = ⟨b1, b2, l4, o1⟩) := HPF.out o1 (by simp [Int.not_lt.2 hlt])
            clear HPF hlt
            go_wp2_with fail
            refine (prOpen_any w5 i1 e1 o1 a1 n1 c1 true HD.out).mono ?_
            rintro e w6 ⟨rfl, hb6⟩
            have HA6 := Lib.hid (HA5.out.on hb6)
            have HR7 := Lib.hid (HR6.out.keep hb6)
            have HK7 : Hid (∀ a, ad4 = some a → w.heap.size + 4 ≤ a.block ∧ a.block < w6.heap.size) := fun a ha => ⟨(HK6.out a ha).1, Nat.lt_of_lt_of_le (HK6.out a ha).2 hb6.size⟩
            clear hb6 HA5 HR6 HK6 y0 y1 y2 y3 p4 HPC
            have oc0 := HA6.out.ob.c0
            have g0 := HA6.out.ob.free 0
            have r0 := HA6.out.rb.c0
            have f0 := HA6.out.rb.free 0
            have oc1 := HA6.out.ob.c1
            have g1 := HA6.out.ob.free 1
            have r1 := HA6.out.rb.c1
            have f1 := HA6.out.rb.free 1
            have oc2 := HA6.out.ob.c2
            have g2 := HA6.out.ob.free 2
            have r2 := HA6.out.rb.c2
            have f2 := HA6.out.rb.free 2
            have oc3 := HA6.out.ob.c3
            have g3 := HA6.out.ob.free 3
            have r3 := HA6.out.rb.c3
            have f3 := HA6.out.rb.free 3
            go_wp2
            exact bodyPost_ret (resultsPrApply ((((HA6.out.rb.s0 b1).s1 b2).s2 (.slice ad4 n4 cap4)).s3 o1) rfl) rfl (gives_apply HA6.out HP.out HR7.out HK7.out)
          · have HD : Hid (decide (0 ≤ o1) = false) := decide_eq_false hlt
            have HP : Hid (p = ⟨b1, b2, l4, b0⟩) := HPF.out b0 (by simp [Int.not_le.1 hlt])
            clear HPF hlt
            go_wp2_with fail
            refine (prOpen_any w5 i1 e1 o1 a1 n1 c1 false HD.out).mono ?_
            rintro e w6 ⟨rfl, hb6⟩
            have HA6 := Lib.hid (HA5.out.on hb6)
            have HR7 := Lib.hid (HR6.out.keep hb6)
            have HK7 : Hid (∀ a, ad4 = some a → w.heap.size + 4 ≤ a.block ∧ a.block < w6.heap.size) := fun a ha => ⟨(HK6.out a ha).1, Nat.lt_of_lt_of_le (HK6.out a ha).2 hb6.size⟩
            have hX : BoxAt w6 (w.heap.size + 1) b0 b1 b2 b3 true b5 (.slice rd rn rc) := by have := HA6.out.xb; rw [HXO.out] at this; exact this
            clear hb6 HA5 HR6 HK6 y0 y1 y2 y3 p4 HPC
            have p0 := hX.c0
            clear hX
            have oc0 := HA6.out.ob.c0
            have g0 := HA6.out.ob.free 0
            have r0 := HA6.out.rb.c0
            have f0 := HA6.out.rb.free 0
            have oc1 := HA6.out.ob.c1
            have g1 := HA6.out.ob.free 1
            have r1 := HA6.out.rb.c1
            have f1 := HA6.out.rb.free 1
            have oc2 := HA6.out.ob.c2
            have g2 := HA6.out.ob.free 2
            have r2 := HA6.out.rb.c2
            have f2 := HA6.out.rb.free 2
            have oc3 := HA6.out.ob.c3
            have g3 := HA6.out.ob.free 3
            have r3 := HA6.out.rb.c3
            have f3 := HA6.out.rb.free 3
            go_wp2
            exact bodyPost_ret (resultsPrApply (((((HA6.out.s3 b0).rb.s0 b1).s1 b2).s2 (.slice ad4 n4 cap4)).s3 b0) rfl) rfl (gives_apply (HA6.out.s3 b0) HP.out (HR7.out.off (fun a ha => by have := (HK7.out a ha).1; omega) _ _) (fun a ha => by rw [size_set]; exact HK7.out a ha))
      · have hd : (b5 == 0) = false := beq_false_of_ne hm
        have hdn : (b5 != 0) = true := by unfold bne; rw [hd]; rfl
        have HPE := Lib.hid (HPE1.out hm)
        clear HPE1 HPE2 hm
        have oc0 := HA.out.ob.c0
        have g0 := HA.out.ob.free 0
        have r0 := HA.out.rb.c0
        have f0 := HA.out.rb.free 0
        have oc1 := HA.out.ob.c1
        have g1 := HA.out.ob.free 1
        have r1 := HA.out.rb.c1
        have f1 := HA.out.rb.free 1
        have oc2 := HA.out.ob.c2
        have g2 := HA.out.ob.free 2
        have r2 := HA.out.rb.c2
        have f2 := HA.out.rb.free 2
        have oc3 := HA.out.ob.c3
        have g3 := HA.out.ob.free 3
        have r3 := HA.out.rb.c3
        have f3 := HA.out.rb.free 3
        go_wp2
        exact bodyPost_ret (resultsPrApply ((((HA.out.rb.s0 b1).s1 b2).s2 (.slice ad0 n0 cap0)).s3 (-1)) rfl) rfl (gives_apply HA.out HPE.out HR0.out HK0.out)
end Go.Proofs.YtgohekjkbgfeeaaGreat
namespace Go.Proofs.YtgohekjkbgfeeaaGreat
open Go.RowKit
open Go.SeqMath
open Go.ProdMath
open Go.BatMath hiding AllB getD_lt take_all
set_option linter.unusedVariables false

theorem right_prod {b : Bat} (h : rightE b = 0) : b.prod = -1 ∨ 0 ≤ b.prod := by
  unfold rightE at h
  split at h
  · omega
  · split at h
    · split at h
      · rename_i h2; exact .inr (head_of h2.2.1).1
      · omega
    · split at h
      · rename_i h2
        rcases h2.1 with h3 | h3
        · exact .inl (none_of h3).1
        · exact .inr (head_of h3.1).1
      · omega
end Go.Proofs.YtgohekjkbgfeeaaGreat
namespace Go.Proofs.YtgohekjkbgfeeaaGreat
open Go.RowKit
open Go.SeqMath
open Go.ProdMath
open Go.BatMath hiding AllB getD_lt take_all
set_option linter.unusedVariables false

theorem insM_mem : ∀ (ms : List PM) (x q : PM), q ∈ insM ms x → q = x ∨ q ∈ ms
  | [], x, q, h => .inl (by simpa [insM] using h)
  | m :: ms, x, q, h => by
    unfold insM at h
    split at h
    · rcases List.mem_cons.1 h with h | h
      · exact .inr (by simp [h])
      · rcases insM_mem ms x q h with h | h
        · exact .inl h
        · exact .inr (by simp [h])
    · split at h
      · rcases List.mem_cons.1 h with h | h
        · exact .inl h
        · exact .inr (by simp [h])
      · rcases List.mem_cons.1 h with h | h
        · exact .inl h
        · exact .inr h
/-- 't.states[id] = x'. -/
theorem tc_put {w : World} {km : Nat} {ms : List PM} (h : TcMap w km ms) (ha : Asc (pds ms)) (mx : PM) (k : Int) (hk : mx.p.id = k) (h0 : -9223372036854775808 ≤ k) (h1 : k ≤ 9223372036854775807) :
    ∃ w', (Instr.mapUpdate 103 (.map (some km)) (.int .i64 k) (.agg #[.int .i64 mx.p.id, .int .i64 mx.p.epoch, .slice mx.ad mx.p.last.length mx.cap, .int .i64 mx.p.opn])).run Tryz.prog w = .ok () w' ∧ TcMap w' km (insM ms mx) ∧ w.grownBy w' (some km) ∧ w'.heap.size = w.heap.size := by
  subst hk
  cases hm : lookM ms mx.p.id with
  | none =>
    have hn := lookM_none hm
    obtain ⟨w', hrun, hmap, hg, hs⟩ := mapAs_put tcMapT keyI h mx (key_int h0 h1) (fun q hq e => hn q hq (by simpa [pmE] using e))
    exact ⟨w', hrun, hmap.perm (insM_new ms mx hn).symm, hg, hs⟩
  | some m0 =>
    obtain ⟨hmem, hid⟩ := lookM_some hm
    obtain ⟨rest, r1, r2⟩ := insM_old ms mx m0 ha hmem hid
    obtain ⟨w', hrun, hmap, hg, hs⟩ := mapAs_set tcMapT keyI (h.perm r1) mx (by show Value.int .i64 m0.p.id = .int .i64 mx.p.id; rw [hid])
    exact ⟨w', hrun, hmap.perm r2.symm, hg, hs⟩
theorem set_other {W : World} {D km j : Nat} (hne : D ≠ km) (u : Value) : (W.setCell ⟨D, j, none⟩ u).heap[km]? = W.heap[km]? := by
  show (W.heap.modify D _)[km]? = _
  rw [Array.getElem?_modify, if_neg hne]
/-- What stands behind the table's Apply. -/
def GivesTcApply (w : World) (kt km : Nat) (l' : List Pd) (r : Option Dr) (e : Ending) (w' : World) : Prop :=
  ∃ d ms, e = .returned (.tuple #[.agg #[.int .i64 d.prod, .int .i64 d.first, .int .i64 d.last], .bool r.isSome]) ∧ r.getD Dr.zero = d ∧ TcOk w' kt km ms ∧ pds ms = l' ∧ w.grownBy w' (some km)
theorem resultsTcApply {tmps : Array Value} {B : Nat} {W : World} {d : Dr} {x : Value} (h : DBox W B d) (ht : tmps.getD 4 undef = .pointer (some ⟨B, 0, none⟩)) (hx : tmps.getD 5 undef = x) :
    (results Tryz.f21 tmps).run Tryz.prog W = .ok (.tuple #[.agg #[.int .i64 d.prod, .int .i64 d.first, .int .i64 d.last], x]) W := by
  rw [results_cell_tmp (p := 4) (u := 5) (ty := 58) Tryz.results21, ht]
  have hl := run_loadVar_row (P := Tryz.prog) W B 58 58 _ (0, 0) _ h Tryz.underlying58 rfl (by kernel_rfl)
  simp only [asAddr, Sem.run_pure, Result.andThen, hl, hx]
/-- What stands ahead of the end. -/
structure TcW (w : World) (km D : Nat) (ms0 ms : List PM) (W : World) : Prop where
  map : TcMap W km ms
  ins : ∀ m ∈ ms, m ∈ ms0 ∨ (LastAt W m ∧ ∀ a, m.ad = some a → a.block ≠ D)
  gr : w.grownBy W (some km)
theorem TcW.on {w W W' : World} {km D : Nat} {ms0 ms : List PM} (h : TcW w km D ms0 ms W) (hb : Below W.heap.size W W') : TcW w km D ms0 ms W' :=
  ⟨h.map.on hb, fun m hm => (h.ins m hm).imp_right fun h2 => ⟨h2.1.keep hb, h2.2⟩, grow_below h.gr hb⟩
theorem gives_tcapply {w W : World} {kt km D : Nat} {ms0 ms : List PM} {l' : List Pd} {r : Option Dr} {d : Dr} {u0 u1 u2 : Value} {ok : Bool} (ht : TcOk w kt km ms0) (hW : TcW w km D ms0 ms W) (hD : w.heap.size ≤ D) (hl : pds ms = l') (hok : r.isSome = ok) (hd : r.getD Dr.zero = d) :
    GivesTcApply w kt km l' r (.returned (.tuple #[.agg #[.int .i64 d.prod, .int .i64 d.first, .int .i64 d.last], .bool ok])) (((W.setCell ⟨D, 0, none⟩ u0).setCell ⟨D, 1, none⟩ u1).setCell ⟨D, 2, none⟩ u2) := by
  subst hok
  have hkm := ht.map.lt
  have hne : D ≠ km := by omega
  have hg : w.grownBy (((W.setCell ⟨D, 0, none⟩ u0).setCell ⟨D, 1, none⟩ u1).setCell ⟨D, 2, none⟩ u2) (some km) := grow_new (grow_new (grow_new hW.gr hD _) hD _) hD _
  refine ⟨d, ms, rfl, hd, ⟨ht.box.past_map hg ht.map.is, hW.map.same ?_, fun m hm => ?_⟩, hl, hg⟩
  · rw [set_other hne, set_other hne, set_other hne]
  · rcases hW.ins m hm with h | ⟨h, h2⟩
    · exact (ht.ins m h).past_map hg ht.map.is
    · exact ((h.off h2 _ _).off h2 _ _).off h2 _ _
set_option maxRecDepth 100000 in
set_option maxHeartbeats 8000000 in
theorem tcApply_any (w : World) (kt km : Nat) (ms : List PM) (h : TcOk w kt km ms) (hasc : Asc (pds ms)) (hfew : fewP (pds ms)) (b : Bat) (rd : Option Addr) (rn rc : Nat) (hr : RecsAt w rd rn rc b.recs) (ht : TextsOk b.recs) (hrn : rn ≤ 140737488355328) (hwf : b.prod ≤ 9223372036854775807) :
    Calls Tryz.prog 21 #[.pointer (some ⟨kt, 0, none⟩), .agg #[.int .i64 b.base, .int .i64 b.prod, .int .i64 b.epoch, .int .i64 b.seq, .bool b.txn, .int .i64 b.marker, .slice rd rn rc]] w (GivesTcApply w kt km (tapplyD (pds ms) b) (tdropD (pds ms) b)) := by
  obtain ⟨b0, b1, b2, b3, b4, b5, recs⟩ := b
  simp only at hr ht hwf
  simp only
  have HT := Lib.hid h
  obtain ⟨W0, hW0⟩ : ∃ W0, W0 = ((w.alloc (.cells #[.int .i64 b0, .int .i64 b1, .int .i64 b2, .int .i64 b3, .bool b4, .int .i64 b5, .slice rd rn rc] 56)).alloc (.cells #[.int .i64 0, .int .i64 0, .int .i64 0] 58)) := ⟨_, rfl⟩
  have HB0 : Hid (Below w.heap.size w W0) := by show Below _ _ _; rw [hW0]; exact ((Below.refl _ _).alloc (Nat.le_refl _) _).alloc (by simp) _
  have HX0 : Hid (BoxAt W0 w.heap.size b0 b1 b2 b3 b4 b5 (.slice rd rn rc)) := by
    show BoxAt _ _ _ _ _ _ _ _ _
    rw [hW0]
    exact (boxAt_new w b0 b1 b2 b3 b4 b5 (.slice rd rn rc)).keep ((Below.refl _ _).alloc (Nat.le_refl _) _) (by simp)
  have HD0 : Hid (DBox W0 (w.heap.size + 1) Dr.zero) := by
    show DBox _ _ _
    rw [hW0]
    have := dbox_new (w.alloc (.cells #[.int .i64 b0, .int .i64 b1, .int .i64 b2, .int .i64 b3, .bool b4, .int .i64 b5, .slice rd rn rc] 56)) Dr.zero
    rw [show (w.alloc (.cells #[.int .i64 b0, .int .i64 b1, .int .i64 b2, .int .i64 b3, .bool b4, .int .i64 b5, .slice rd rn rc] 56)).heap.size = w.heap.size + 1 by simp] at this
    exact this
  have HT0 := Lib.hid (h.keep HB0.out)
  have HRE0 := Lib.hid (hr.keep HB0.out)
  have hrl := hr.length
  have HF := Lib.hid hfew
  have HAS := Lib.hid hasc
  have HTX := Lib.hid ht
  have HW0 := Lib.hid hW0
  clear h hr hfew hW0 ht hasc
  obtain ⟨B, hB⟩ : ∃ B, B = w.heap.size := ⟨_, rfl⟩
  obtain ⟨D, hD⟩ : ∃ D, D = w.heap.size + 1 := ⟨_, rfl⟩
  have HBD : Hid (w.heap.size ≤ B ∧ w.heap.size ≤ D ∧ D ≠ B) := by show _ ∧ _ ∧ _; omega
  rw [← hB] at HX0
  rw [← hD] at HD0
  obtain ⟨l, hl⟩ : ∃ l, l = pds ms := ⟨_, rfl⟩
  obtain ⟨r, hre⟩ : ∃ r, rightE ⟨b0, b1, b2, b3, b4, b5, recs⟩ = r := ⟨_, rfl⟩
  have HRE := Lib.hid hre
  obtain ⟨l', hl'⟩ : ∃ l', tapplyD (pds ms) ⟨b0, b1, b2, b3, b4, b5, recs⟩ = l' := ⟨_, rfl⟩
  obtain ⟨dr, hdr⟩ : ∃ dr, tdropD (pds ms) ⟨b0, b1, b2, b3, b4, b5, recs⟩ = dr := ⟨_, rfl⟩
  rw [hl', hdr]
  have HLP := Lib.hid hl'
  have HDR := Lib.hid hdr
  clear hl' hdr hre
  go_enter Tryz.func21, Tryz.ntmps21
  go_upto_region 1 with fail
  rw [← HW0.out, ← hD, ← hB]
  clear hB hD HW0
  have p0 := HX0.out.c0
  have p1 := HX0.out.c1
  have p2 := HX0.out.c2
  have p3 := HX0.out.c3
  have p4 := HX0.out.c4
  have p5 := HX0.out.c5
  have p6 := HX0.out.c6
  go_wp2_with fail
  have CR := batRight_any W0 ⟨b0, b1, b2, b3, b4, b5, recs⟩ rd rn rc HRE0.out HTX.out hrn
  rw [HRE.out] at CR
  refine CR.mono ?_
  clear CR
  rintro e w1 ⟨rfl, hb1⟩
  have HB1 := Lib.hid (HB0.out.trans (hb1.mono HB0.out.size))
  have HX1 := Lib.hid (HX0.out.on hb1)
  have HD1 := Lib.hid (HD0.out.on hb1)
  have HT1 := Lib.hid (HT0.out.keep hb1)
  clear hb1 HX0 HD0 HT0 p0 p1 p2 p3 p4 p5 p6
  have p1 := HX1.out.c1
  by_cases hz : r = 0 ∧ b1 ≠ -1
  · obtain ⟨hz1, hz2⟩ := hz
    have hd : (r != 0) = false := by rw [hz1]; rfl
    have hd2 : (b1 == -1) = false := beq_false_of_ne hz2
    have HRR : Hid (rightE ⟨b0, b1, b2, b3, b4, b5, recs⟩ = 0) := by show _ = _; rw [HRE.out, hz1]
    have hn0 : 0 ≤ b1 := by
      rcases right_prod HRR.out with h | h
      · exact absurd h hz2
      · exact h
    obtain ⟨p, kn, pd, pn, pc, hp, hk, hn5, hlk, _, hrow⟩ := tc_look ms b1 (by omega) hwf HF.out
    have HLQ : Hid (l' = insD (pds ms) (applyD p kn ⟨b0, b1, b2, b3, b4, b5, recs⟩)) := by
      show _ = _
      rw [← HLP.out, tapply_ins HAS.out _ HRR.out hn0, ← hp, ← hk]
    have HDQ : Hid (dr = if (kn && (decide (b5 = 2) && decide (0 ≤ p.opn))) = true then some ⟨b1, p.opn, b0⟩ else none) := by
      show _ = _
      have h3 := has_look HAS.out b1
      rw [← HDR.out]
      unfold tdropD
      rw [if_neg (by rw [HRR.out]; show ¬ (0 ≠ 0 ∨ b1 < 0); omega)]
      unfold dropsB
      show (if (hasD (pds ms) b1 && (decide (b5 = 2) && decide (0 ≤ (getD (pds ms) b1).opn))) = true then some (⟨b1, (getD (pds ms) b1).opn, b0⟩ : Dr) else none) = _
      rw [h3.1, h3.2, hp, hk]
    have HLK := Lib.hid hlk
    have HRO := Lib.hid hrow
    have KS : Hid (∀ V, Below w1.heap.size w1 V → (fun (V : World) => V.cell? ⟨kt, 0, none⟩ = some (.map (some km)) ∧ V.cell? ⟨B, 1, none⟩ = some (.int .i64 b1) ∧ TcMap V km ms) V) := fun V hV => ⟨(HT1.out.keep hV).box.c0, (HX1.out.on hV).c1, (HT1.out.keep hV).map⟩
    have hdrw : Below w1.heap.size w1 w1.drew := (Below.refl _ w1).drew
    clear hz1 hz2 hp hk hlk hrow HLP HDR
    obtain ⟨pid, pep, pl, po⟩ := p
    simp only at HLQ HDQ HLK HRO
    go_upto_region 3 with fail
    clear p1
    refine wp_region_noPanic ?_
    refine wp_region_z [] (fun (V : World) => V.cell? ⟨kt, 0, none⟩ = some (.map (some km)) ∧ V.cell? ⟨B, 1, none⟩ = some (.int .i64 b1) ∧ TcMap V km ms) (by kernel_rfl) ?_
    have hHeld : (fun (V : World) => V.cell? ⟨kt, 0, none⟩ = some (.map (some km)) ∧ V.cell? ⟨B, 1, none⟩ = some (.int .i64 b1) ∧ TcMap V km ms) _ := KS.out _ hdrw
    obtain ⟨u0, hu0⟩ : ∃ u, u = w1.drew := ⟨_, rfl⟩
    rw [← hu0] at hHeld hdrw
    rw [← hu0]
    clear hu0
    have HU0 := Lib.hid hdrw
    clear hdrw
    refine wpAnyZ_take (i := 0) (oi := ⟨_, _, _, _, _, _⟩) (v := ?_) rfl (by kernel_rfl) (by kernel_rfl) (by kernel_rfl) (by kernel_rfl) (by kernel_rfl) (fun _ _ _ h => h) (Or.inl ⟨by rfl, ?_⟩) (by assumption) ?_
    rotate_left
    · intro W hSw
      (try dsimp only at hSw)
      go_simp
      (try with_reducible rfl)
    (try simp only [Act.put, List.setIfInBounds_toArray, List.set_cons_zero, List.set_cons_succ])
    refine wpAnyZ_take (i := 1) (oi := ⟨_, _, _, _, _, _⟩) (v := ?_) rfl (by kernel_rfl) (by kernel_rfl) (by kernel_rfl) (by kernel_rfl) (by kernel_rfl) (fun _ _ _ h => h) (Or.inl ⟨by rfl, ?_⟩) (by assumption) ?_
    rotate_left
    · intro W hSw
      (try dsimp only at hSw)
      go_simp
      (try with_reducible rfl)
    (try simp only [Act.put, List.setIfInBounds_toArray, List.set_cons_zero, List.set_cons_succ])
    refine wpAnyZ_take (i := 2) (oi := ⟨_, _, _, _, _, _⟩) (v := ?_) rfl (by kernel_rfl) (by kernel_rfl) (by kernel_rfl) (by kernel_rfl) (by kernel_rfl) (fun _ _ _ h => h) (Or.inl ⟨by rfl, ?_⟩) (by assumption) ?_
    rotate_left
    · intro W hSw
      (try dsimp only at hSw)
      go_simp
      (try with_reducible rfl)
    (try simp only [Act.put, List.setIfInBounds_toArray, List.set_cons_zero, List.set_cons_succ])
    refine wpAnyZ_take (i := 3) (oi := ⟨_, _, _, _, _, _⟩) (v := ?_) rfl (by kernel_rfl) (by kernel_rfl) (by kernel_rfl) (by kernel_rfl) (by kernel_rfl) (fun _ _ _ h => h) (Or.inl ⟨by rfl, ?_⟩) (by assumption) ?_
    rotate_left
    · intro W hSw
      (try dsimp only at hSw)
      go_simp
      (try with_reducible rfl)
    (try simp only [Act.put, List.setIfInBounds_toArray, List.set_cons_zero, List.set_cons_succ])
    refine wpAnyZ_take (i := 4) (oi := ⟨_, _, _, _, _, _⟩) (v := ?_) rfl (by kernel_rfl) (by kernel_rfl) (by kernel_rfl) (by kernel_rfl) (by kernel_rfl) (fun _ _ _ h => h) (Or.inl ⟨by rfl, ?_⟩) (by assumption) ?_
    rotate_left
    · intro W hSw
      (try dsimp only at hSw)
      go_simp
      (try with_reducible rfl)
    (try simp only [Act.put, List.setIfInBounds_toArray, List.set_cons_zero, List.set_cons_succ])
    refine wpAnyZ_take (i := 5) (oi := ⟨_, _, _, _, _, _⟩) (v := ?_) rfl (by kernel_rfl) (by kernel_rfl) (by kernel_rfl) (by kernel_rfl) (by kernel_rfl) (fun _ _ _ h => h) (Or.inl ⟨by rfl, ?_⟩) (by assumption) ?_
    rotate_left
    · intro W hSw
      (try dsimp only at hSw)
      go_simp
      (try with_reducible rfl)
    (try simp only [Act.put, List.setIfInBounds_toArray, List.set_cons_zero, List.set_cons_succ])
    refine wpAnyZ_take (i := 6) (oi := ⟨_, _, _, _, _, _⟩) (v := ?_) rfl (by kernel_rfl) (by kernel_rfl) (by kernel_rfl) (by kernel_rfl) (by kernel_rfl) (fun _ _ _ h => h) (Or.inl ⟨by rfl, ?_⟩) (by assumption) ?_
    rotate_left
    · intro W hSw
      (try dsimp only at hSw)
      have hlk := HLK.out W km hSw.2.2
      go_simp
      (try with_reducible rfl)
    (try simp only [Act.put, List.setIfInBounds_toArray, List.set_cons_zero, List.set_cons_succ])
    refine wpAnyZ_take (i := 7) (oi := ⟨_, _, _, _, _, _⟩) (v := ?_) rfl (by kernel_rfl) (by kernel_rfl) (by kernel_rfl) (by kernel_rfl) (by kernel_rfl) (fun _ _ _ h => h) (Or.inl ⟨by rfl, ?_⟩) (by assumption) ?_
    rotate_left
    · intro W hSw
      (try dsimp only at hSw)
      go_simp
      (try with_reducible rfl)
    (try simp only [Act.put, List.setIfInBounds_toArray, List.set_cons_zero, List.set_cons_succ])
    refine wpAnyZ_take (i := 8) (oi := ⟨_, _, _, _, _, _⟩) (v := ?_) rfl (by kernel_rfl) (by kernel_rfl) (by kernel_rfl) (by kernel_rfl) (by kernel_rfl) (fun _ _ _ h => h) (Or.inl ⟨by rfl, ?_⟩) (by assumption) ?_
    rotate_left
    · intro W hSw
      (try dsimp only at hSw)
      go_simp
      (try with_reducible rfl)
    (try simp only [Act.put, List.setIfInBounds_toArray, List.set_cons_zero, List.set_cons_succ])
    refine wpAnyZ_take (i := 9) (oi := ⟨_, _, _, _, _, _⟩) (v := ?_) rfl (by kernel_rfl) (by kernel_rfl) (by kernel_rfl) (by kernel_rfl) (by kernel_rfl) (fun _ _ _ h => h) (Or.inl ⟨by rfl, ?_⟩) (by assumption) ?_
    rotate_left
    · intro W hSw
      (try dsimp only at hSw)
      go_simp
      (try with_reducible rfl)
    (try simp only [Act.put, List.setIfInBounds_toArray, List.set_cons_zero, List.set_cons_succ])
    refine wpAnyZ_ready (rs := [10]) (by kernel_rfl) (by simp) ?_
    refine AllReadyZ.cons (o := ⟨_, _, _, _, _, _⟩) rfl (fun C hC => ?_) AllReadyZ.nil
    go_simp
    obtain ⟨u1, hu1⟩ : ∃ z, z = u0.alloc (.cells #[.int .i64 0, .int .i64 0, .slice none 0 0, .int .i64 0] 78) := ⟨_, rfl⟩
    obtain ⟨P, hP⟩ : ∃ z, z = u0.heap.size := ⟨_, rfl⟩
    have HP1 : Hid (PBox u1 P 0 0 (.slice none 0 0) 0) := by show PBox _ _ _ _ _ _; rw [hu1, hP]; exact pbox_new u0 _ _ _ _
    have HU1 : Hid (Below w1.heap.size w1 u1) := by show Below _ _ _; rw [hu1]; exact HU0.out.trans ((Below.refl _ _).alloc HU0.out.size _)
    have HPW : Hid (w1.heap.size ≤ P) := by show _ ≤ _; rw [hP]; exact HU0.out.size
    try rw [← hu1, ← hP]
    clear hu1 hP
    have hHeld : (fun (V : World) => V.cell? ⟨kt, 0, none⟩ = some (.map (some km)) ∧ V.cell? ⟨B, 1, none⟩ = some (.int .i64 b1) ∧ TcMap V km ms) u1 := KS.out _ HU1.out
    refine hC.out _ _ (fun _ => hHeld) (fun _ => ?_)
    clear hC C
    (try simp only [Act.put, List.setIfInBounds_toArray, List.set_cons_zero, List.set_cons_succ])
    have r0 := HP1.out.c0
    have r1 := HP1.out.c1
    have r2 := HP1.out.c2
    have r3 := HP1.out.c3
    have f0 := HP1.out.free 0
    have f1 := HP1.out.free 1
    have f2 := HP1.out.free 2
    have f3 := HP1.out.free 3
    refine wpAnyZ_ready (rs := [11]) (by kernel_rfl) (by simp) ?_
    refine AllReadyZ.cons (o := ⟨_, _, _, _, _, _⟩) rfl (fun C hC => ?_) AllReadyZ.nil
    go_simp
    obtain ⟨u2, hu2⟩ : ∃ z, z = (((u1.setCell ⟨P, 0, none⟩ (.int .i64 pid)).setCell ⟨P, 1, none⟩ (.int .i64 pep)).setCell ⟨P, 2, none⟩ (.slice pd pn pc)).setCell ⟨P, 3, none⟩ (.int .i64 po) := ⟨_, rfl⟩
    have HP2 : Hid (PBox u2 P pid pep (.slice pd pn pc) po) := by show PBox _ _ _ _ _ _; rw [hu2]; exact (((HP1.out.s0 pid).s1 pep).s2 (.slice pd pn pc)).s3 po
    have HU2 : Hid (Below w1.heap.size w1 u2) := by show Below _ _ _; rw [hu2]; exact (((HU1.out.setCell HPW.out _).setCell HPW.out _).setCell HPW.out _).setCell HPW.out _
    try rw [← hu2]
    clear hu2 r0 r1 r2 r3 f0 f1 f2 f3 HP1
    have hHeld : (fun (V : World) => V.cell? ⟨kt, 0, none⟩ = some (.map (some km)) ∧ V.cell? ⟨B, 1, none⟩ = some (.int .i64 b1) ∧ TcMap V km ms) u2 := KS.out _ HU2.out
    refine hC.out _ _ (fun _ => hHeld) (fun _ => ?_)
    clear hC C
    (try simp only [Act.put, List.setIfInBounds_toArray, List.set_cons_zero, List.set_cons_succ])
    refine wpAnyZ_take (i := 12) (oi := ⟨_, _, _, _, _, _⟩) (v := ?_) rfl (by kernel_rfl) (by kernel_rfl) (by kernel_rfl) (by kernel_rfl) (by kernel_rfl) (fun _ _ _ h => h) (Or.inl ⟨by rfl, ?_⟩) (by assumption) ?_
    rotate_left
    · intro W hSw
      (try dsimp only at hSw)
      go_simp
      (try with_reducible rfl)
    (try simp only [Act.put, List.setIfInBounds_toArray, List.set_cons_zero, List.set_cons_succ])
    refine wpAnyZ_done (by kernel_rfl) ?_ _
    refine NoPanic.normal ?_
    clear hHeld KS HU0 HU1
    have HB2 := Lib.hid (HB1.out.trans (HU2.out.mono HB1.out.size))
    have HX2 := Lib.hid (HX1.out.on HU2.out)
    have HD2 := Lib.hid (HD1.out.on HU2.out)
    have HT2 := Lib.hid (HT1.out.keep HU2.out)
    have HRW2 := Lib.hid (HRO.out u2 HT2.out.ins)
    have HPB : Hid (w.heap.size ≤ P) := Nat.le_trans HB1.out.size HPW.out
    have HPD : Hid (P ≠ D ∧ P ≠ B) := by
      have h1 := HD1.out.lt
      have h2 := HX1.out.lt
      have h3 := HPW.out
      show _ ∧ _
      omega
    obtain ⟨x, hx⟩ : ∃ x, applyD ⟨pid, pep, pl, po⟩ kn ⟨b0, b1, b2, b3, b4, b5, recs⟩ = x := ⟨_, rfl⟩
    have HAP := Lib.hid hx
    have hxid : x.id = b1 := by rw [← hx, apply_id]
    have HXI := Lib.hid hxid
    clear hx hxid HX1 HD1 HT1 HU2 HPW HRO HLK
    have KS : Hid (∀ V, Below u2.heap.size u2 V → (fun (V : World) => V.cell? ⟨kt, 0, none⟩ = some (.map (some km)) ∧ V.cell? ⟨P, 0, none⟩ = some (.int .i64 pid) ∧ V.cell? ⟨P, 1, none⟩ = some (.int .i64 pep) ∧ V.cell? ⟨P, 2, none⟩ = some (.slice pd pn pc) ∧ V.cell? ⟨P, 3, none⟩ = some (.int .i64 po) ∧ V.cell? ⟨B, 0, none⟩ = some (.int .i64 b0) ∧ V.cell? ⟨B, 1, none⟩ = some (.int .i64 b1) ∧ V.cell? ⟨B, 2, none⟩ = some (.int .i64 b2) ∧ V.cell? ⟨B, 3, none⟩ = some (.int .i64 b3) ∧ V.cell? ⟨B, 4, none⟩ = some (.bool b4) ∧ V.cell? ⟨B, 5, none⟩ = some (.int .i64 b5) ∧ V.cell? ⟨B, 6, none⟩ = some (.slice rd rn rc)) V) := fun V hV => ⟨(HT2.out.keep hV).box.c0, (HP2.out.on hV).c0, (HP2.out.on hV).c1, (HP2.out.on hV).c2, (HP2.out.on hV).c3, (HX2.out.on hV).c0, (HX2.out.on hV).c1, (HX2.out.on hV).c2, (HX2.out.on hV).c3, (HX2.out.on hV).c4, (HX2.out.on hV).c5, (HX2.out.on hV).c6⟩
    have hdrw : Below u2.heap.size u2 u2.drew := (Below.refl _ u2).drew
    go_upto_region 4 with fail
    refine wp_region_noPanic ?_
    refine wp_region_z [10] (fun (V : World) => V.cell? ⟨kt, 0, none⟩ = some (.map (some km)) ∧ V.cell? ⟨P, 0, none⟩ = some (.int .i64 pid) ∧ V.cell? ⟨P, 1, none⟩ = some (.int .i64 pep) ∧ V.cell? ⟨P, 2, none⟩ = some (.slice pd pn pc) ∧ V.cell? ⟨P, 3, none⟩ = some (.int .i64 po) ∧ V.cell? ⟨B, 0, none⟩ = some (.int .i64 b0) ∧ V.cell? ⟨B, 1, none⟩ = some (.int .i64 b1) ∧ V.cell? ⟨B, 2, none⟩ = some (.int .i64 b2) ∧ V.cell? ⟨B, 3, none⟩ = some (.int .i64 b3) ∧ V.cell? ⟨B, 4, none⟩ = some (.bool b4) ∧ V.cell? ⟨B, 5, none⟩ = some (.int .i64 b5) ∧ V.cell? ⟨B, 6, none⟩ = some (.slice rd rn rc)) (by kernel_rfl) ?_
    have hHeld : (fun (V : World) => V.cell? ⟨kt, 0, none⟩ = some (.map (some km)) ∧ V.cell? ⟨P, 0, none⟩ = some (.int .i64 pid) ∧ V.cell? ⟨P, 1, none⟩ = some (.int .i64 pep) ∧ V.cell? ⟨P, 2, none⟩ = some (.slice pd pn pc) ∧ V.cell? ⟨P, 3, none⟩ = some (.int .i64 po) ∧ V.cell? ⟨B, 0, none⟩ = some (.int .i64 b0) ∧ V.cell? ⟨B, 1, none⟩ = some (.int .i64 b1) ∧ V.cell? ⟨B, 2, none⟩ = some (.int .i64 b2) ∧ V.cell? ⟨B, 3, none⟩ = some (.int .i64 b3) ∧ V.cell? ⟨B, 4, none⟩ = some (.bool b4) ∧ V.cell? ⟨B, 5, none⟩ = some (.int .i64 b5) ∧ V.cell? ⟨B, 6, none⟩ = some (.slice rd rn rc)) _ := KS.out _ hdrw
    obtain ⟨u3, hu3⟩ : ∃ u, u = u2.drew := ⟨_, rfl⟩
    rw [← hu3] at hHeld hdrw
    rw [← hu3]
    clear hu3
    have HU3 := Lib.hid hdrw
    clear hdrw
    refine wpAnyZ_take (i := 0) (oi := ⟨_, _, _, _, _, _⟩) (v := ?_) rfl (by kernel_rfl) (by kernel_rfl) (by kernel_rfl) (by kernel_rfl) (by kernel_rfl) (fun _ _ _ h => h) (Or.inl ⟨by rfl, ?_⟩) (by assumption) ?_
    rotate_left
    · intro W hSw
      (try dsimp only at hSw)
      go_simp
      (try with_reducible rfl)
    (try simp only [Act.put, List.setIfInBounds_toArray, List.set_cons_zero, List.set_cons_succ])
    refine wpAnyZ_take (i := 1) (oi := ⟨_, _, _, _, _, _⟩) (v := ?_) rfl (by kernel_rfl) (by kernel_rfl) (by kernel_rfl) (by kernel_rfl) (by kernel_rfl) (fun _ _ _ h => h) (Or.inl ⟨by rfl, ?_⟩) (by assumption) ?_
    rotate_left
    · intro W hSw
      (try dsimp only at hSw)
      go_simp
      (try with_reducible rfl)
    (try simp only [Act.put, List.setIfInBounds_toArray, List.set_cons_zero, List.set_cons_succ])
    refine wpAnyZ_take (i := 2) (oi := ⟨_, _, _, _, _, _⟩) (v := ?_) rfl (by kernel_rfl) (by kernel_rfl) (by kernel_rfl) (by kernel_rfl) (by kernel_rfl) (fun _ _ _ h => h) (Or.inl ⟨by rfl, ?_⟩) (by assumption) ?_
    rotate_left
    · intro W hSw
      (try dsimp only at hSw)
      go_simp
      (try with_reducible rfl)
    (try simp only [Act.put, List.setIfInBounds_toArray, List.set_cons_zero, List.set_cons_succ])
    refine wpAnyZ_take (i := 3) (oi := ⟨_, _, _, _, _, _⟩) (v := ?_) rfl (by kernel_rfl) (by kernel_rfl) (by kernel_rfl) (by kernel_rfl) (by kernel_rfl) (fun _ _ _ h => h) (Or.inl ⟨by rfl, ?_⟩) (by assumption) ?_
    rotate_left
    · intro W hSw
      (try dsimp only at hSw)
      go_simp
      (try with_reducible rfl)
    (try simp only [Act.put, List.setIfInBounds_toArray, List.set_cons_zero, List.set_cons_succ])
    refine wpAnyZ_take (i := 4) (oi := ⟨_, _, _, _, _, _⟩) (v := ?_) rfl (by kernel_rfl) (by kernel_rfl) (by kernel_rfl) (by kernel_rfl) (by kernel_rfl) (fun _ _ _ h => h) (Or.inl ⟨by rfl, ?_⟩) (by assumption) ?_
    rotate_left
    · intro W hSw
      (try dsimp only at hSw)
      go_simp
      (try with_reducible rfl)
    (try simp only [Act.put, List.setIfInBounds_toArray, List.set_cons_zero, List.set_cons_succ])
    refine wpAnyZ_take (i := 5) (oi := ⟨_, _, _, _, _, _⟩) (v := ?_) rfl (by kernel_rfl) (by kernel_rfl) (by kernel_rfl) (by kernel_rfl) (by kernel_rfl) (fun _ _ _ h => h) (Or.inl ⟨by rfl, ?_⟩) (by assumption) ?_
    rotate_left
    · intro W hSw
      (try dsimp only at hSw)
      go_simp
      (try with_reducible rfl)
    (try simp only [Act.put, List.setIfInBounds_toArray, List.set_cons_zero, List.set_cons_succ])
    refine wpAnyZ_take (i := 6) (oi := ⟨_, _, _, _, _, _⟩) (v := ?_) rfl (by kernel_rfl) (by kernel_rfl) (by kernel_rfl) (by kernel_rfl) (by kernel_rfl) (fun _ _ _ h => h) (Or.inl ⟨by rfl, ?_⟩) (by assumption) ?_
    rotate_left
    · intro W hSw
      (try dsimp only at hSw)
      go_simp
      (try with_reducible rfl)
    (try simp only [Act.put, List.setIfInBounds_toArray, List.set_cons_zero, List.set_cons_succ])
    refine wpAnyZ_take (i := 7) (oi := ⟨_, _, _, _, _, _⟩) (v := ?_) rfl (by kernel_rfl) (by kernel_rfl) (by kernel_rfl) (by kernel_rfl) (by kernel_rfl) (fun _ _ _ h => h) (Or.inl ⟨by rfl, ?_⟩) (by assumption) ?_
    rotate_left
    · intro W hSw
      (try dsimp only at hSw)
      go_simp
      (try with_reducible rfl)
    (try simp only [Act.put, List.setIfInBounds_toArray, List.set_cons_zero, List.set_cons_succ])
    refine wpAnyZ_take (i := 8) (oi := ⟨_, _, _, _, _, _⟩) (v := ?_) rfl (by kernel_rfl) (by kernel_rfl) (by kernel_rfl) (by kernel_rfl) (by kernel_rfl) (fun _ _ _ h => h) (Or.inl ⟨by rfl, ?_⟩) (by assumption) ?_
    rotate_left
    · intro W hSw
      (try dsimp only at hSw)
      go_simp
      (try with_reducible rfl)
    (try simp only [Act.put, List.setIfInBounds_toArray, List.set_cons_zero, List.set_cons_succ])
    refine wpAnyZ_ready (rs := [9]) (by kernel_rfl) (by simp) ?_
    refine AllReadyZ.cons (o := ⟨_, _, _, _, _, _⟩) rfl (fun C hC => ?_) AllReadyZ.nil
    go_simp
    refine (prApply_any u3 pid pep po pl pd pn pc (HRW2.out.keep HU3.out) (by omega) kn b0 b1 b2 b3 b4 b5 recs rd rn rc hrl hrn x HAP.out).mono ?_
    rintro e u4 ⟨xd, xn, xc, rfl, hxr, hxk, hb4⟩
    have hxn := hxr.length
    have HU4 := Lib.hid (HU3.out.trans (hb4.mono HU3.out.size))
    have HXR4 := Lib.hid hxr
    have HXK : Hid (∀ a, xd = some a → u2.heap.size ≤ a.block) := fun a ha => Nat.le_trans HU3.out.size (hxk a ha).1
    clear hb4 hxr hxk
    have hHeld : (fun (V : World) => V.cell? ⟨kt, 0, none⟩ = some (.map (some km)) ∧ V.cell? ⟨P, 0, none⟩ = some (.int .i64 pid) ∧ V.cell? ⟨P, 1, none⟩ = some (.int .i64 pep) ∧ V.cell? ⟨P, 2, none⟩ = some (.slice pd pn pc) ∧ V.cell? ⟨P, 3, none⟩ = some (.int .i64 po) ∧ V.cell? ⟨B, 0, none⟩ = some (.int .i64 b0) ∧ V.cell? ⟨B, 1, none⟩ = some (.int .i64 b1) ∧ V.cell? ⟨B, 2, none⟩ = some (.int .i64 b2) ∧ V.cell? ⟨B, 3, none⟩ = some (.int .i64 b3) ∧ V.cell? ⟨B, 4, none⟩ = some (.bool b4) ∧ V.cell? ⟨B, 5, none⟩ = some (.int .i64 b5) ∧ V.cell? ⟨B, 6, none⟩ = some (.slice rd rn rc)) u4 := KS.out _ HU4.out
    refine hC.out _ _ (fun _ => hHeld) (fun _ => ?_)
    clear hC C
    (try simp only [Act.put, List.setIfInBounds_toArray, List.set_cons_zero, List.set_cons_succ])
    have hT4 := HT2.out.keep HU4.out
    obtain ⟨u5, hput, hmap5, hg5, hs5⟩ := tc_put hT4.map HAS.out ⟨x, xd, xc⟩ b1 HXI.out (by omega) hwf
    simp only at hput
    rw [hxn] at hput
    have HXN := Lib.hid hxn
    have hkm := HT.out.map.lt
    have HKM : Hid (km ≠ D ∧ km ≠ B ∧ km ≠ P) := by
      have h1 := HBD.out
      have h2 := HPB.out
      show _ ∧ _ ∧ _
      omega
    have HD5 : Hid (DBox u5 D Dr.zero) := (HD2.out.on HU4.out).grown hg5 fun e => HKM.out.1 (Option.some.inj e)
    have HX5 : Hid (BoxAt u5 B b0 b1 b2 b3 b4 b5 (.slice rd rn rc)) := (HX2.out.on HU4.out).grows hg5 fun e => HKM.out.2.1 (Option.some.inj e)
    have HP5 : Hid (PBox u5 P pid pep (.slice pd pn pc) po) := (HP2.out.on HU4.out).grown hg5 fun e => HKM.out.2.2 (Option.some.inj e)
    have HW5 : Hid (TcW w km D ms (insM ms ⟨x, xd, xc⟩) u5) := by
      refine ⟨hmap5, fun m hm => ?_, grow_trans (grow_below (grow_refl w _) (HB2.out.trans (HU4.out.mono HB2.out.size))) hg5⟩
      rcases insM_mem _ _ _ hm with rfl | hm
      · refine .inr ⟨?_, fun a ha e => ?_⟩
        · have h1 := HXR4.out.past_map hg5 hT4.map.is
          show RowAt trK u5 xd x.last.length xc x.last
          rw [HXN.out]
          exact h1
        · have h1 := HXK.out a ha
          have h2 := HD2.out.lt
          omega
      · exact .inl hm
    have HPL : Hid (pds (insM ms ⟨x, xd, xc⟩) = l') := by show _ = _; rw [insM_pds, HLQ.out, HAP.out]
    clear hT4 hmap5 hg5 hs5 hxn hkm
    refine wpAnyZ_ready (rs := [10]) (by kernel_rfl) (by simp) ?_
    refine AllReadyZ.cons (o := ⟨_, _, _, _, _, _⟩) rfl (fun C hC => ?_) AllReadyZ.nil
    go_simp
    refine hC.out _ _ (zfree_no (by kernel_rfl)) (fun _ => ?_)
    clear hC C
    (try simp only [Act.put, List.setIfInBounds_toArray, List.set_cons_zero, List.set_cons_succ])
    refine wpAnyZ_done (by kernel_rfl) ?_ _
    refine NoPanic.normal ?_
    clear hHeld KS hput
    clear HT2 HRW2 HF HAS HRE0 HTX HB0 HB1 HB2 HX2 HD2 HP2
    have r0 := HD5.out.c0
    have r1 := HD5.out.c1
    have r2 := HD5.out.c2
    have f0 := HD5.out.free 0
    have f1 := HD5.out.free 1
    have f2 := HD5.out.free 2
    have p5 := HX5.out.c5
    have hDw : w.heap.size ≤ D := HBD.out.2.1
    by_cases hm : b5 = 2
    · have hd5 : (b5 != 2) = false := by rw [hm]; rfl
      cases kn
      · have HDN : Hid (dr = none) := by show _ = _; rw [HDQ.out]; rfl
        clear HDQ HLQ hm
        go_wp2
        exact bodyPost_ret (v := .tuple #[.agg #[.int .i64 0, .int .i64 0, .int .i64 0], .bool false]) (resultsTcApply (HD5.out.s 0 0 0) rfl rfl) rfl (gives_tcapply (d := ⟨0, 0, 0⟩) HT.out HW5.out hDw HPL.out (by rw [HDN.out]; rfl) (by rw [HDN.out]; rfl))
      · have q0 := HP5.out.c0
        have q1 := HP5.out.c1
        have q2 := HP5.out.c2
        have q3 := HP5.out.c3
        by_cases ho : 0 ≤ po
        · have HDN : Hid (dr = some ⟨b1, po, b0⟩) := by show _ = _; rw [HDQ.out, if_pos (by simp [hm, ho])]
          have HO : Hid (decide (0 ≤ po) = true) := decide_eq_true ho
          clear HDQ HLQ hm ho
          go_wp2_with fail
          refine (tcOpen_any u5 pid pep po pd pn pc true HO.out).mono ?_
          rintro e w6 ⟨rfl, hb6⟩
          have HD6 := Lib.hid (HD5.out.on hb6)
          have HX6 := Lib.hid (HX5.out.on hb6)
          have HP6 := Lib.hid (HP5.out.on hb6)
          have HW6 := Lib.hid (HW5.out.on hb6)
          clear hb6 HD5 HX5 HP5 HW5 r0 r1 r2 f0 f1 f2 p5 q0 q1 q2 q3
          have r0 := HD6.out.c0
          have r1 := HD6.out.c1
          have r2 := HD6.out.c2
          have f0 := HD6.out.free 0
          have f1 := HD6.out.free 1
          have f2 := HD6.out.free 2
          have p0 := HX6.out.c0
          have p1 := HX6.out.c1
          have q3 := HP6.out.c3
          go_wp2
          exact bodyPost_ret (v := .tuple #[.agg #[.int .i64 b1, .int .i64 po, .int .i64 b0], .bool true]) (resultsTcApply (HD6.out.s b1 po b0) rfl rfl) rfl (gives_tcapply (d := ⟨b1, po, b0⟩) HT.out HW6.out hDw HPL.out (by rw [HDN.out]; rfl) (by rw [HDN.out]; rfl))
        · have HDN : Hid (dr = none) := by show _ = _; rw [HDQ.out, if_neg (by simp [ho])]
          have HO : Hid (decide (0 ≤ po) = false) := decide_eq_false ho
          clear HDQ HLQ hm ho
          go_wp2_with fail
          refine (tcOpen_any u5 pid pep po pd pn pc false HO.out).mono ?_
          rintro e w6 ⟨rfl, hb6⟩
          have HD6 := Lib.hid (HD5.out.on hb6)
          have HW6 := Lib.hid (HW5.out.on hb6)
          clear hb6 HD5 HX5 HP5 HW5 r0 r1 r2 f0 f1 f2 p5 q0 q1 q2 q3
          have r0 := HD6.out.c0
          have r1 := HD6.out.c1
          have r2 := HD6.out.c2
          have f0 := HD6.out.free 0
          have f1 := HD6.out.free 1
          have f2 := HD6.out.free 2
          go_wp2
          exact bodyPost_ret (v := .tuple #[.agg #[.int .i64 0, .int .i64 0, .int .i64 0], .bool false]) (resultsTcApply (HD6.out.s 0 0 0) rfl rfl) rfl (gives_tcapply (d := ⟨0, 0, 0⟩) HT.out HW6.out hDw HPL.out (by rw [HDN.out]; rfl) (by rw [HDN.out]; rfl))
    · have hd5 : (b5 != 2) = true := by simp [hm]
      have HDN : Hid (dr = none) := by show _ = _; rw [HDQ.out, if_neg (by simp [hm])]
      clear HDQ HLQ hm
      go_wp2
      exact bodyPost_ret (v := .tuple #[.agg #[.int .i64 0, .int .i64 0, .int .i64 0], .bool false]) (resultsTcApply (HD5.out.s 0 0 0) rfl rfl) rfl (gives_tcapply (d := ⟨0, 0, 0⟩) HT.out HW5.out hDw HPL.out (by rw [HDN.out]; rfl) (by rw [HDN.out]; rfl))
  · have hor : rightE ⟨b0, b1, b2, b3, b4, b5, recs⟩ ≠ 0 ∨ (⟨b0, b1, b2, b3, b4, b5, recs⟩ : Bat).prod < 0 := by
      rw [HRE.out]
      show r ≠ 0 ∨ b1 < 0
      omega
    have HLN : Hid (pds ms = l') := by show _ = _; rw [← HLP.out, tapply_no hor]
    have HDN : Hid (dr = none) := by
      show _ = _
      rw [← HDR.out]
      unfold tdropD
      rw [if_pos hor]
    have HW1 : Hid (TcW w km D ms ms w1) := ⟨HT1.out.map, fun m hm => .inl hm, grow_below (grow_refl w _) HB1.out⟩
    have r0 := HD1.out.c0
    have r1 := HD1.out.c1
    have r2 := HD1.out.c2
    have f0 := HD1.out.free 0
    have f1 := HD1.out.free 1
    have f2 := HD1.out.free 2
    have hDw : w.heap.size ≤ D := HBD.out.2.1
    clear hor
    by_cases hz1 : r = 0
    · have hd : (r != 0) = false := by rw [hz1]; rfl
      have hn : b1 = -1 := Classical.byContradiction fun h => hz ⟨hz1, h⟩
      have hd2 : (b1 == -1) = true := by rw [hn]; rfl
      clear hz hz1 hn
      go_wp2
      exact bodyPost_ret (v := .tuple #[.agg #[.int .i64 0, .int .i64 0, .int .i64 0], .bool false]) (resultsTcApply (HD1.out.s 0 0 0) rfl rfl) rfl (gives_tcapply (d := ⟨0, 0, 0⟩) HT.out HW1.out hDw HLN.out (by rw [HDN.out]; rfl) (by rw [HDN.out]; rfl))
    · have hd : (r != 0) = true := by simp [hz1]
      clear hz hz1
      go_wp2
      exact bodyPost_ret (v := .tuple #[.agg #[.int .i64 0, .int .i64 0, .int .i64 0], .bool false]) (resultsTcApply (HD1.out.s 0 0 0) rfl rfl) rfl (gives_tcapply (d := ⟨0, 0, 0⟩) HT.out HW1.out hDw HLN.out (by rw [HDN.out]; rfl) (by rw [HDN.out]; rfl))
end Go.Proofs.YtgohekjkbgfeeaaGreat
