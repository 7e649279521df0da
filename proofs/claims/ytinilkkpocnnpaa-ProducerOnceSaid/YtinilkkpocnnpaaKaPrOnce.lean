/- Chapter 10's law: of a producer's batches that follow one another the latest five are known again, the others are not taken. -/
import Derived.Test.YtinilkkpocnnpaaKaPrMarkers
import Derived.Test.YtinilkkpocnnpaaKa1
namespace Go.Proofs.Ytinilkkpocnnpaa
open Go.RowKit
open Go.SeqMath
open Go.ProdMath
open Go.BatMath hiding AllB getD_lt take_all
set_option linter.unusedVariables false

/-- A producer in a block, and a row of batches of the law's own. -/
structure PH (w W : World) (B : Nat) (p : Pd) (ad : Option Addr) (n cap : Nat) (v : Value) (ms : List BM) : Prop where
  ps : PS w W B p ad n cap
  own : OwnRow batK W (B + 1) v ms
  lt : ∀ a, ad = some a → a.block < W.heap.size
  sep : ∀ a, ad = some a → v.ownBlock ≠ some a.block
theorem PS.grown {w W W' : World} {B : Nat} {p : Pd} {ad : Option Addr} {n cap : Nat} {r : Option Nat} (h : PS w W B p ad n cap) (hg : W.grownBy W' r) (hB : ∀ k, r = some k → B + 1 ≤ k) (hr : ∀ a, ad = some a → r ≠ some a.block) : PS w W' B p ad n cap :=
  ⟨h.box.grown hg (fun e => by have := hB _ e; omega), h.row.grown hg (fun a ha e => hr a ha e.symm), h.ne, h.bel.grown hg h.bel.size (fun k hk => by have := hB k hk; have := h.lo; omega), h.lo⟩
theorem PH.on {w W W' : World} {B : Nat} {p : Pd} {ad : Option Addr} {n cap : Nat} {v : Value} {ms : List BM} (h : PH w W B p ad n cap v ms) (hb : Below W.heap.size W W') : PH w W' B p ad n cap v ms :=
  ⟨h.ps.on hb, h.own.on hb, fun a ha => Nat.lt_of_lt_of_le (h.lt a ha) hb.size, h.sep⟩
theorem PH.put {w W W' : World} {B : Nat} {p q : Pd} {ad ad' : Option Addr} {n cap n' cap' : Nat} {v : Value} {ms : List BM} (h : PH w W B p ad n cap v ms) (hb : Below W.heap.size W W') (hr : RowAt trK W' ad' n' cap' q.last) (hn : ∀ a, ad' = some a → W.heap.size ≤ a.block ∧ a.block < W'.heap.size) :
    PH w ((((W'.setCell ⟨B, 0, none⟩ (.int .i64 q.id)).setCell ⟨B, 1, none⟩ (.int .i64 q.epoch)).setCell ⟨B, 2, none⟩ (.slice ad' n' cap')).setCell ⟨B, 3, none⟩ (.int .i64 q.opn)) B q ad' n' cap' v ms := by
  refine ⟨h.ps.put hb hr hn, ((((h.own.on hb).off (by omega) _ _).off (by omega) _ _).off (by omega) _ _).off (by omega) _ _, fun a ha => ?_, fun a ha e => ?_⟩
  · rw [size_set, size_set, size_set, size_set]
    exact (hn a ha).2
  · have h1 := (h.own.lt _ e).2
    have h2 := (hn a ha).1
    omega
theorem PH.app {w W W' : World} {B : Nat} {p : Pd} {ad : Option Addr} {n cap : Nat} {v v' : Value} {ms ms' : List BM} (h : PH w W B p ad n cap v ms) (hap : Appended batK W (B + 1) v ms' v' W') : PH w W' B p ad n cap v' ms' := by
  refine ⟨h.ps.grown hap.2.1 (fun k hk => (h.own.lt k hk).1) h.sep, hap.1, fun a ha => Nat.lt_of_lt_of_le (h.lt a ha) hap.2.1.size, fun a ha e => ?_⟩
  rcases hap.2.2.2 _ e with h1 | h1
  · exact h.sep a ha h1
  · have := h.lt a ha
    omega
def poD (f : Int) (cs : List Nat) : Pd := if cs.length = 0 then Pd.zero else ⟨3, 1, lateD f 0 cs, -1⟩
theorem po_yes (f : Int) {cs : List Nat} (h : 0 < cs.length) : poD f cs = ⟨3, 1, lateD f 0 cs, -1⟩ := by unfold poD; rw [if_neg (by omega)]
theorem po_check (f : Int) {cs : List Nat} (h : CsOk cs) (hl : cs.length ≤ 100) (recs : List Rc) (hr : 1 ≤ recs.length ∧ recs.length ≤ 6) : checkD (poD f cs) (decide (0 < cs.length)) ⟨(cs.sum : Int), 3, 1, (f + (cs.sum : Int)) % 2147483648, false, 0, recs⟩ = (-1, 0) := by
  have hs := cs_sum h
  by_cases h0 : 0 < cs.length
  · rw [po_yes f h0, decide_eq_true h0]
    have h1 := late_ok f 0 cs
    exact check_next 3 1 (-1) f _ _ false _ recs (csOk_drop h _) (by omega) hr cs.sum (by omega) (fun h => by omega)
  · rw [decide_eq_false h0]; simp [checkD]
theorem po_apply (f : Int) {cs : List Nat} (h : CsOk cs) (recs : List Rc) (hr : 1 ≤ recs.length ∧ recs.length ≤ 6) : applyD (poD f cs) (decide (0 < cs.length)) ⟨(cs.sum : Int), 3, 1, (f + (cs.sum : Int)) % 2147483648, false, 0, recs⟩ = poD f (cs ++ [recs.length]) := by
  have hl : lastI ((f + (cs.sum : Int)) % 2147483648) recs.length = (trD f cs.sum recs.length).l := last_tr f cs.sum recs.length (by omega) (by omega)
  have ht : (⟨(f + (cs.sum : Int)) % 2147483648, (trD f cs.sum recs.length).l, (cs.sum : Int)⟩ : Tr) = trD f cs.sum recs.length := rfl
  have hs := late_snoc f 0 cs recs.length
  rw [Nat.zero_add] at hs
  rw [po_yes f (by simp : 0 < (cs ++ [recs.length]).length)]
  by_cases h0 : 0 < cs.length
  · rw [po_yes f h0, decide_eq_true h0]
    unfold applyD oldLast oldOpen
    simp only [ne_eq, not_true_eq_false, if_false, hl, ht, and_self, if_true, Bool.false_eq_true, false_and]
    rw [hs]
  · have hn : cs = [] := List.eq_nil_of_length_eq_zero (by omega)
    subst hn
    rw [decide_eq_false h0]
    unfold applyD oldLast oldOpen
    simp only [ne_eq, not_true_eq_false, if_false, hl, ht, Bool.false_eq_true, false_and]
    rw [show newLast [] (trD f ([] : List Nat).sum recs.length) = newLast (lateD f 0 []) (trD f ([] : List Nat).sum recs.length) from rfl, hs]
theorem take_drop_get {cs : List Nat} {j k c : Nat} (hj : cs[j]? = some c) (hk : k ≤ j) : (cs.drop k)[j - k]? = some c := by
  rw [List.getElem?_drop, show k + (j - k) = j from by omega]
  exact hj
theorem take_sum {cs : List Nat} {j k : Nat} (hk : k ≤ j) : (cs.take k).sum + ((cs.drop k).take (j - k)).sum = (cs.take j).sum := by
  rw [← List.sum_append]
  congr 1
  have := List.take_add (l := cs) (i := k) (j := j - k)
  rw [show k + (j - k) = j from by omega] at this
  exact this.symm
theorem take_less {cs : List Nat} {j k c : Nat} (h : CsOk cs) (hj : cs[j]? = some c) (hk : j < k) : (cs.take j).sum < (cs.take k).sum := by
  have h1 := take_sum (cs := cs) (j := k) (k := j) (by omega)
  have h2 := take_drop_get hj (Nat.le_refl j)
  rw [Nat.sub_self] at h2
  obtain ⟨i, hi⟩ : ∃ i, k - j = i + 1 := ⟨k - j - 1, by omega⟩
  have h5 := h c (List.mem_of_getElem? hj)
  cases hd : cs.drop j with
  | nil => rw [hd] at h2; cases h2
  | cons x xs =>
    rw [hd] at h2
    cases h2
    rw [hi, hd, List.take_succ_cons, List.sum_cons] at h1
    omega
theorem po_again (f : Int) {cs : List Nat} (h : CsOk cs) (hl : cs.length ≤ 100) {j : Nat} {recs : List Rc} (hj : cs[j]? = some recs.length) (base : Int) : checkD (poD f cs) true ⟨base, 3, 1, (f + ((cs.take j).sum : Int)) % 2147483648, false, 0, recs⟩ = if cs.length - 5 ≤ j then (((cs.take j).sum : Int), 0) else (-1, 15) := by
  have hs := cs_sum h
  have hjl : j < cs.length := by
    obtain ⟨h1, _⟩ := List.getElem?_eq_some_iff.1 hj
    exact h1
  have h1 := late_ok f 0 cs
  rw [po_yes f (by omega)]
  by_cases hk : cs.length - 5 ≤ j
  · rw [if_pos hk]
    have h2 := take_drop_get hj hk
    have h3 := take_sum (cs := cs) hk
    have h4 := check_again 3 1 (-1) f (0 + (cs.take (cs.length - 5)).sum) (cs.drop (cs.length - 5)) false base recs (csOk_drop h _) (by omega) (j - (cs.length - 5)) recs.length h2 rfl
    rw [show 0 + (cs.take (cs.length - 5)).sum + ((cs.drop (cs.length - 5)).take (j - (cs.length - 5))).sum = (cs.take j).sum from by omega] at h4
    exact h4
  · rw [if_neg hk]
    have h2 := take_less h hj (by omega : j < cs.length - 5)
    exact check_old 3 1 (-1) f (0 + (cs.take (cs.length - 5)).sum) (cs.drop (cs.length - 5)) false base recs (csOk_drop h _) (fun e => by have := congrArg List.length e; rw [List.length_drop, List.length_nil] at this; omega) (by omega) (cs.take j).sum (by omega)
theorem po_right (f : Int) {cs : List Nat} (h : CsOk cs) (hl : cs.length ≤ 100) (h0 : 0 < cs.length) : RightP (poD f cs) := by
  have hs := cs_sum h
  have h1 := late_ok f 0 cs
  rw [po_yes f h0]
  refine ⟨⟨(by show (0 : Int) ≤ 3; decide), (by show (0 : Int) ≤ 1; decide), (by show (1 : Int) ≤ 32767; decide), (by show (-1 : Int) ≤ -1; decide), (by show (-1 : Int) ≤ 1099511627776; decide), ?_⟩, fun j => trs_ok f _ _ (csOk_drop h _) (by omega) j⟩
  show (lateD f 0 cs).length ≤ 5
  rw [late_len]; omega
theorem po_len (f : Int) (cs : List Nat) : (poD f cs).last.length = cs.length - (cs.length - 5) := by
  by_cases h : 0 < cs.length
  · rw [po_yes f h]; exact late_len f 0 cs
  · have : cs = [] := List.eq_nil_of_length_eq_zero (by omega)
    subst this; rfl
/-- The row of batches that were sent. -/
structure HadOk (f : Int) (cs : List Nat) (ms : List BM) : Prop where
  len : ms.length = cs.length
  at_ : ∀ j m, ms[j]? = some m → cs[j]? = some m.b.recs.length ∧ m.b.base = ((cs.take j).sum : Int) ∧ m.b.prod = 3 ∧ m.b.epoch = 1 ∧ m.b.seq = (f + ((cs.take j).sum : Int)) % 2147483648 ∧ m.b.txn = false ∧ m.b.marker = 0
theorem HadOk.snoc {f : Int} {cs : List Nat} {ms : List BM} (h : HadOk f cs ms) (recs : List Rc) (ad : Option Addr) (cap : Nat) : HadOk f (cs ++ [recs.length]) (ms ++ [⟨⟨(cs.sum : Int), 3, 1, (f + (cs.sum : Int)) % 2147483648, false, 0, recs⟩, ad, cap⟩]) := by
  have hl := h.len
  refine ⟨by simp [hl], fun j m hm => ?_⟩
  by_cases hj : j < ms.length
  · rw [List.getElem?_append_left hj] at hm
    have h1 := h.at_ j m hm
    rw [List.getElem?_append_left (by omega), List.take_append_of_le_length (by omega)]
    exact h1
  · rw [List.getElem?_append_right (by omega)] at hm
    by_cases hj2 : j = ms.length
    · subst hj2
      rw [Nat.sub_self] at hm
      cases hm
      rw [hl, List.getElem?_append_right (Nat.le_refl _), Nat.sub_self, List.take_left]
      exact ⟨rfl, rfl, rfl, rfl, rfl, rfl, rfl⟩
    · rw [List.getElem?_eq_none (by simp; omega)] at hm
      cases hm
theorem make_recs (c : Nat) (hc : c ≤ 1000) : ∃ X, ∀ W, (Instr.makeSlice 31 (.int .i64 (c : Int)) (.int .i64 (c : Int))).run Try.prog W = .ok (.slice (some ⟨W.heap.size, 0, none⟩) c c) (W.alloc (.cells X 48)) := by
  obtain ⟨i, z, hi, hz, hs, hb, _⟩ := recK_ok.info
  refine ⟨madeCells z.cells (c * i.size), fun W => ?_⟩
  have hr := run_make (P := Try.prog) W 31 48 i _ Try.underlying31 hi hz .i64 .i64 c c (by omega) (by omega) (by rw [hb]; omega) (by omega)
  simp only [Int.toNat_natCast] at hr
  exact hr
set_option maxRecDepth 100000 in
set_option maxHeartbeats 8000000 in
theorem prOnce_any (w : World) (x0 : Int) (tad : Option Addr) (tlen tcap : Nat) (zs : List Int) (ht : Nums w tad tlen zs) (hL : tlen ≤ 140737488355328) :
    Calls Try.prog 4 #[.int .i64 x0, .slice tad tlen tcap] w (GivesBool w true) := by
  obtain ⟨f, hf⟩ : ∃ f, bits .and .i64 x0 2147483647 = f := ⟨_, rfl⟩
  have hf0 : 0 ≤ f ∧ f ≤ 2147483647 := by rw [mask31] at hf; omega
  have HF : Hid (f = (f + 0) % 2147483648) := by show _ = _; omega
  have HT : Hid (∀ s c : Int, bits .and .i64 ((f + s) % 2147483648 + c) 2147483647 = (f + (s + c)) % 2147483648) := by
    intro s c
    rw [mask31]
    omega
  have HTN := Lib.hid ht
  clear ht hf0
  obtain ⟨W0, hW0, hb0, hp0, _⟩ := pd_new w 0 0 (.slice none 0 0) 0
  obtain ⟨B, hB⟩ : ∃ B, B = w.heap.size := ⟨_, rfl⟩
  have HLO : Hid (w.heap.size ≤ B) := by show _ ≤ _; omega
  have HP0 : Hid (PH w W0 B (poD f []) none 0 0 (.slice none 0 0) []) := ⟨⟨by rw [hB]; exact hp0, rowAt_nil _, (fun a ha => by cases ha), hb0, HLO.out⟩, ownRow_nil _ _ _, (fun a ha => by cases ha), (fun a ha => by cases ha)⟩
  have HW0 := Lib.hid hW0
  have HB := Lib.hid hB
  clear hW0 hb0 hp0 hB
  go_enter Try.func4, Try.ntmps4
  go_upto_region 4 with fail
  rw [← HW0.out, ← HB.out]
  clear HW0 HB hf
  go_wp2
  go_loopw [6, 7, 8, 9, 10] (fun v6 v7 v8 v9 v10 wr => ∃ (cs : List Nat) (ad : Option Addr) (n cap : Nat) (v : Value) (ms : List BM), v = v7 ∧ v10 = .int .i64 (cs.length : Int) ∧ v6 = .bool (decide (0 < cs.length)) ∧ v8 = .int .i64 ((f + (cs.sum : Int)) % 2147483648) ∧ v9 = .int .i64 (cs.sum : Int) ∧ cs.length ≤ 14 ∧ CsOk cs ∧ HadOk f cs ms ∧ PH w wr B (poD f cs) ad n cap v ms) (fun _ _ _ _ v10 _ => 14 - (intOf v10).toNat)
  case atStart => exact ⟨[], none, 0, 0, _, [], rfl, rfl, rfl, (by show Value.int .i64 f = .int .i64 ((f + 0) % 2147483648); rw [← HF.out]), rfl, by simp, (fun c hc => by cases hc), ⟨rfl, fun j m hm => by cases hm⟩, HP0.out⟩
  case round =>
    obtain ⟨cs, ad, n, cap, v, ms, rfl, rfl, rfl, rfl, rfl, hi, hok, hho, hph⟩ := hrel
    have HPH := Lib.hid hph
    have HOK := Lib.hid hok
    have HHO := Lib.hid hho
    clear hph hok hho HP0
    obtain ⟨wo, hwo⟩ : ∃ wo : World, wo = wr := ⟨_, rfl⟩
    subst hwo
    obtain ⟨i, hii⟩ : ∃ i, i = cs.length := ⟨_, rfl⟩
    obtain ⟨bI, hbI⟩ : ∃ b : Int, b = (cs.sum : Int) := ⟨_, rfl⟩
    obtain ⟨s, hs⟩ : ∃ s, s = (f + bI) % 2147483648 := ⟨_, rfl⟩
    obtain ⟨kn, hkn⟩ : ∃ kn, kn = decide (0 < i) := ⟨_, rfl⟩
    have hs0 : 0 ≤ s := by omega
    have hs1 : s ≤ 2147483647 := by omega
    rw [← hii] at hi
    have hb0 : 0 ≤ bI := by omega
    have hb1 : bI ≤ 84 := by have := (cs_sum HOK.out).2; omega
    have HII := Lib.hid hii
    have HBI := Lib.hid hbI
    have HSS := Lib.hid hs
    have HKN := Lib.hid hkn
    have HI := Lib.hid hi
    rw [← hii, ← hbI, ← hs, ← hkn]
    clear hii hbI hs hkn hi
    by_cases hgo : i < tlen ∧ i < 14
    · obtain ⟨hg1, hg2⟩ := hgo
      have hd1 : decide ((i : Int) < (tlen : Int)) = true := decide_eq_true (by omega)
      have hd1n : decide (i < tlen) = true := decide_eq_true hg1
      have hd2 : decide ((i : Int) < 14) = true := decide_eq_true (by omega)
      have hd2n : decide (i < 14) = true := decide_eq_true hg2
      have htl : (i : Int) < (tlen : Int) := by omega
      obtain ⟨tb, tq, htad, hcz⟩ : ∃ b off, tad = some ⟨b, off, none⟩ ∧ w.cell? ⟨b, off + i, none⟩ = some (.int .i64 (zs.getD i 0)) := by
        rcases HTN.out.cells with h | ⟨b, off, e, hc⟩
        · omega
        · exact ⟨b, off, e, hc i hg1⟩
      obtain ⟨z, hz⟩ : ∃ z, z = zs.getD i 0 := ⟨_, rfl⟩
      have hzin : -9223372036854775808 ≤ z ∧ z ≤ 9223372036854775807 := by
        have hm : zs.getD i 0 ∈ zs := by
          have hl := HTN.out.length
          rw [List.getD_eq_getElem?_getD, List.getElem?_eq_getElem (by omega)]
          exact List.getElem_mem _
        rw [hz]
        exact HTN.out.all _ hm
      have HZI := Lib.hid hzin
      rw [← hz] at hcz
      replace hcz : wo.cell? ⟨tb, tq + i, none⟩ = some (.int .i64 z) := by
        rw [HPH.out.ps.bel.cell (p := ⟨tb, tq + i, none⟩) (World.block_lt_of_cell? _ _ hcz)]
        exact hcz
      rw [htad]
      have HG2 := Lib.hid hg2
      clear hzin hz hg1 hg2
      go_wp2_with fail
      refine (within_any z 5 wo HZI.out (by decide)).mono ?_
      rintro e wz ⟨k, rfl, hk, rfl⟩
      obtain ⟨c, hc⟩ : ∃ c : Nat, c = 1 + k := ⟨_, rfl⟩
      have hcc : (1 : Int) + (k : Int) = (c : Int) := by omega
      have hc1 : 1 ≤ c := by omega
      have hc6 : c ≤ 6 := by omega
      obtain ⟨X, hmk⟩ := make_recs c (by omega)
      clear hc hk hcz HZI
      go_upto_region 8 with fail
      obtain ⟨WM, hWM⟩ : ∃ W, W = wo.alloc (.cells X 48) := ⟨_, rfl⟩
      have hbm : Below wo.heap.size wo WM := by rw [hWM]; exact (Below.refl _ _).alloc (Nat.le_refl _) _
      have szm : WM.heap.size = wo.heap.size + 1 := by rw [hWM]; simp
      obtain ⟨G, hG⟩ : ∃ G, G = wo.heap.size := ⟨_, rfl⟩
      obtain ⟨BX, hBX⟩ : ∃ B, B = wo.heap.size + 1 := ⟨_, rfl⟩
      obtain ⟨WX, hWX, hbx, hx, _⟩ := box_new WM bI 3 1 s false 0 (.slice (some ⟨G, 0, none⟩) c c)
      have hlt := HPH.out.ps.box.lt
      have HXB : Hid (BX ≠ B) := by show _ ≠ _; omega
      have HXV : Hid (v.ownBlock ≠ some BX) := fun e => by have := (HPH.out.own.lt _ e).2; omega
      rw [szm, ← hBX] at hx
      replace HPH := Lib.hid ((HPH.out.on hbm).on hbx)
      have HX := Lib.hid hx
      have HWM := Lib.hid hWM
      have HWX := Lib.hid hWX
      have HG := Lib.hid hG
      have HBX := Lib.hid hBX
      clear hWM hbm szm hG hBX hWX hbx hx hlt
      rw [← HBX.out, ← HG.out, ← HWM.out, ← HWX.out]
      clear HBX HG HWM HWX hmk hcc
      have q0 := HPH.out.ps.box.c0
      have q1 := HPH.out.ps.box.c1
      have q2 := HPH.out.ps.box.c2
      have q3 := HPH.out.ps.box.c3
      have p0 := HX.out.c0
      have p1 := HX.out.c1
      have p2 := HX.out.c2
      have p3 := HX.out.c3
      have p4 := HX.out.c4
      have p5 := HX.out.c5
      have p6 := HX.out.c6
      obtain ⟨P, hP⟩ : ∃ P, P = poD f cs := ⟨_, rfl⟩
      obtain ⟨Q, hQ⟩ : ∃ Q, Q = poD f (cs ++ [c]) := ⟨_, rfl⟩
      obtain ⟨recs, hrecs⟩ : ∃ recs, recs = List.replicate c Rc.nil := ⟨_, rfl⟩
      have hrl : recs.length = c := by rw [hrecs, List.length_replicate]
      have E1 : Hid (checkD ⟨P.id, P.epoch, P.last, P.opn⟩ kn ⟨bI, 3, 1, s, false, 0, recs⟩ = (-1, 0)) := by
        show checkD P kn _ = _
        rw [hP, HKN.out, HII.out, HSS.out, HBI.out]
        exact po_check f HOK.out (by have := HI.out; have := HII.out; omega) recs (by omega)
      have E2 : Hid (applyD ⟨P.id, P.epoch, P.last, P.opn⟩ kn ⟨bI, 3, 1, s, false, 0, recs⟩ = Q) := by
        show applyD P kn _ = _
        rw [hP, HKN.out, HII.out, HSS.out, HBI.out, hQ, ← hrl]
        exact po_apply f HOK.out recs (by omega)
      have hpl : n ≤ 5 := by have h3 := HPH.out.ps.row.length; have := po_len f cs; omega
      rw [← hP] at HPH q0 q1 q3
      have HRL := Lib.hid hrl
      have HQ := Lib.hid hQ
      clear hP hQ hrecs hrl
      go_wp2_with fail
      refine (prCheck_any WX P.id P.epoch P.opn P.last ad n cap HPH.out.ps.row (by omega) kn bI 3 1 s false 0 recs (some ⟨G, 0, none⟩) c c HRL.out (by omega) (-1, 0) E1.out).mono ?_
      rintro e w3 ⟨rfl, hb3⟩
      replace HPH := Lib.hid (HPH.out.on hb3)
      replace HX := Lib.hid (HX.out.on hb3)
      clear hb3 E1 q0 q1 q2 q3 p0 p1 p2 p3 p4 p5 p6
      have q0 := HPH.out.ps.box.c0
      have q1 := HPH.out.ps.box.c1
      have q2 := HPH.out.ps.box.c2
      have q3 := HPH.out.ps.box.c3
      have p0 := HX.out.c0
      have p1 := HX.out.c1
      have p2 := HX.out.c2
      have p3 := HX.out.c3
      have p4 := HX.out.c4
      have p5 := HX.out.c5
      have p6 := HX.out.c6
      go_wp2_with fail
      refine (prApply_any w3 P.id P.epoch P.opn P.last ad n cap HPH.out.ps.row (by omega) kn bI 3 1 s false 0 recs (some ⟨G, 0, none⟩) c c HRL.out (by omega) Q E2.out).mono ?_
      rintro e w4 ⟨ad4, n4, cap4, rfl, hrow, hnew, hb4⟩
      have f0 := (HPH.out.ps.box.on hb4).free 0
      have f1 := (HPH.out.ps.box.on hb4).free 1
      have f2 := (HPH.out.ps.box.on hb4).free 2
      have f3 := (HPH.out.ps.box.on hb4).free 3
      have r0 := (HPH.out.ps.box.on hb4).c0
      have r1 := (HPH.out.ps.box.on hb4).c1
      have r2 := (HPH.out.ps.box.on hb4).c2
      have r3 := (HPH.out.ps.box.on hb4).c3
      replace HPH := Lib.hid (HPH.out.put hb4 hrow hnew)
      replace HX := Lib.hid (HX.out.on hb4)
      clear hrow hnew hb4 E2 q0 q1 q2 q3 p0 p1 p2 p3 p4 p5 p6
      go_upto_region 12 with fail
      obtain ⟨W5, hW5⟩ : ∃ W, W = ((((w4.setCell ⟨B, 0, none⟩ (.int .i64 Q.id)).setCell ⟨B, 1, none⟩ (.int .i64 Q.epoch)).setCell ⟨B, 2, none⟩ (.slice ad4 n4 cap4)).setCell ⟨B, 3, none⟩ (.int .i64 Q.opn)) := ⟨_, rfl⟩
      rw [← hW5] at HPH
      replace HX : Hid (BoxAt W5 BX bI 3 1 s false 0 (.slice (some ⟨G, 0, none⟩) c c)) := by
        show BoxAt _ _ _ _ _ _ _ _ _
        rw [hW5]
        exact (((HX.out.off (Ne.symm HXB.out) _).off (Ne.symm HXB.out) _).off (Ne.symm HXB.out) _).off (Ne.symm HXB.out) _
      rw [← hW5]
      clear hW5 f0 f1 f2 f3 r0 r1 r2 r3
      have p0 := HX.out.c0
      have p1 := HX.out.c1
      have p2 := HX.out.c2
      have p3 := HX.out.c3
      have p4 := HX.out.c4
      have p5 := HX.out.c5
      have p6 := HX.out.c6
      obtain ⟨mx, hmx⟩ : ∃ mx : BM, mx = ⟨⟨bI, 3, 1, s, false, 0, recs⟩, some ⟨G, 0, none⟩, c⟩ := ⟨_, rfl⟩
      have HMX := Lib.hid hmx
      clear hmx
      have HRX : Hid (RowAt batK (W5.alloc (.cells #[.int .i64 bI, .int .i64 3, .int .i64 1, .int .i64 s, .bool false, .int .i64 0, .slice (some ⟨G, 0, none⟩) c c] 33)) (some ⟨W5.heap.size, 0, none⟩) 1 1 [mx]) := by
        have h := rowAt_lit batK_ok W5 [mx] (by simp) _ rfl 1 rfl
        have e : (batK.all [mx]).toArray = #[.int .i64 bI, .int .i64 3, .int .i64 1, .int .i64 s, .bool false, .int .i64 0, .slice (some ⟨G, 0, none⟩) c c] := by
          rw [HMX.out]
          show (#[.int .i64 bI, .int .i64 3, .int .i64 1, .int .i64 s, .bool false, .int .i64 0, .slice (some ⟨G, 0, none⟩) recs.length c] : Array Value) = _
          rw [HRL.out]
        rw [e] at h
        exact h
      have hal : Below W5.heap.size W5 (W5.alloc (.cells #[.int .i64 bI, .int .i64 3, .int .i64 1, .int .i64 s, .bool false, .int .i64 0, .slice (some ⟨G, 0, none⟩) c c] 33)) := (Below.refl _ _).alloc (Nat.le_refl _) _
      replace HPH := Lib.hid (HPH.out.on hal)
      replace HX := Lib.hid (HX.out.on hal)
      have HLB : Hid (B + 1 ≤ (W5.alloc (.cells #[.int .i64 bI, .int .i64 3, .int .i64 1, .int .i64 s, .bool false, .int .i64 0, .slice (some ⟨G, 0, none⟩) c c] 33)).heap.size) := HPH.out.ps.box.lt
      have HML : Hid (ms.length + 1 ≤ 100000000000) := by show _ ≤ _; have := HHO.out.len; have := HI.out; have := HII.out; omega
      clear hal
      go_wp2_with (at_builtin; refine list_row (by rfl) batK_ok (.tmp 60) (.tmp 62) rfl (B + 1) ms [mx] _ rfl HPH.out.own HLB.out (some ⟨W5.heap.size, 0, none⟩) 1 1 rfl HRX.out HML.out ?_)
      intro v2 w7 hap
      replace HX : Hid (BoxAt w7 BX bI 3 1 s false 0 (.slice (some ⟨G, 0, none⟩) c c)) := HX.out.grows hap.2.1 HXV.out
      replace HPH := Lib.hid (HPH.out.app hap)
      have HHN : Hid (HadOk f (cs ++ [c]) (ms ++ [mx])) := by
        show HadOk _ _ _
        have h := HHO.out.snoc recs (some ⟨G, 0, none⟩) c
        rw [HRL.out, ← HBI.out, ← HSS.out, ← HMX.out] at h
        exact h
      clear hap HRX HLB HML HMX p0 p1 p2 p3 p4 p5 p6
      have p6 := HX.out.c6
      obtain ⟨s', hs'⟩ : ∃ s', s' = (f + (bI + (c : Int))) % 2147483648 := ⟨_, rfl⟩
      obtain ⟨bJ, hbJ⟩ : ∃ b : Int, b = bI + (c : Int) := ⟨_, rfl⟩
      have hmask : bits .and .i64 (s + (c : Int)) 2147483647 = s' := by rw [HSS.out, hs']; exact HT.out bI c
      have hw1 : IntKind.i64.wrap (s + (c : Int)) = s + (c : Int) := IntWalk.i64_in _ (by omega)
      have hw2 : IntKind.i64.wrap (bI + (c : Int)) = bJ := by rw [hbJ]; exact IntWalk.i64_in _ (by omega)
      have HSN := Lib.hid hs'
      have HBJ := Lib.hid hbJ
      clear hs' hbJ
      go_upto_region 13 with fail
      go_quiet (fail)
      have hbd : Below w7.heap.size w7 (w7.drewN nq) := below_drewN (Below.refl _ _) nq
      replace HPH := Lib.hid (HPH.out.on hbd)
      clear hbd hmask hw1 hw2 p6 hs0 hs1 hb0 hb1
      go_wp2
      go_roundw
      case rel =>
        have hcs : (cs ++ [c]).length = i + 1 := by rw [List.length_append, ← HII.out]; rfl
        have hsm : (((cs ++ [c]).sum : Nat) : Int) = bJ := by rw [HBJ.out, HBI.out, List.sum_append]; simp
        refine ⟨cs ++ [c], ad4, n4, cap4, v2, ms ++ [mx], rfl, ?_, ?_, ?_, ?_, ?_, csOk_snoc HOK.out hc1 hc6, HHN.out, ?_⟩
        · rw [hcs]; go_num
        · rw [hcs]; simp
        · rw [hsm, HSN.out, HBJ.out]
        · rw [hsm]
        · rw [hcs]; have := HG2.out; omega
        · rw [← HQ.out]; exact HPH.out
      case measure => have := HG2.out; simp [intOf]; omega
    · by_cases h1 : i < tlen
      · have hd1 : decide ((i : Int) < (tlen : Int)) = true := decide_eq_true (by omega)
        have hd1n : decide (i < tlen) = true := decide_eq_true h1
        have hd2 : decide ((i : Int) < 14) = false := decide_eq_false (by omega)
        have hd2n : decide (i < 14) = false := decide_eq_false (by omega)
        clear h1
        obtain ⟨adh, caph, hvh, hrh, _⟩ := OwnRow.row batK_ok HPH.out.own (n := i) (by rw [HHO.out.len, ← HII.out])
        subst hvh
        have HRH := Lib.hid hrh
        obtain ⟨P, hP⟩ : ∃ P, P = poD f cs := ⟨_, rfl⟩
        have hpl : n ≤ 5 := by have h3 := HPH.out.ps.row.length; have := po_len f cs; omega
        have hpn : n = i - (i - 5) := by have h3 := HPH.out.ps.row.length; have := po_len f cs; rw [← HII.out] at this; omega
        have HPN := Lib.hid hpn
        have hi14 := HI.out
        rw [← hP] at HPH
        have HPP := Lib.hid hP
        have HAG : Hid (∀ (j : Nat) (recs : List Rc), cs[j]? = some recs.length → checkD ⟨P.id, P.epoch, P.last, P.opn⟩ true ⟨bI, 3, 1, (f + ((cs.take j).sum : Int)) % 2147483648, false, 0, recs⟩ = if i - 5 ≤ j then (((cs.take j).sum : Int), 0) else (-1, 15)) := by
          intro j recs hj
          show checkD P true _ = _
          rw [hP, HII.out]
          exact po_again f HOK.out (by rw [← HII.out]; omega) hj bI
        have HTS : Hid (∀ j, 0 ≤ ((cs.take j).sum : Int) ∧ ((cs.take j).sum : Int) ≤ 84) := by
          intro j
          have h1 := take_drop_sum cs j
          have h2 := (cs_sum HOK.out).2
          rw [← HII.out] at h2
          omega
        clear hrh hP hpn hs0 hs1 hgo
        go_wp2
        go_loopw [77] (fun v77 wr => ∃ j : Nat, v77 = .int .i64 (j : Int) ∧ j ≤ i ∧ Below wo.heap.size wo wr) (fun v77 _ => i - (intOf v77).toNat)
        case atStart => exact ⟨0, rfl, Nat.zero_le _, Below.refl _ _⟩
        case round =>
          obtain ⟨j, rfl, hj, hbel⟩ := hrel
          have HB := Lib.hid hbel
          clear hbel
          obtain ⟨wp, hwp⟩ : ∃ wp : World, wp = wr := ⟨_, rfl⟩
          subst hwp
          by_cases hlt : j < i
          · have hd6 : decide (j < i) = true := decide_eq_true hlt
            have hd6n : decide ((j : Int) < (i : Int)) = true := decide_eq_true (by omega)
            have hji : (j : Int) < (i : Int) := by omega
            obtain ⟨hb_, ho_, m, hadh, hhb, hm, hcl⟩ := (HRH.out.keep HB.out).get hlt
            have hfm := HHO.out.at_ j m hm
            obtain ⟨hf0, hf1, hf2, hf3, hf4, hf5, hf6⟩ := hfm
            obtain ⟨bj, hbj⟩ : ∃ b : Int, b = ((cs.take j).sum : Int) := ⟨_, rfl⟩
            obtain ⟨sj, hsj⟩ : ∃ s, s = (f + ((cs.take j).sum : Int)) % 2147483648 := ⟨_, rfl⟩
            obtain ⟨cj, hcj⟩ : ∃ c, c = m.b.recs.length := ⟨_, rfl⟩
            have d0 : wp.cell? ⟨hb_, ho_ + j * 7, none⟩ = some (.int .i64 m.b.base) := hcl 0 _ rfl
            have d1 : wp.cell? ⟨hb_, ho_ + j * 7 + 1, none⟩ = some (.int .i64 m.b.prod) := hcl 1 _ rfl
            have d2 : wp.cell? ⟨hb_, ho_ + j * 7 + 2, none⟩ = some (.int .i64 m.b.epoch) := hcl 2 _ rfl
            have d3 : wp.cell? ⟨hb_, ho_ + j * 7 + 3, none⟩ = some (.int .i64 m.b.seq) := hcl 3 _ rfl
            have d4 : wp.cell? ⟨hb_, ho_ + j * 7 + 4, none⟩ = some (.bool m.b.txn) := hcl 4 _ rfl
            have d5 : wp.cell? ⟨hb_, ho_ + j * 7 + 5, none⟩ = some (.int .i64 m.b.marker) := hcl 5 _ rfl
            have d6 : wp.cell? ⟨hb_, ho_ + j * 7 + 6, none⟩ = some (.slice m.ad m.b.recs.length m.cap) := hcl 6 _ rfl
            rw [hf1, ← hbj] at d0
            rw [hf2] at d1
            rw [hf3] at d2
            rw [hf4, ← hsj] at d3
            rw [hf5] at d4
            rw [hf6] at d5
            rw [← hcj] at d6
            have HE := Lib.hid (HAG.out j m.b.recs hf0)
            rw [← hsj, ← hbj] at HE
            have hcb : cj ≤ 6 := by rw [hcj]; exact (HOK.out _ (List.mem_of_getElem? hf0)).2
            have HCJ : Hid (m.b.recs.length = cj) := hcj.symm
            have HBJ := Lib.hid hbj
            rw [hadh]
            clear hm hcl hf0 hf1 hf2 hf3 hf4 hf5 hf6 hbj hsj hcj hhb
            obtain ⟨ma, hma⟩ : ∃ a, a = m.ad := ⟨_, rfl⟩
            obtain ⟨mc, hmc⟩ : ∃ c, c = m.cap := ⟨_, rfl⟩
            rw [← hma, ← hmc] at d6
            obtain ⟨recs, hrecs⟩ : ∃ r, r = m.b.recs := ⟨_, rfl⟩
            rw [← hrecs] at HE HCJ
            clear hma hmc hrecs
            go_upto_region 18 with fail
            obtain ⟨W1, hW1, hb1, hx1, sz1⟩ := box_new wp bj 3 1 sj false 0 (.slice ma cj mc)
            obtain ⟨W2, hW2, hb2, hx2, _⟩ := box_new W1 bj 3 1 sj false 0 (.slice ma cj mc)
            obtain ⟨B1, hB1⟩ : ∃ B, B = wp.heap.size := ⟨_, rfl⟩
            obtain ⟨B2, hB2⟩ : ∃ B, B = wp.heap.size + 1 := ⟨_, rfl⟩
            rw [sz1, ← hB2] at hx2
            rw [← hB1] at hx1
            have HX2 := Lib.hid hx2
            have HX1 := Lib.hid (hx1.on hb2)
            have HB12 : Hid (B2 ≠ B1) := by show _ ≠ _; omega
            have HN := Lib.hid (hb1.trans (hb2.mono hb1.size))
            have HB2L : Hid (wp.heap.size ≤ B2) := by show _ ≤ _; omega
            have HW1 := Lib.hid hW1
            have HW2 := Lib.hid hW2
            have HQ1 := Lib.hid hB1
            have HQ2 := Lib.hid hB2
            rw [← HQ2.out, ← HQ1.out, ← HW1.out, ← HW2.out]
            clear hW1 hb1 hx1 sz1 hW2 hb2 hx2 hB1 hB2 HW1 HW2 HQ1 HQ2 d0 d1 d2 d3 d4 d5 d6
            have y0 := HX2.out.c0
            have g0 := HX2.out.free 0
            go_upto_region 19 with fail
            obtain ⟨W3, hW3⟩ : ∃ W, W = W2.setCell ⟨B2, 0, none⟩ (.int .i64 bI) := ⟨_, rfl⟩
            replace HN : Hid (Below wp.heap.size wp W3) := by show Below _ _ _; rw [hW3]; exact HN.out.setCell HB2L.out _
            replace HX1 : Hid (BoxAt W3 B1 bj 3 1 sj false 0 (.slice ma cj mc)) := by show BoxAt _ _ _ _ _ _ _ _ _; rw [hW3]; exact HX1.out.off HB12.out _
            replace HX2 : Hid (BoxAt W3 B2 bI 3 1 sj false 0 (.slice ma cj mc)) := by show BoxAt _ _ _ _ _ _ _ _ _; rw [hW3]; exact HX2.out.s0 bI
            rw [← hW3]
            clear hW3 y0 g0
            have hp := (HPH.out.on (HB.out.trans (HN.out.mono HB.out.size))).ps
            have HR3 := Lib.hid hp.row
            have q0 := hp.box.c0
            have q1 := hp.box.c1
            have q2 := hp.box.c2
            have q3 := hp.box.c3
            clear hp
            have p0 := HX2.out.c0
            have p1 := HX2.out.c1
            have p2 := HX2.out.c2
            have p3 := HX2.out.c3
            have p4 := HX2.out.c4
            have p5 := HX2.out.c5
            have p6 := HX2.out.c6
            obtain ⟨r, hr⟩ : ∃ r, (if i - 5 ≤ j then (bj, 0) else (-1, 15) : Int × Int) = r := ⟨_, rfl⟩
            have HE2 := Lib.hid HE.out
            rw [hr] at HE2
            go_wp2_with fail
            refine (prCheck_any W3 P.id P.epoch P.opn P.last ad n cap HR3.out (by omega) true bI 3 1 sj false 0 recs ma cj mc HCJ.out (by omega) r HE2.out).mono ?_
            rintro e w4 ⟨rfl, hb4⟩
            have z0 := (HX1.out.on hb4).c0
            have HBE := Lib.hid (HB.out.trans ((HN.out.trans (hb4.mono HN.out.size)).mono HB.out.size))
            clear hb4 HE HE2 HR3 HX2 q0 q1 q2 q3 p0 p1 p2 p3 p4 p5 p6
            by_cases hlate : i - 5 ≤ j
            · rw [if_pos hlate] at hr
              have h5 : decide ((i : Int) - 5 ≤ (j : Int)) = true := decide_eq_true (by omega)
              have hbb : (bj == bj) = true := by simp
              have hbn : (bj != bj) = false := by simp
              subst hr
              clear hlate
              go_wp2
              go_roundw
              case rel => exact ⟨j + 1, by go_num, by omega, HBE.out⟩
              case measure => simp [intOf]; omega
            · rw [if_neg hlate] at hr
              have h5 : decide ((i : Int) - 5 ≤ (j : Int)) = false := decide_eq_false (by omega)
              subst hr
              clear hlate
              go_wp2
              go_roundw
              case rel => exact ⟨j + 1, by go_num, by omega, HBE.out⟩
              case measure => simp [intOf]; omega
          · have hd6 : decide (j < i) = false := decide_eq_false hlt
            have hd6n : decide ((j : Int) < (i : Int)) = false := decide_eq_false (by omega)
            have hp := (HPH.out.on HB.out).ps
            have HR3 := Lib.hid hp.row
            have q0 := hp.box.c0
            have q1 := hp.box.c1
            have q2 := hp.box.c2
            have q3 := hp.box.c3
            have HBE := Lib.hid hp.bel
            have HPS := Lib.hid hp
            clear hp HB
            by_cases h0 : i = 0
            · have hz : ((i : Int) == 0) = true := by simp; omega
              have hzn : (i == 0) = true := by simp; omega
              clear h0
              go_wp2_with fail
              refine (known10_any wp).mono ?_
              rintro e w5 ⟨rfl, hb5⟩
              replace HBE := Lib.hid (HBE.out.trans (hb5.mono HBE.out.size))
              clear hb5
              go_wp2
              go_ret
              exact gives_bool rfl HBE.out
            · have hz : ((i : Int) == 0) = false := beq_false_of_ne (by omega)
              have hzn : (i == 0) = false := by simpa using h0
              have HRT : Hid (RightP ⟨P.id, P.epoch, P.last, P.opn⟩) := by
                show RightP P
                rw [HPP.out]
                exact po_right f HOK.out (by rw [← HII.out]; omega) (by rw [← HII.out]; omega)
              go_wp2_with fail
              refine (prRight_any wp P.id P.epoch P.opn P.last ad n cap HR3.out (by omega) true (iff_of_true rfl HRT.out)).mono ?_
              rintro e w5 ⟨rfl, hb5⟩
              have q2 := (HPS.out.on hb5).box.c2
              replace HBE := Lib.hid (HBE.out.trans (hb5.mono HBE.out.size))
              clear hb5 q0 q1 q3 HRT
              by_cases h5 : i ≤ 5
              · have hm1 : (i : Int) ≤ 5 := by omega
                have hn : n = i := by have := HPN.out; omega
                subst hn
                have hnn : ((n : Int) == (n : Int)) = true := by simp
                have hnm : (n == n) = true := by simp
                go_wp2_with fail
                refine (known10_any w5).mono ?_
                rintro e w6 ⟨rfl, hb6⟩
                replace HBE := Lib.hid (HBE.out.trans (hb6.mono HBE.out.size))
                clear hb6
                go_wp2
                go_ret
                exact gives_bool rfl HBE.out
              · have hm1 : ¬ (i : Int) ≤ 5 := by omega
                have hm2 : (5 : Int) < (i : Int) := by omega
                have hn : n = 5 := by have := HPN.out; omega
                subst hn
                go_wp2_with fail
                refine (known10_any w5).mono ?_
                rintro e w6 ⟨rfl, hb6⟩
                replace HBE := Lib.hid (HBE.out.trans (hb6.mono HBE.out.size))
                clear hb6
                go_wp2
                go_ret
                exact gives_bool rfl HBE.out
      · have hd1 : decide ((i : Int) < (tlen : Int)) = false := decide_eq_false (by omega)
        have hd1n : decide (i < tlen) = false := decide_eq_false h1
        clear h1
        obtain ⟨adh, caph, hvh, hrh, _⟩ := OwnRow.row batK_ok HPH.out.own (n := i) (by rw [HHO.out.len, ← HII.out])
        subst hvh
        have HRH := Lib.hid hrh
        obtain ⟨P, hP⟩ : ∃ P, P = poD f cs := ⟨_, rfl⟩
        have hpl : n ≤ 5 := by have h3 := HPH.out.ps.row.length; have := po_len f cs; omega
        have hpn : n = i - (i - 5) := by have h3 := HPH.out.ps.row.length; have := po_len f cs; rw [← HII.out] at this; omega
        have HPN := Lib.hid hpn
        have hi14 := HI.out
        rw [← hP] at HPH
        have HPP := Lib.hid hP
        have HAG : Hid (∀ (j : Nat) (recs : List Rc), cs[j]? = some recs.length → checkD ⟨P.id, P.epoch, P.last, P.opn⟩ true ⟨bI, 3, 1, (f + ((cs.take j).sum : Int)) % 2147483648, false, 0, recs⟩ = if i - 5 ≤ j then (((cs.take j).sum : Int), 0) else (-1, 15)) := by
          intro j recs hj
          show checkD P true _ = _
          rw [hP, HII.out]
          exact po_again f HOK.out (by rw [← HII.out]; omega) hj bI
        have HTS : Hid (∀ j, 0 ≤ ((cs.take j).sum : Int) ∧ ((cs.take j).sum : Int) ≤ 84) := by
          intro j
          have h1 := take_drop_sum cs j
          have h2 := (cs_sum HOK.out).2
          rw [← HII.out] at h2
          omega
        clear hrh hP hpn hs0 hs1 hgo
        go_wp2
        go_loopw [77] (fun v77 wr => ∃ j : Nat, v77 = .int .i64 (j : Int) ∧ j ≤ i ∧ Below wo.heap.size wo wr) (fun v77 _ => i - (intOf v77).toNat)
        case atStart => exact ⟨0, rfl, Nat.zero_le _, Below.refl _ _⟩
        case round =>
          obtain ⟨j, rfl, hj, hbel⟩ := hrel
          have HB := Lib.hid hbel
          clear hbel
          obtain ⟨wp, hwp⟩ : ∃ wp : World, wp = wr := ⟨_, rfl⟩
          subst hwp
          by_cases hlt : j < i
          · have hd6 : decide (j < i) = true := decide_eq_true hlt
            have hd6n : decide ((j : Int) < (i : Int)) = true := decide_eq_true (by omega)
            have hji : (j : Int) < (i : Int) := by omega
            obtain ⟨hb_, ho_, m, hadh, hhb, hm, hcl⟩ := (HRH.out.keep HB.out).get hlt
            have hfm := HHO.out.at_ j m hm
            obtain ⟨hf0, hf1, hf2, hf3, hf4, hf5, hf6⟩ := hfm
            obtain ⟨bj, hbj⟩ : ∃ b : Int, b = ((cs.take j).sum : Int) := ⟨_, rfl⟩
            obtain ⟨sj, hsj⟩ : ∃ s, s = (f + ((cs.take j).sum : Int)) % 2147483648 := ⟨_, rfl⟩
            obtain ⟨cj, hcj⟩ : ∃ c, c = m.b.recs.length := ⟨_, rfl⟩
            have d0 : wp.cell? ⟨hb_, ho_ + j * 7, none⟩ = some (.int .i64 m.b.base) := hcl 0 _ rfl
            have d1 : wp.cell? ⟨hb_, ho_ + j * 7 + 1, none⟩ = some (.int .i64 m.b.prod) := hcl 1 _ rfl
            have d2 : wp.cell? ⟨hb_, ho_ + j * 7 + 2, none⟩ = some (.int .i64 m.b.epoch) := hcl 2 _ rfl
            have d3 : wp.cell? ⟨hb_, ho_ + j * 7 + 3, none⟩ = some (.int .i64 m.b.seq) := hcl 3 _ rfl
            have d4 : wp.cell? ⟨hb_, ho_ + j * 7 + 4, none⟩ = some (.bool m.b.txn) := hcl 4 _ rfl
            have d5 : wp.cell? ⟨hb_, ho_ + j * 7 + 5, none⟩ = some (.int .i64 m.b.marker) := hcl 5 _ rfl
            have d6 : wp.cell? ⟨hb_, ho_ + j * 7 + 6, none⟩ = some (.slice m.ad m.b.recs.length m.cap) := hcl 6 _ rfl
            rw [hf1, ← hbj] at d0
            rw [hf2] at d1
            rw [hf3] at d2
            rw [hf4, ← hsj] at d3
            rw [hf5] at d4
            rw [hf6] at d5
            rw [← hcj] at d6
            have HE := Lib.hid (HAG.out j m.b.recs hf0)
            rw [← hsj, ← hbj] at HE
            have hcb : cj ≤ 6 := by rw [hcj]; exact (HOK.out _ (List.mem_of_getElem? hf0)).2
            have HCJ : Hid (m.b.recs.length = cj) := hcj.symm
            have HBJ := Lib.hid hbj
            rw [hadh]
            clear hm hcl hf0 hf1 hf2 hf3 hf4 hf5 hf6 hbj hsj hcj hhb
            obtain ⟨ma, hma⟩ : ∃ a, a = m.ad := ⟨_, rfl⟩
            obtain ⟨mc, hmc⟩ : ∃ c, c = m.cap := ⟨_, rfl⟩
            rw [← hma, ← hmc] at d6
            obtain ⟨recs, hrecs⟩ : ∃ r, r = m.b.recs := ⟨_, rfl⟩
            rw [← hrecs] at HE HCJ
            clear hma hmc hrecs
            go_upto_region 18 with fail
            obtain ⟨W1, hW1, hb1, hx1, sz1⟩ := box_new wp bj 3 1 sj false 0 (.slice ma cj mc)
            obtain ⟨W2, hW2, hb2, hx2, _⟩ := box_new W1 bj 3 1 sj false 0 (.slice ma cj mc)
            obtain ⟨B1, hB1⟩ : ∃ B, B = wp.heap.size := ⟨_, rfl⟩
            obtain ⟨B2, hB2⟩ : ∃ B, B = wp.heap.size + 1 := ⟨_, rfl⟩
            rw [sz1, ← hB2] at hx2
            rw [← hB1] at hx1
            have HX2 := Lib.hid hx2
            have HX1 := Lib.hid (hx1.on hb2)
            have HB12 : Hid (B2 ≠ B1) := by show _ ≠ _; omega
            have HN := Lib.hid (hb1.trans (hb2.mono hb1.size))
            have HB2L : Hid (wp.heap.size ≤ B2) := by show _ ≤ _; omega
            have HW1 := Lib.hid hW1
            have HW2 := Lib.hid hW2
            have HQ1 := Lib.hid hB1
            have HQ2 := Lib.hid hB2
            rw [← HQ2.out, ← HQ1.out, ← HW1.out, ← HW2.out]
            clear hW1 hb1 hx1 sz1 hW2 hb2 hx2 hB1 hB2 HW1 HW2 HQ1 HQ2 d0 d1 d2 d3 d4 d5 d6
            have y0 := HX2.out.c0
            have g0 := HX2.out.free 0
            go_upto_region 19 with fail
            obtain ⟨W3, hW3⟩ : ∃ W, W = W2.setCell ⟨B2, 0, none⟩ (.int .i64 bI) := ⟨_, rfl⟩
            replace HN : Hid (Below wp.heap.size wp W3) := by show Below _ _ _; rw [hW3]; exact HN.out.setCell HB2L.out _
            replace HX1 : Hid (BoxAt W3 B1 bj 3 1 sj false 0 (.slice ma cj mc)) := by show BoxAt _ _ _ _ _ _ _ _ _; rw [hW3]; exact HX1.out.off HB12.out _
            replace HX2 : Hid (BoxAt W3 B2 bI 3 1 sj false 0 (.slice ma cj mc)) := by show BoxAt _ _ _ _ _ _ _ _ _; rw [hW3]; exact HX2.out.s0 bI
            rw [← hW3]
            clear hW3 y0 g0
            have hp := (HPH.out.on (HB.out.trans (HN.out.mono HB.out.size))).ps
            have HR3 := Lib.hid hp.row
            have q0 := hp.box.c0
            have q1 := hp.box.c1
            have q2 := hp.box.c2
            have q3 := hp.box.c3
            clear hp
            have p0 := HX2.out.c0
            have p1 := HX2.out.c1
            have p2 := HX2.out.c2
            have p3 := HX2.out.c3
            have p4 := HX2.out.c4
            have p5 := HX2.out.c5
            have p6 := HX2.out.c6
            obtain ⟨r, hr⟩ : ∃ r, (if i - 5 ≤ j then (bj, 0) else (-1, 15) : Int × Int) = r := ⟨_, rfl⟩
            have HE2 := Lib.hid HE.out
            rw [hr] at HE2
            go_wp2_with fail
            refine (prCheck_any W3 P.id P.epoch P.opn P.last ad n cap HR3.out (by omega) true bI 3 1 sj false 0 recs ma cj mc HCJ.out (by omega) r HE2.out).mono ?_
            rintro e w4 ⟨rfl, hb4⟩
            have z0 := (HX1.out.on hb4).c0
            have HBE := Lib.hid (HB.out.trans ((HN.out.trans (hb4.mono HN.out.size)).mono HB.out.size))
            clear hb4 HE HE2 HR3 HX2 q0 q1 q2 q3 p0 p1 p2 p3 p4 p5 p6
            by_cases hlate : i - 5 ≤ j
            · rw [if_pos hlate] at hr
              have h5 : decide ((i : Int) - 5 ≤ (j : Int)) = true := decide_eq_true (by omega)
              have hbb : (bj == bj) = true := by simp
              have hbn : (bj != bj) = false := by simp
              subst hr
              clear hlate
              go_wp2
              go_roundw
              case rel => exact ⟨j + 1, by go_num, by omega, HBE.out⟩
              case measure => simp [intOf]; omega
            · rw [if_neg hlate] at hr
              have h5 : decide ((i : Int) - 5 ≤ (j : Int)) = false := decide_eq_false (by omega)
              subst hr
              clear hlate
              go_wp2
              go_roundw
              case rel => exact ⟨j + 1, by go_num, by omega, HBE.out⟩
              case measure => simp [intOf]; omega
          · have hd6 : decide (j < i) = false := decide_eq_false hlt
            have hd6n : decide ((j : Int) < (i : Int)) = false := decide_eq_false (by omega)
            have hp := (HPH.out.on HB.out).ps
            have HR3 := Lib.hid hp.row
            have q0 := hp.box.c0
            have q1 := hp.box.c1
            have q2 := hp.box.c2
            have q3 := hp.box.c3
            have HBE := Lib.hid hp.bel
            have HPS := Lib.hid hp
            clear hp HB
            by_cases h0 : i = 0
            · have hz : ((i : Int) == 0) = true := by simp; omega
              have hzn : (i == 0) = true := by simp; omega
              clear h0
              go_wp2_with fail
              refine (known10_any wp).mono ?_
              rintro e w5 ⟨rfl, hb5⟩
              replace HBE := Lib.hid (HBE.out.trans (hb5.mono HBE.out.size))
              clear hb5
              go_wp2
              go_ret
              exact gives_bool rfl HBE.out
            · have hz : ((i : Int) == 0) = false := beq_false_of_ne (by omega)
              have hzn : (i == 0) = false := by simpa using h0
              have HRT : Hid (RightP ⟨P.id, P.epoch, P.last, P.opn⟩) := by
                show RightP P
                rw [HPP.out]
                exact po_right f HOK.out (by rw [← HII.out]; omega) (by rw [← HII.out]; omega)
              go_wp2_with fail
              refine (prRight_any wp P.id P.epoch P.opn P.last ad n cap HR3.out (by omega) true (iff_of_true rfl HRT.out)).mono ?_
              rintro e w5 ⟨rfl, hb5⟩
              have q2 := (HPS.out.on hb5).box.c2
              replace HBE := Lib.hid (HBE.out.trans (hb5.mono HBE.out.size))
              clear hb5 q0 q1 q3 HRT
              by_cases h5 : i ≤ 5
              · have hm1 : (i : Int) ≤ 5 := by omega
                have hn : n = i := by have := HPN.out; omega
                subst hn
                have hnn : ((n : Int) == (n : Int)) = true := by simp
                have hnm : (n == n) = true := by simp
                go_wp2_with fail
                refine (known10_any w5).mono ?_
                rintro e w6 ⟨rfl, hb6⟩
                replace HBE := Lib.hid (HBE.out.trans (hb6.mono HBE.out.size))
                clear hb6
                go_wp2
                go_ret
                exact gives_bool rfl HBE.out
              · have hm1 : ¬ (i : Int) ≤ 5 := by omega
                have hm2 : (5 : Int) < (i : Int) := by omega
                have hn : n = 5 := by have := HPN.out; omega
                subst hn
                go_wp2_with fail
                refine (known10_any w5).mono ?_
                rintro e w6 ⟨rfl, hb6⟩
                replace HBE := Lib.hid (HBE.out.trans (hb6.mono HBE.out.size))
                clear hb6
                go_wp2
                go_ret
                exact gives_bool rfl HBE.out
end Go.Proofs.Ytinilkkpocnnpaa
