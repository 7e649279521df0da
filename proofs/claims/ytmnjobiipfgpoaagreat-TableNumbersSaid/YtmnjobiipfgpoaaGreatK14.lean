/- Parts of a proof, merged: TcAny, TcPlay. -/
import Derived.Test.YtmnjobiipfgpoaaGreatKTcOpens
namespace Go.Proofs.YtmnjobiipfgpoaaGreat
open Go.RowKit
open Go.SeqMath
open Go.ProdMath
open Go.BatMath hiding AllB getD_lt take_all
set_option linter.unusedVariables false

theorem recsAt_none {w w' : World} {ad : Option Addr} {n cap : Nat} {l : List Rc} (h : RecsAt w ad n cap l) (h0 : n = 0) : RecsAt w' ad n cap l := ⟨h.length, h.fits, h.room, .inl h0⟩
/-- What stands in a round: the batches in a row of the call's own, their records elsewhere. -/
structure AnyW (kt base : Nat) (u : Value) (os : List BM) (W : World) : Prop where
  own : OwnRow batK W base u os
  ins : ∀ m ∈ os, RecAt W m ∧ (m.b.recs.length = 0 ∨ ∀ a, m.ad = some a → kt < a.block ∧ a.block < W.heap.size ∧ u.ownBlock ≠ some a.block)
  ok : RowOk (bats os)
theorem AnyW.on {kt base : Nat} {u : Value} {os : List BM} {W W' : World} (h : AnyW kt base u os W) (hb : Below W.heap.size W W') : AnyW kt base u os W' :=
  ⟨h.own.on hb, fun m hm => ⟨(h.ins m hm).1.keep hb, (h.ins m hm).2.imp_right fun h2 a ha => ⟨(h2 a ha).1, Nat.lt_of_lt_of_le (h2 a ha).2.1 hb.size, (h2 a ha).2.2⟩⟩, h.ok⟩
theorem AnyW.tape {kt base : Nat} {u : Value} {os : List BM} {W W' : World} (h : AnyW kt base u os W) (hg : W.grownBy W' (some kt)) (hk : kt < base) : AnyW kt base u os W' := by
  refine ⟨h.own.grown hg (fun q hq e => by have := (h.own.lt q hq).1; have := Option.some.inj e; omega), fun m hm => ?_, h.ok⟩
  obtain ⟨h1, h2⟩ := h.ins m hm
  rcases h2 with h0 | h2
  · exact ⟨recsAt_none h1 h0, .inl h0⟩
  · exact ⟨h1.tape hg fun a ha => by have := (h2 a ha).1; omega, .inr fun a ha => ⟨(h2 a ha).1, Nat.lt_of_lt_of_le (h2 a ha).2.1 hg.size, (h2 a ha).2.2⟩⟩
theorem AnyW.app {kt base : Nat} {u v : Value} {os : List BM} {m : BM} {W W' : World} (h : AnyW kt base u os W) (hap : Appended batK W base u (os ++ [m]) v W') (hr : RecAt W m) (hm : m.b.recs.length = 0 ∨ ∀ a, m.ad = some a → kt < a.block ∧ a.block < W.heap.size ∧ u.ownBlock ≠ some a.block) (ho : rightE m.b = 0 ∧ m.b.wf) : AnyW kt base v (os ++ [m]) W' := by
  have key : ∀ q, RecAt W q → (q.b.recs.length = 0 ∨ ∀ a, q.ad = some a → kt < a.block ∧ a.block < W.heap.size ∧ u.ownBlock ≠ some a.block) → RecAt W' q ∧ (q.b.recs.length = 0 ∨ ∀ a, q.ad = some a → kt < a.block ∧ a.block < W'.heap.size ∧ v.ownBlock ≠ some a.block) := by
    intro q h1 h2
    rcases h2 with h0 | h2
    · exact ⟨recsAt_none h1 h0, .inl h0⟩
    · refine ⟨?_, .inr fun a ha => ⟨(h2 a ha).1, Nat.lt_of_lt_of_le (h2 a ha).2.1 hap.2.1.size, fun e => ?_⟩⟩
      · exact recsAt_row.2 ((recsAt_row.1 h1).grown hap.2.1 fun a ha e => (h2 a ha).2.2 e.symm)
      · rcases hap.2.2.2 _ e with h3 | h3
        · exact (h2 a ha).2.2 h3
        · have := (h2 a ha).2.1; omega
  refine ⟨hap.1, fun q hq => ?_, fun b hb => ?_⟩
  · rcases List.mem_append.1 hq with hq | hq
    · exact key q (h.ins q hq).1 (h.ins q hq).2
    · rw [List.mem_singleton.1 hq]
      exact key m hr hm
  · unfold bats at hb
    rw [List.map_append] at hb
    rcases List.mem_append.1 hb with hb | hb
    · exact h.ok b hb
    · rw [List.mem_singleton.1 hb]
      exact ho
def GivesAny (w : World) (n : Nat) (e : Ending) (w' : World) : Prop :=
  ∃ ad len cap ms, e = .returned (.slice ad len cap) ∧ Hid (BatsAt w' ad len cap ms) ∧ Hid (RowOk (bats ms)) ∧ len ≤ n ∧ Hid (Below w.heap.size w w')
set_option maxRecDepth 100000 in
set_option maxHeartbeats 8000000 in
theorem tcAny1_any (w : World) (tad : Option Addr) (tlen tcap : Nat) (zs : List Int) (h : Nums w tad tlen zs) (hL : tlen ≤ 140737488355328) (n : Nat) (hn : n ≤ 100) :
    Calls Tryz.prog 9 #[.slice tad tlen tcap, .int .i64 (n : Int)] w (GivesAny w n) := by
  obtain ⟨W1, hW1⟩ : ∃ W1, W1 = w.alloc (.cells #[.slice tad tlen tcap, .int .i64 0] 63) := ⟨_, rfl⟩
  have hb1 : Below w.heap.size w W1 := by rw [hW1]; exact (Below.refl _ _).alloc (Nat.le_refl _) _
  have ht1 : TapeAt W1 w.heap.size tad tlen tcap 0 := by rw [hW1]; exact tape_new h hL
  obtain ⟨kt, hkt⟩ : ∃ k, k = w.heap.size := ⟨_, rfl⟩
  rw [← hkt] at ht1
  have hktw : w.heap.size ≤ kt := by omega
  obtain ⟨base, hbase⟩ : ∃ b, b = W1.heap.size := ⟨_, rfl⟩
  have hkb : kt < base := by rw [hbase]; exact ht1.lt
  have HBS : Hid (base = W1.heap.size) := hbase
  have HB1 := Lib.hid hb1
  have HT1 : Hid (TapeT W1 kt tad tlen tcap) := ⟨0, ht1⟩
  have HW1 := Lib.hid hW1
  have HKT := Lib.hid hkt
  clear h hb1 ht1 hW1 hkt hbase
  go_enter Tryz.func9, Tryz.ntmps9
  go_upto_region 2 with fail
  rw [← HW1.out, ← HKT.out]
  clear HW1 HKT
  go_wp2
  go_loopw [6, 7] (fun v6 v7 wr => ∃ (i : Nat) (u : Value) (os : List BM), u = v6 ∧ v7 = .int .i64 (i : Int) ∧ i ≤ n ∧ os.length = i ∧ Hid (AnyW kt base u os wr) ∧ Hid (TapeT wr kt tad tlen tcap) ∧ Hid (Below w.heap.size w wr) ∧ base ≤ wr.heap.size) (fun _ v7 _ => n - (intOf v7).toNat)
  case atStart => exact ⟨0, _, [], rfl, rfl, Nat.zero_le _, rfl, ⟨ownRow_nil _ _ _, (fun m hm => by cases hm), fun b hb => by cases hb⟩, HT1.out, HB1.out, by rw [HBS.out]; exact Nat.le_refl _⟩
  case round =>
    obtain ⟨i, u, os, rfl, rfl, hi, hol, HAW, HTT, HB, hbr⟩ := hrel
    have HOL := Lib.hid hol
    have HBR : Hid (base ≤ wr.heap.size) := hbr
    obtain ⟨wo, hwo⟩ : ∃ wo : World, wo = wr := ⟨_, rfl⟩
    subst hwo
    clear HT1 HB1 hol hbr
    obtain ⟨ix, htx⟩ := HTT.out
    have HT := Lib.hid htx
    have t1 := htx.c1
    clear htx HTT
    by_cases hgo : i < n ∧ ix < tlen
    · obtain ⟨hg1, hg2⟩ := hgo
      have hd1 : decide (i < n) = true := decide_eq_true hg1
      have hd1i : decide ((i : Int) < (n : Int)) = true := decide_eq_true (by omega)
      have hd2 : decide (ix < tlen) = true := decide_eq_true hg2
      have hd2i : decide ((ix : Int) < (tlen : Int)) = true := decide_eq_true (by omega)
      have CB : Hid (∀ z : Int, z = (i : Int) * 20 → Calls Tryz.prog 29 #[.pointer (some ⟨kt, 0, none⟩), .int .i64 z] wo (GivesTape wo kt tad tlen tcap z)) := by
        rintro z rfl
        exact tapeBatch_any wo kt tad tlen tcap ix _ HT.out (by omega) (by omega)
      go_wp2_with fail
      refine (CB.out _ rfl).mono ?_
      rintro e w3 ⟨b, ad2, cap2, rfl, -, hr0, hwf, hrec, had, ht3, hg3⟩
      have HTT3 : Hid (TapeT w3 kt tad tlen tcap) := ht3
      have HAW3 := Lib.hid (HAW.out.tape hg3 hkb)
      have HB3 : Hid (Below w.heap.size w w3) := HB.out.trans (below_grown hg3 hktw HB.out.size)
      have HBR3 : Hid (base ≤ w3.heap.size) := Nat.le_trans HBR.out hg3.size
      have HR3 := Lib.hid hrec
      have HOK : Hid (rightE b = 0 ∧ b.wf) := ⟨hr0, hwf⟩
      have HAD : Hid (b.recs.length = 0 ∨ ∀ a, ad2 = some a → kt < a.block ∧ a.block < w3.heap.size ∧ u.ownBlock ≠ some a.block) := by
        by_cases h0 : b.recs.length = 0
        · exact .inl h0
        · refine .inr fun a ha => ?_
          have h1 := had a ha
          have h2 := (recsAt_row.1 hrec).lt (by omega) a ha
          have h3 := HT.out.lt
          refine ⟨by omega, h2, fun e => ?_⟩
          have := (HAW.out.own.lt _ e).2
          omega
      clear hr0 hwf hrec had ht3 hg3 CB HT HAW HB t1
      obtain ⟨m, hm⟩ : ∃ m : BM, m = ⟨b, ad2, cap2⟩ := ⟨_, rfl⟩
      obtain ⟨W4, hW4⟩ : ∃ z, z = w3.alloc (.cells #[.int .i64 b.base, .int .i64 b.prod, .int .i64 b.epoch, .int .i64 b.seq, .bool b.txn, .int .i64 b.marker, .slice ad2 b.recs.length cap2] 30) := ⟨_, rfl⟩
      have hb4 : Below w3.heap.size w3 W4 := by rw [hW4]; exact (Below.refl _ _).alloc (Nat.le_refl _) _
      have HLIT : Hid (RowAt batK W4 (some ⟨w3.heap.size, 0, none⟩) 1 1 [m]) := by
        show RowAt _ _ _ _ _ _
        rw [hW4]
        exact rowAt_lit batK_ok w3 [m] (by simp) _ (by rw [hm]; rfl) 1 rfl
      have HAW4 := Lib.hid (HAW3.out.on hb4)
      have HB4 := Lib.hid (HB3.out.trans (hb4.mono HB3.out.size))
      have HTT4 : Hid (TapeT W4 kt tad tlen tcap) := by obtain ⟨j, hj⟩ := HTT3.out; exact ⟨j, hj.on hb4⟩
      have HR4 : Hid (RecAt W4 m) := by show RecAt _ _; rw [hm]; exact HR3.out.keep hb4
      have HBR4 : Hid (base ≤ W4.heap.size) := Nat.le_trans HBR3.out hb4.size
      have HAD4 : Hid (m.b.recs.length = 0 ∨ ∀ a, m.ad = some a → kt < a.block ∧ a.block < W4.heap.size ∧ u.ownBlock ≠ some a.block) := by
        show _ ∨ _
        rw [hm]
        exact HAD.out.imp_right fun h a ha => ⟨(h a ha).1, Nat.lt_of_lt_of_le (h a ha).2.1 hb4.size, (h a ha).2.2⟩
      have HOK4 : Hid (rightE m.b = 0 ∧ m.b.wf) := by show _ ∧ _; rw [hm]; exact HOK.out
      have HW4 := Lib.hid hW4
      clear hb4 hW4 hm HAW3 HB3 HTT3 HR3 HAD HOK
      go_wp2_with (at_builtin; rw [← HW4.out]; refine list_row (by rfl) batK_ok (.tmp 25) (.tmp 30) rfl base os [m] u rfl HAW4.out.own HBR4.out (some ⟨w3.heap.size, 0, none⟩) 1 1 rfl HLIT.out (by have := HOL.out; omega) ?_)
      intro v7 w7 hap
      have HAW7 := Lib.hid (HAW4.out.app hap HR4.out HAD4.out HOK4.out)
      have HB7 : Hid (Below w.heap.size w w7) := HB4.out.grown hap.2.1 HB4.out.size fun q hq => by
        have h1 := (HAW4.out.own.lt q hq).1
        omega
      have HTT7 : Hid (TapeT w7 kt tad tlen tcap) := by
        obtain ⟨j, hj⟩ := HTT4.out
        exact ⟨j, hj.grow hap.2.1 fun q hq => by have := (HAW4.out.own.lt q hq).1; omega⟩
      have HBR7 : Hid (base ≤ w7.heap.size) := Nat.le_trans HBR4.out hap.2.1.size
      have HOL7 : Hid ((os ++ [m]).length = i + 1) := by show _ = _; rw [List.length_append, HOL.out]; rfl
      clear hap HAW4 HB4 HTT4 HR4 HAD4 HOK4 HLIT HW4 HBR3 HBR4 HBR
      go_wp2
      go_roundw
      case rel => exact ⟨i + 1, v7, os ++ [m], rfl, rfl, by omega, HOL7.out, HAW7.out, HTT7.out, HB7.out, HBR7.out⟩
      case measure => simp [intOf]; omega
    · obtain ⟨ad, cap, hv, hr, _⟩ := OwnRow.row batK_ok HAW.out.own rfl
      have HV : Hid (u = .slice ad os.length cap) := hv
      have HR := Lib.hid hr
      have hfin : GivesAny w n (.returned u) wo := by
        refine ⟨ad, os.length, cap, os, by rw [hv], ⟨HR.out, fun m hm => (HAW.out.ins m hm).1⟩, HAW.out.ok, by have := HOL.out; omega, HB.out⟩
      have HFIN := Lib.hid hfin
      clear hv hr hfin
      by_cases hg1 : i < n
      · have hd1 : decide (i < n) = true := decide_eq_true hg1
        have hd1i : decide ((i : Int) < (n : Int)) = true := decide_eq_true (by omega)
        have hd2 : decide (ix < tlen) = false := decide_eq_false (fun h => hgo ⟨hg1, h⟩)
        have hd2i : decide ((ix : Int) < (tlen : Int)) = false := decide_eq_false (fun h => hgo ⟨hg1, by omega⟩)
        clear hgo hg1
        go_wp2
        go_ret
        exact HFIN.out
      · have hd1 : decide (i < n) = false := decide_eq_false hg1
        have hd1i : decide ((i : Int) < (n : Int)) = false := decide_eq_false (by omega)
        clear hgo hg1
        go_wp2
        go_ret
        exact HFIN.out
end Go.Proofs.YtmnjobiipfgpoaaGreat
namespace Go.Proofs.YtmnjobiipfgpoaaGreat
open Go.RowKit
open Go.SeqMath
open Go.ProdMath
open Go.BatMath hiding AllB getD_lt take_all
set_option linter.unusedVariables false

theorem tab_len {w : World} {k : Nat} {ad : Option Addr} {n cap : Nat} {qs : List PM} {l : List Bat} (h : TabOk w k ad n cap qs) (he : pds qs = foldP [] l) : n ≤ l.length := by
  have h1 := foldP_len [] l
  rw [← he] at h1
  unfold pds at h1
  rw [List.length_map, h.tab.pds.row.length] at h1
  simpa using h1
theorem tc_len {ps : List PM} {l : List Bat} (he : pds ps = foldP [] l) : ps.length ≤ l.length := by
  have h1 := foldP_len [] l
  rw [← he] at h1
  unfold pds at h1
  rw [List.length_map] at h1
  simpa using h1
set_option maxRecDepth 100000 in
set_option maxHeartbeats 32000000 in
theorem play_any (w : World) (ad : Option Addr) (len cap : Nat) (ms : List BM) (h : BatsAt w ad len cap ms) (hL : len ≤ 80) (hok : BatsOk (bats ms)) (hwf : ∀ b ∈ bats ms, b.wf) :
    Calls Tryz.prog 6 #[.slice ad len cap] w (GivesBool w true) := by
  have H0 := Lib.hid h
  have hlen := h.row.length
  have hfits := h.row.fits
  obtain ⟨bs, hbs⟩ : ∃ bs, bs = bats ms := ⟨_, rfl⟩
  have hbl : bs.length = len := by rw [hbs]; unfold bats; rw [List.length_map]; exact hlen
  have HGET : Hid (∀ (i : Nat) m, ms[i]? = some m → bs[i]? = some m.b) := by
    intro i m hm
    rw [hbs]; unfold bats
    rw [List.getElem?_map, hm]; rfl
  have HBSE := Lib.hid hbs
  have HOKS := Lib.hid hok
  have HWFS := Lib.hid hwf
  have HBN := Lib.hid hbl
  have HFITS := Lib.hid hfits
  have hqg := guard_dr
  clear h hlen hfits hbs hbl hok hwf
  go_enter Tryz.func6, Tryz.ntmps6
  go_wp2_with fail
  refine (tcNew_any w).mono ?_
  rintro e w1 ⟨kt, km, rfl, ht1, hb1, hk1, hk2⟩
  go_upto_region 2 with fail
  obtain ⟨W0, hW0⟩ : ∃ z, z = w1.alloc (.cells #[.slice none 0 0] 50) := ⟨_, rfl⟩
  obtain ⟨k2, hk2e⟩ : ∃ z, z = w1.heap.size := ⟨_, rfl⟩
  have hb0 : Below w1.heap.size w1 W0 := by rw [hW0]; exact (Below.refl _ _).alloc (Nat.le_refl _) _
  have HT : Hid (TcOk W0 kt km []) := ht1.keep hb0
  have HQ : Hid (TabOk W0 k2 none 0 0 []) := by
    show TabOk _ _ _ _ _ _
    refine ⟨⟨?_, rowAt_nil _, fun m hm => by cases hm⟩, fun a ha => (by cases ha), fun m hm => by cases hm⟩
    show W0.heap[k2]? = _
    rw [hW0, hk2e]
    exact heap_alloc_new w1 _
  have HB : Hid (Below w.heap.size w W0) := hb1.trans (hb0.mono hb1.size)
  have HK : Hid (w.heap.size ≤ kt ∧ w.heap.size ≤ km ∧ w.heap.size ≤ k2) := ⟨hk1, hk2, by rw [hk2e]; exact hb1.size⟩
  rw [← hk2e, ← hW0]
  clear ht1 hb1 hk1 hk2 hW0 hk2e hb0
  go_wp2
  go_loopw [5] (fun v5 wr => ∃ (j : Nat) (ps : List PM) (tad : Option Addr) (tlen tcap : Nat) (qs : List PM), v5 = .int .i64 (j : Int) ∧ j ≤ len ∧ Hid (TcOk wr kt km ps) ∧ Hid (TabOk wr k2 tad tlen tcap qs) ∧ Hid (pds ps = foldP [] (bs.take j)) ∧ Hid (pds qs = foldP [] (bs.take j)) ∧ Hid (Below w.heap.size w wr)) (fun v5 _ => len - (intOf v5).toNat)
  case atStart => exact ⟨0, [], none, 0, 0, [], rfl, Nat.zero_le _, HT.out, HQ.out, rfl, rfl, HB.out⟩
  case round =>
    obtain ⟨j, ps, tad, tlen, tcap, qs, rfl, hj, HT2, HQ2, HPS, HQS, HB2⟩ := hrel
    clear HT HQ HB
    have HT := HT2
    have HQ := HQ2
    have HB := HB2
    clear HT2 HQ2 HB2
    obtain ⟨wo, hwo⟩ : ∃ wo : World, wo = wr := ⟨_, rfl⟩
    subst hwo
    by_cases hlt : j < len
    · have hd : decide (j < len) = true := decide_eq_true hlt
      have hdi : decide ((j : Int) < (len : Int)) = true := decide_eq_true (by omega)
      have hd80 : decide (j < 80) = true := decide_eq_true (by omega)
      have hd80i : decide ((j : Int) < 80) = true := decide_eq_true (by omega)
      have hjl : (j : Int) < (len : Int) := by omega
      obtain ⟨bk, off, m, rfl, hbk, hm, hrec, c0, c1, c2, c3, c4, c5, c6⟩ := (H0.out.keep HB.out).get hlt
      have hbm := HGET.out j m hm
      have hmb : m.b ∈ bats ms := by rw [← HBSE.out]; exact List.mem_of_getElem? hbm
      have HR0 : Hid (∀ W, Below w.heap.size w W → RecAt W m) := fun W hW => (H0.out.ins m (List.mem_of_getElem? hm)).keep hW
      obtain ⟨hk1, hk2, hk3⟩ := HOKS.out m.b hmb
      have hkw := (HWFS.out m.b hmb).prod
      have HTK : Hid (bs.take (j + 1) = bs.take j ++ [m.b]) := by show _ = _; rw [List.take_add_one, hbm]; rfl
      have HTX := Lib.hid hk1
      obtain ⟨l, hl⟩ : ∃ l, l = foldP [] (bs.take j) := ⟨_, rfl⟩
      have HLA : Hid (Asc l) := by show Asc _; rw [hl]; exact fold_asc _ asc_nil
      have HLF : Hid (fewP l) := by show fewP _; rw [hl]; exact foldP_few _ (fun p hp => by cases hp)
      have htl : tlen ≤ 80 := by
        have h1 := tab_len HQ.out HQS.out
        rw [List.length_take] at h1
        omega
      rw [← hl] at HPS HQS
      have HL2 : Hid (tapplyD l m.b = foldP [] (bs.take (j + 1))) := by show _ = _; rw [HTK.out, foldP_snoc, hl]
      obtain ⟨⟨b0, b1, b2, b3, b4, b5, recs⟩, rd, rc⟩ := m
      simp only at c0 c1 c2 c3 c4 c5 c6 hk2 hk3 hkw HL2
      obtain ⟨rn, hrn⟩ : ∃ n, n = recs.length := ⟨_, rfl⟩
      have HR1 : Hid (∀ W, Below w.heap.size w W → RecsAt W rd rn rc recs) := by
        show ∀ W, Below w.heap.size w W → RecsAt W rd rn rc recs
        rw [hrn]
        exact HR0.out
      rw [← hrn] at c6 hk3
      clear hbm hmb hm hrec hbk hk1 hrn hl HR0
      go_upto_region 8 with fail
      obtain ⟨W1, hW1⟩ : ∃ W1, W1 = wo.alloc (.cells #[.int .i64 b0, .int .i64 b1, .int .i64 b2, .int .i64 b3, .bool b4, .int .i64 b5, .slice rd rn rc] 30) := ⟨_, rfl⟩
      have hb : Below wo.heap.size wo W1 := by rw [hW1]; exact (Below.refl _ _).alloc (Nat.le_refl _) _
      obtain ⟨K, hK⟩ : ∃ K, K = wo.heap.size := ⟨_, rfl⟩
      have HX : Hid (BoxAt W1 K b0 b1 b2 b3 b4 b5 (.slice rd rn rc)) := by show BoxAt _ _ _ _ _ _ _ _ _; rw [hW1, hK]; exact boxAt_new wo _ _ _ _ _ _ _
      have HKK : Hid (km ≠ K ∧ k2 ≠ K) := by
        have h1 := HT.out.map.lt
        have h2 := HQ.out.tab.box.lt
        show _ ∧ _
        omega
      replace HT := Lib.hid (HT.out.keep hb)
      replace HQ := Lib.hid (HQ.out.keep hb)
      replace HB := Lib.hid (HB.out.trans (hb.mono HB.out.size))
      rw [← hW1, ← hK]
      clear hW1 hb hK c0 c1 c2 c3 c4 c5 c6
      obtain ⟨c, hc⟩ : ∃ c, tcheckD l ⟨b0, b1, b2, b3, b4, b5, recs⟩ = c := ⟨_, rfl⟩
      have CC : Hid (∀ W, TcOk W kt km ps → RecsAt W rd rn rc recs → Calls Tryz.prog 18 #[.pointer (some ⟨kt, 0, none⟩), .agg #[.int .i64 b0, .int .i64 b1, .int .i64 b2, .int .i64 b3, .bool b4, .int .i64 b5, .slice rd rn rc]] W (GivesPair W c)) := fun W hW hR =>
        tcCheck_any W kt km ps hW (by rw [HPS.out]; exact HLA.out) (by rw [HPS.out]; exact HLF.out) ⟨b0, b1, b2, b3, b4, b5, recs⟩ rd rn rc hR HTX.out hk3 hk2 c (by rw [HPS.out]; exact hc)
      have CQ : Hid (∀ W, TabOk W k2 tad tlen tcap qs → RecsAt W rd rn rc recs → Calls Tryz.prog 19 #[.pointer (some ⟨k2, 0, none⟩), .agg #[.int .i64 b0, .int .i64 b1, .int .i64 b2, .int .i64 b3, .bool b4, .int .i64 b5, .slice rd rn rc]] W (GivesPair W c)) := fun W hW hR =>
        tabCheck_any W k2 tad tlen tcap qs hW.tab (by omega) ⟨b0, b1, b2, b3, b4, b5, recs⟩ rd rn rc hR HTX.out hk3 hk2 c (by rw [HQS.out]; exact hc) (by rw [HQS.out]; exact HLF.out)
      obtain ⟨l', hl'⟩ : ∃ l', l' = foldP [] (bs.take (j + 1)) := ⟨_, rfl⟩
      rw [← hl'] at HL2
      obtain ⟨dr, hdr⟩ : ∃ dr, tdropD l ⟨b0, b1, b2, b3, b4, b5, recs⟩ = dr := ⟨_, rfl⟩
      obtain ⟨okv, hokv⟩ : ∃ q, dr.isSome = q := ⟨_, rfl⟩
      have CA : Hid (∀ W, TcOk W kt km ps → RecsAt W rd rn rc recs → Calls Tryz.prog 20 #[.pointer (some ⟨kt, 0, none⟩), .agg #[.int .i64 b0, .int .i64 b1, .int .i64 b2, .int .i64 b3, .bool b4, .int .i64 b5, .slice rd rn rc]] W (GivesTcApply W kt km l' dr)) := fun W hW hR => by
        have := tcApply_any W kt km ps hW (by rw [HPS.out]; exact HLA.out) (by rw [HPS.out]; exact HLF.out) ⟨b0, b1, b2, b3, b4, b5, recs⟩ rd rn rc hR HTX.out hk3 hk2
        rw [HPS.out, hdr, HL2.out] at this
        exact this
      have CR : Hid (∀ W, TabOk W k2 tad tlen tcap qs → RecsAt W rd rn rc recs → Calls Tryz.prog 21 #[.pointer (some ⟨k2, 0, none⟩), .agg #[.int .i64 b0, .int .i64 b1, .int .i64 b2, .int .i64 b3, .bool b4, .int .i64 b5, .slice rd rn rc]] W (GivesTApply W k2 tad qs l' dr)) := fun W hW hR => by
        have := tabApply_any W k2 tad tlen tcap qs hW (by omega) ⟨b0, b1, b2, b3, b4, b5, recs⟩ rd rn rc hR HTX.out hk3 hk2 (by rw [HQS.out]; exact HLF.out)
        rw [HQS.out, hdr, HL2.out] at this
        exact this
      have HLA2 : Hid (Asc l') := by show Asc _; rw [hl']; exact fold_asc _ asc_nil
      have HLF2 : Hid (fewP l') := by show fewP _; rw [hl']; exact foldP_few _ (fun p hp => by cases hp)
      have HLN2 : Hid (∀ qs : List PM, pds qs = l' → qs.length ≤ 80) := fun qs hq => by
        have h1 := tc_len (ps := qs) (l := bs.take (j + 1)) (by rw [hq, hl'])
        rw [List.length_take] at h1
        omega
      have HL3 : Hid (l' = foldP [] (bs.take (j + 1))) := hl'
      have HOV := Lib.hid hokv
      clear hc hl' hdr hokv HL2 HTK HLA HLF
      have p0 := HX.out.c0
      have p1 := HX.out.c1
      have p2 := HX.out.c2
      have p3 := HX.out.c3
      have p4 := HX.out.c4
      have p5 := HX.out.c5
      have p6 := HX.out.c6
      go_wp2_with fail
      refine (CC.out W1 HT.out (HR1.out _ HB.out)).mono ?_
      rintro e w2 ⟨rfl, hb⟩
      replace HT := Lib.hid (HT.out.keep hb)
      replace HQ := Lib.hid (HQ.out.keep hb)
      replace HX := Lib.hid (HX.out.on hb)
      replace HB := Lib.hid (HB.out.trans (hb.mono HB.out.size))
      clear hb CC p0 p1 p2 p3 p4 p5 p6
      have p0 := HX.out.c0
      have p1 := HX.out.c1
      have p2 := HX.out.c2
      have p3 := HX.out.c3
      have p4 := HX.out.c4
      have p5 := HX.out.c5
      have p6 := HX.out.c6
      go_wp2_with fail
      refine (CQ.out w2 HQ.out (HR1.out _ HB.out)).mono ?_
      rintro e w3 ⟨rfl, hb⟩
      replace HT := Lib.hid (HT.out.keep hb)
      replace HQ := Lib.hid (HQ.out.keep hb)
      replace HX := Lib.hid (HX.out.on hb)
      replace HB := Lib.hid (HB.out.trans (hb.mono HB.out.size))
      clear hb CQ p0 p1 p2 p3 p4 p5 p6
      have p0 := HX.out.c0
      have p1 := HX.out.c1
      have p2 := HX.out.c2
      have p3 := HX.out.c3
      have p4 := HX.out.c4
      have p5 := HX.out.c5
      have p6 := HX.out.c6
      go_wp2_with fail
      refine (CA.out w3 HT.out (HR1.out _ HB.out)).mono ?_
      rintro e w4 ⟨d, ps2, rfl, hd0, ht4, hp4, hg4⟩
      rw [HOV.out]
      replace HQ := Lib.hid (HQ.out.past_map hg4 HT.out.map.is)
      replace HX := Lib.hid (HX.out.grows hg4 fun e => HKK.out.1 (Option.some.inj e))
      replace HB : Hid (Below w.heap.size w w4) := HB.out.trans (below_grown hg4 HK.out.2.1 HB.out.size)
      replace HT := Lib.hid ht4
      have HP4 := Lib.hid hp4
      have HD0 := Lib.hid hd0
      clear ht4 hp4 hg4 hd0 CA HPS p0 p1 p2 p3 p4 p5 p6
      go_upto_region 11 with fail
      obtain ⟨W5, hW5⟩ : ∃ z, z = w4.alloc (.cells #[.int .i64 d.prod, .int .i64 d.first, .int .i64 d.last] 55) := ⟨_, rfl⟩
      obtain ⟨D1, hD1⟩ : ∃ z, z = w4.heap.size := ⟨_, rfl⟩
      have hb : Below w4.heap.size w4 W5 := by rw [hW5]; exact (Below.refl _ _).alloc (Nat.le_refl _) _
      have HD1 : Hid (DBox W5 D1 d) := by show DBox _ _ _; rw [hW5, hD1]; exact dbox_new w4 d
      have HK1 : Hid (km ≠ D1 ∧ k2 ≠ D1) := by
        have h1 := HT.out.map.lt
        have h2 := HQ.out.tab.box.lt
        show _ ∧ _
        omega
      replace HT := Lib.hid (HT.out.keep hb)
      replace HQ := Lib.hid (HQ.out.keep hb)
      replace HX := Lib.hid (HX.out.on hb)
      replace HB := Lib.hid (HB.out.trans (hb.mono HB.out.size))
      rw [← hW5, ← hD1]
      clear hW5 hD1 hb
      have p0 := HX.out.c0
      have p1 := HX.out.c1
      have p2 := HX.out.c2
      have p3 := HX.out.c3
      have p4 := HX.out.c4
      have p5 := HX.out.c5
      have p6 := HX.out.c6
      go_wp2_with fail
      refine (CR.out W5 HQ.out (HR1.out _ HB.out)).mono ?_
      rintro e w6 ⟨d2, tad2, tlen2, tcap2, qs2, rfl, hd2, ht6, hq6, hg6, -, -⟩
      obtain rfl : d = d2 := HD0.out.symm.trans hd2
      rw [HOV.out]
      replace HT := Lib.hid (HT.out.past_box hg6 HQ.out.tab.box.is)
      replace HX := Lib.hid (HX.out.grows hg6 fun e => HKK.out.2 (Option.some.inj e))
      replace HD1 := Lib.hid (HD1.out.grown hg6 fun e => HK1.out.2 (Option.some.inj e))
      replace HB : Hid (Below w.heap.size w w6) := HB.out.trans (below_grown hg6 HK.out.2.2 HB.out.size)
      replace HQ := Lib.hid ht6
      have HQ6 := Lib.hid hq6
      clear ht6 hq6 hg6 hd2 CR HQS HD0 HOV p0 p1 p2 p3 p4 p5 p6
      go_upto_region 12 with fail
      obtain ⟨W7, hW7⟩ : ∃ z, z = w6.alloc (.cells #[.int .i64 d.prod, .int .i64 d.first, .int .i64 d.last] 55) := ⟨_, rfl⟩
      obtain ⟨D2, hD2⟩ : ∃ z, z = w6.heap.size := ⟨_, rfl⟩
      have hb : Below w6.heap.size w6 W7 := by rw [hW7]; exact (Below.refl _ _).alloc (Nat.le_refl _) _
      have HD2 : Hid (DBox W7 D2 d) := by show DBox _ _ _; rw [hW7, hD2]; exact dbox_new w6 d
      replace HT := Lib.hid (HT.out.keep hb)
      replace HQ := Lib.hid (HQ.out.keep hb)
      replace HX := Lib.hid (HX.out.on hb)
      replace HD1 := Lib.hid (HD1.out.on hb)
      replace HB := Lib.hid (HB.out.trans (hb.mono HB.out.size))
      rw [← hW7, ← hD2]
      clear hW7 hD2 hb
      have hpn : ps2.length ≤ 80 := HLN2.out ps2 HP4.out
      have hqn : tlen2 ≤ 80 := by
        have h1 := HLN2.out qs2 HQ6.out
        have h2 := HQ.out.tab.pds.row.length
        omega
      obtain ⟨x, y, z⟩ := d
      have qd : ∀ W, (binOp .neq 55 (.agg #[.int .i64 x, .int .i64 y, .int .i64 z]) (.agg #[.int .i64 x, .int .i64 y, .int .i64 z])).run Tryz.prog W = .ok (.bool false) W := fun W => neq_dr x y z x y z true (by simp) W
      have CL : Hid (∀ W, TcOk W kt km ps2 → Calls Tryz.prog 14 #[.pointer (some ⟨kt, 0, none⟩)] W (GivesTcAll W l')) := fun W hW => by
        have := tcAll_any W kt km ps2 hW (by rw [HP4.out]; exact HLA2.out) (by rw [HP4.out]; exact HLF2.out) (by omega)
        rw [HP4.out] at this
        exact this
      have KS : Hid (∀ V, Below W7.heap.size W7 V → (fun (V : World) => V.cell? ⟨D1, 0, none⟩ = some (.int .i64 x) ∧ V.cell? ⟨D1, 1, none⟩ = some (.int .i64 y) ∧ V.cell? ⟨D1, 2, none⟩ = some (.int .i64 z) ∧ V.cell? ⟨D2, 0, none⟩ = some (.int .i64 x) ∧ V.cell? ⟨D2, 1, none⟩ = some (.int .i64 y) ∧ V.cell? ⟨D2, 2, none⟩ = some (.int .i64 z) ∧ V.cell? ⟨k2, 0, none⟩ = some (.slice tad2 tlen2 tcap2)) V) := fun V hV => ⟨(HD1.out.on hV).c0, (HD1.out.on hV).c1, (HD1.out.on hV).c2, (HD2.out.on hV).c0, (HD2.out.on hV).c1, (HD2.out.on hV).c2, (HQ.out.keep hV).tab.box.c0⟩
      have hdrw : Below W7.heap.size W7 W7.drew := (Below.refl _ W7).drew

      refine wp_region_noPanic ?_
      refine wp_region_z [] (fun (V : World) => V.cell? ⟨D1, 0, none⟩ = some (.int .i64 x) ∧ V.cell? ⟨D1, 1, none⟩ = some (.int .i64 y) ∧ V.cell? ⟨D1, 2, none⟩ = some (.int .i64 z) ∧ V.cell? ⟨D2, 0, none⟩ = some (.int .i64 x) ∧ V.cell? ⟨D2, 1, none⟩ = some (.int .i64 y) ∧ V.cell? ⟨D2, 2, none⟩ = some (.int .i64 z) ∧ V.cell? ⟨k2, 0, none⟩ = some (.slice tad2 tlen2 tcap2)) (by kernel_rfl) ?_
      have hHeld : (fun (V : World) => V.cell? ⟨D1, 0, none⟩ = some (.int .i64 x) ∧ V.cell? ⟨D1, 1, none⟩ = some (.int .i64 y) ∧ V.cell? ⟨D1, 2, none⟩ = some (.int .i64 z) ∧ V.cell? ⟨D2, 0, none⟩ = some (.int .i64 x) ∧ V.cell? ⟨D2, 1, none⟩ = some (.int .i64 y) ∧ V.cell? ⟨D2, 2, none⟩ = some (.int .i64 z) ∧ V.cell? ⟨k2, 0, none⟩ = some (.slice tad2 tlen2 tcap2)) _ := KS.out _ hdrw
      obtain ⟨ua_0, hu⟩ : ∃ u, u = W7.drew := ⟨_, rfl⟩
      rw [← hu] at hHeld hdrw
      rw [← hu]
      clear hu
      have HU0 := Lib.hid hdrw
      clear hdrw
      refine wpAnyZ_take (i := 0) (oi := ⟨_, _, _, _, _, _⟩) (v := ?_) rfl (by kernel_rfl) (by kernel_rfl) (by kernel_rfl) (by kernel_rfl) (by kernel_rfl) (fun _ _ _ h => h) (Or.inl ⟨by rfl, ?_⟩) (by assumption) ?_
      rotate_left
      · intro W hSw
        (try dsimp only at hSw)
        go_simp
        (try with_reducible rfl)
      (try simp only [Act.put, List.setIfInBounds_toArray, List.set_cons_zero, List.set_cons_succ])
      refine wpAnyZ_take (i := 1) (oi := ⟨_, _, _, _, _, _⟩) (v := ?_) rfl (by kernel_rfl) (by kernel_rfl) (by kernel_rfl) (by kernel_rfl) (by kernel_rfl) (fun _ _ _ h => h) (Or.inl ⟨by rfl, ?_⟩) (by assumption) ?_
      rotate_left
      · intro W hSw
        (try dsimp only at hSw)
        go_simp
        (try with_reducible rfl)
      (try simp only [Act.put, List.setIfInBounds_toArray, List.set_cons_zero, List.set_cons_succ])
      refine wpAnyZ_take (i := 2) (oi := ⟨_, _, _, _, _, _⟩) (v := ?_) rfl (by kernel_rfl) (by kernel_rfl) (by kernel_rfl) (by kernel_rfl) (by kernel_rfl) (fun _ _ _ h => h) (Or.inl ⟨by rfl, ?_⟩) (by assumption) ?_
      rotate_left
      · intro W hSw
        (try dsimp only at hSw)
        go_simp
        (try with_reducible rfl)
      (try simp only [Act.put, List.setIfInBounds_toArray, List.set_cons_zero, List.set_cons_succ])
      refine wpAnyZ_take (i := 3) (oi := ⟨_, _, _, _, _, _⟩) (v := ?_) rfl (by kernel_rfl) (by kernel_rfl) (by kernel_rfl) (by kernel_rfl) (by kernel_rfl) (fun _ _ _ h => h) (Or.inl ⟨by rfl, ?_⟩) (by assumption) ?_
      rotate_left
      · intro W hSw
        (try dsimp only at hSw)
        go_simp
        (try with_reducible rfl)
      (try simp only [Act.put, List.setIfInBounds_toArray, List.set_cons_zero, List.set_cons_succ])
      refine wpAnyZ_take (i := 4) (oi := ⟨_, _, _, _, _, _⟩) (v := ?_) rfl (by kernel_rfl) (by kernel_rfl) (by kernel_rfl) (by kernel_rfl) (by kernel_rfl) (fun _ _ _ h => h) (Or.inl ⟨by rfl, ?_⟩) (by assumption) ?_
      rotate_left
      · intro W hSw
        (try dsimp only at hSw)
        go_simp
        (try with_reducible rfl)
      (try simp only [Act.put, List.setIfInBounds_toArray, List.set_cons_zero, List.set_cons_succ])
      refine wpAnyZ_take (i := 5) (oi := ⟨_, _, _, _, _, _⟩) (v := ?_) rfl (by kernel_rfl) (by kernel_rfl) (by kernel_rfl) (by kernel_rfl) (by kernel_rfl) (fun _ _ _ h => h) (Or.inl ⟨by rfl, ?_⟩) (by assumption) ?_
      rotate_left
      · intro W hSw
        (try dsimp only at hSw)
        go_simp
        (try with_reducible rfl)
      (try simp only [Act.put, List.setIfInBounds_toArray, List.set_cons_zero, List.set_cons_succ])
      refine wpAnyZ_take (i := 6) (oi := ⟨_, _, _, _, _, _⟩) (v := ?_) rfl (by kernel_rfl) (by kernel_rfl) (by kernel_rfl) (by kernel_rfl) (by kernel_rfl) (fun _ _ _ h => h) (Or.inl ⟨by rfl, ?_⟩) (by assumption) ?_
      rotate_left
      · intro W hSw
        (try dsimp only at hSw)
        go_simp
        (try with_reducible rfl)
      (try simp only [Act.put, List.setIfInBounds_toArray, List.set_cons_zero, List.set_cons_succ])
      refine wpAnyZ_take (i := 7) (oi := ⟨_, _, _, _, _, _⟩) (v := ?_) rfl (by kernel_rfl) (by kernel_rfl) (by kernel_rfl) (by kernel_rfl) (by kernel_rfl) (fun _ _ _ h => h) (Or.inl ⟨by rfl, ?_⟩) (by assumption) ?_
      rotate_left
      · intro W hSw
        (try dsimp only at hSw)
        go_simp
        (try with_reducible rfl)
      (try simp only [Act.put, List.setIfInBounds_toArray, List.set_cons_zero, List.set_cons_succ])
      refine wpAnyZ_take (i := 8) (oi := ⟨_, _, _, _, _, _⟩) (v := ?_) rfl (by kernel_rfl) (by kernel_rfl) (by kernel_rfl) (by kernel_rfl) (by kernel_rfl) (fun _ _ _ h => h) (Or.inl ⟨by rfl, ?_⟩) (by assumption) ?_
      rotate_left
      · intro W hSw
        (try dsimp only at hSw)
        go_simp
        (try with_reducible rfl)
      (try simp only [Act.put, List.setIfInBounds_toArray, List.set_cons_zero, List.set_cons_succ])
      refine wpAnyZ_take (i := 9) (oi := ⟨_, _, _, _, _, _⟩) (v := ?_) rfl (by kernel_rfl) (by kernel_rfl) (by kernel_rfl) (by kernel_rfl) (by kernel_rfl) (fun _ _ _ h => h) (Or.inl ⟨by rfl, ?_⟩) (by assumption) ?_
      rotate_left
      · intro W hSw
        (try dsimp only at hSw)
        go_simp
        (try with_reducible rfl)
      (try simp only [Act.put, List.setIfInBounds_toArray, List.set_cons_zero, List.set_cons_succ])
      refine wpAnyZ_take (i := 10) (oi := ⟨_, _, _, _, _, _⟩) (v := ?_) rfl (by kernel_rfl) (by kernel_rfl) (by kernel_rfl) (by kernel_rfl) (by kernel_rfl) (fun _ _ _ h => h) (Or.inl ⟨by rfl, ?_⟩) (by assumption) ?_
      rotate_left
      · intro W hSw
        (try dsimp only at hSw)
        go_simp
        (try with_reducible rfl)
      (try simp only [Act.put, List.setIfInBounds_toArray, List.set_cons_zero, List.set_cons_succ])
      refine wpAnyZ_take (i := 11) (oi := ⟨_, _, _, _, _, _⟩) (v := ?_) rfl (by kernel_rfl) (by kernel_rfl) (by kernel_rfl) (by kernel_rfl) (by kernel_rfl) (fun _ _ _ h => h) (Or.inl ⟨by rfl, ?_⟩) (by assumption) ?_
      rotate_left
      · intro W hSw
        (try dsimp only at hSw)
        go_simp
        (try with_reducible rfl)
      (try simp only [Act.put, List.setIfInBounds_toArray, List.set_cons_zero, List.set_cons_succ])
      refine wpAnyZ_take (i := 12) (oi := ⟨_, _, _, _, _, _⟩) (v := ?_) rfl (by kernel_rfl) (by kernel_rfl) (by kernel_rfl) (by kernel_rfl) (by kernel_rfl) (fun _ _ _ h => h) (Or.inl ⟨by rfl, ?_⟩) (by assumption) ?_
      rotate_left
      · intro W hSw
        (try dsimp only at hSw)
        go_simp
        (try with_reducible rfl)
      (try simp only [Act.put, List.setIfInBounds_toArray, List.set_cons_zero, List.set_cons_succ])
      refine wpAnyZ_take (i := 13) (oi := ⟨_, _, _, _, _, _⟩) (v := ?_) rfl (by kernel_rfl) (by kernel_rfl) (by kernel_rfl) (by kernel_rfl) (by kernel_rfl) (fun _ _ _ h => h) (Or.inl ⟨by rfl, ?_⟩) (by assumption) ?_
      rotate_left
      · intro W hSw
        (try dsimp only at hSw)
        go_simp
        (try with_reducible rfl)
      (try simp only [Act.put, List.setIfInBounds_toArray, List.set_cons_zero, List.set_cons_succ])
      refine wpAnyZ_take (i := 14) (oi := ⟨_, _, _, _, _, _⟩) (v := ?_) rfl (by kernel_rfl) (by kernel_rfl) (by kernel_rfl) (by kernel_rfl) (by kernel_rfl) (fun _ _ _ h => h) (Or.inl ⟨by rfl, ?_⟩) (by assumption) ?_
      rotate_left
      · intro W hSw
        (try dsimp only at hSw)
        go_simp
        (try with_reducible rfl)
      (try simp only [Act.put, List.setIfInBounds_toArray, List.set_cons_zero, List.set_cons_succ])
      refine wpAnyZ_take (i := 15) (oi := ⟨_, _, _, _, _, _⟩) (v := ?_) rfl (by kernel_rfl) (by kernel_rfl) (by kernel_rfl) (by kernel_rfl) (by kernel_rfl) (fun _ _ _ h => h) (Or.inl ⟨by rfl, ?_⟩) (by assumption) ?_
      rotate_left
      · intro W hSw
        (try dsimp only at hSw)
        go_simp
        (try with_reducible rfl)
      (try simp only [Act.put, List.setIfInBounds_toArray, List.set_cons_zero, List.set_cons_succ])
      refine wpAnyZ_take (i := 16) (oi := ⟨_, _, _, _, _, _⟩) (v := ?_) rfl (by kernel_rfl) (by kernel_rfl) (by kernel_rfl) (by kernel_rfl) (by kernel_rfl) (fun _ _ _ h => h) (Or.inl ⟨by rfl, ?_⟩) (by assumption) ?_
      rotate_left
      · intro W hSw
        (try dsimp only at hSw)
        go_simp
        (try with_reducible rfl)
      (try simp only [Act.put, List.setIfInBounds_toArray, List.set_cons_zero, List.set_cons_succ])
      refine wpAnyZ_take (i := 17) (oi := ⟨_, _, _, _, _, _⟩) (v := ?_) rfl (by kernel_rfl) (by kernel_rfl) (by kernel_rfl) (by kernel_rfl) (by kernel_rfl) (fun _ _ _ h => h) (Or.inl ⟨by rfl, ?_⟩) (by assumption) ?_
      rotate_left
      · intro W hSw
        (try dsimp only at hSw)
        go_simp
        (try with_reducible rfl)
      (try simp only [Act.put, List.setIfInBounds_toArray, List.set_cons_zero, List.set_cons_succ])
      refine wpAnyZ_take (i := 18) (oi := ⟨_, _, _, _, _, _⟩) (v := ?_) rfl (by kernel_rfl) (by kernel_rfl) (by kernel_rfl) (by kernel_rfl) (by kernel_rfl) (fun _ _ _ h => h) (Or.inl ⟨by rfl, ?_⟩) (by assumption) ?_
      rotate_left
      · intro W hSw
        (try dsimp only at hSw)
        go_simp
        (try with_reducible rfl)
      (try simp only [Act.put, List.setIfInBounds_toArray, List.set_cons_zero, List.set_cons_succ])
      refine wpAnyZ_take (i := 19) (oi := ⟨_, _, _, _, _, _⟩) (v := ?_) rfl (by kernel_rfl) (by kernel_rfl) (by kernel_rfl) (by kernel_rfl) (by kernel_rfl) (fun _ _ _ h => h) (Or.inl ⟨by rfl, ?_⟩) (by assumption) ?_
      rotate_left
      · intro W hSw
        (try dsimp only at hSw)
        go_simp
        (try with_reducible rfl)
      (try simp only [Act.put, List.setIfInBounds_toArray, List.set_cons_zero, List.set_cons_succ])
      refine wpAnyZ_take (i := 21) (oi := ⟨_, _, _, _, _, _⟩) (v := ?_) rfl (by kernel_rfl) (by kernel_rfl) (by kernel_rfl) (by kernel_rfl) (by kernel_rfl) (fun _ _ _ h => h) (Or.inl ⟨by rfl, ?_⟩) (by assumption) ?_
      rotate_left
      · intro W hSw
        (try dsimp only at hSw)
        go_simp
        (try with_reducible rfl)
      (try simp only [Act.put, List.setIfInBounds_toArray, List.set_cons_zero, List.set_cons_succ])
      refine wpAnyZ_take (i := 22) (oi := ⟨_, _, _, _, _, _⟩) (v := ?_) rfl (by kernel_rfl) (by kernel_rfl) (by kernel_rfl) (by kernel_rfl) (by kernel_rfl) (fun _ _ _ h => h) (Or.inl ⟨by rfl, ?_⟩) (by assumption) ?_
      rotate_left
      · intro W hSw
        (try dsimp only at hSw)
        go_simp
        (try with_reducible rfl)
      (try simp only [Act.put, List.setIfInBounds_toArray, List.set_cons_zero, List.set_cons_succ])
      refine wpAnyZ_take (i := 23) (oi := ⟨_, _, _, _, _, _⟩) (v := ?_) rfl (by kernel_rfl) (by kernel_rfl) (by kernel_rfl) (by kernel_rfl) (by kernel_rfl) (fun _ _ _ h => h) (Or.inl ⟨by rfl, ?_⟩) (by assumption) ?_
      rotate_left
      · intro W hSw
        (try dsimp only at hSw)
        go_simp
        (try with_reducible rfl)
      (try simp only [Act.put, List.setIfInBounds_toArray, List.set_cons_zero, List.set_cons_succ])
      refine wpAnyZ_take (i := 24) (oi := ⟨_, _, _, _, _, _⟩) (v := ?_) rfl (by kernel_rfl) (by kernel_rfl) (by kernel_rfl) (by kernel_rfl) (by kernel_rfl) (fun _ _ _ h => h) (Or.inl ⟨by rfl, ?_⟩) (by assumption) ?_
      rotate_left
      · intro W hSw
        (try dsimp only at hSw)
        go_simp
        (try with_reducible rfl)
      (try simp only [Act.put, List.setIfInBounds_toArray, List.set_cons_zero, List.set_cons_succ])
      refine wpAnyZ_ready (rs := [20]) (by kernel_rfl) (by simp) ?_
      refine AllReadyZ.cons (o := ⟨_, _, _, _, _, _⟩) rfl (fun C hC => ?_) AllReadyZ.nil
      go_simp
      refine (CL.out ua_0 (HT.out.keep HU0.out)).mono ?_
      rintro e ua_1 ⟨lad, llen, lcap, os, rfl, hpo, hpe, hb⟩
      have HU1 := Lib.hid (HU0.out.trans (hb.mono HU0.out.size))
      have HPO := Lib.hid hpo
      have HPE := Lib.hid hpe
      clear hpo hpe hb
      have hHeld : (fun (V : World) => V.cell? ⟨D1, 0, none⟩ = some (.int .i64 x) ∧ V.cell? ⟨D1, 1, none⟩ = some (.int .i64 y) ∧ V.cell? ⟨D1, 2, none⟩ = some (.int .i64 z) ∧ V.cell? ⟨D2, 0, none⟩ = some (.int .i64 x) ∧ V.cell? ⟨D2, 1, none⟩ = some (.int .i64 y) ∧ V.cell? ⟨D2, 2, none⟩ = some (.int .i64 z) ∧ V.cell? ⟨k2, 0, none⟩ = some (.slice tad2 tlen2 tcap2)) ua_1 := KS.out _ HU1.out
      refine hC.out _ _ (fun _ => hHeld) (fun _ => ?_)
      clear hC C
      (try simp only [Act.put, List.setIfInBounds_toArray, List.set_cons_zero, List.set_cons_succ])
      refine wpAnyZ_ready (rs := [25]) (by kernel_rfl) (by simp) ?_
      refine AllReadyZ.cons (o := ⟨_, _, _, _, _, _⟩) rfl (fun C hC => ?_) AllReadyZ.nil
      go_simp
      refine (refAllP_any ua_1 lad tad2 llen tlen2 lcap tcap2 os qs2 HPO.out (HQ.out.keep HU1.out).tab.pds (by rw [HPE.out, HQ6.out]) (by
        have h1 := congrArg List.length HPE.out
        unfold pds at h1
        rw [List.length_map, HPO.out.row.length] at h1
        rw [h1]
        have h2 := congrArg List.length HQ6.out
        have h3 := HQ.out.tab.pds.row.length
        unfold pds at h2
        rw [List.length_map] at h2
        omega) (by rw [HPE.out]; exact HLF2.out)).mono ?_
      rintro e ua_2 ⟨rfl, hb⟩
      have HU2 := Lib.hid (HU1.out.trans (hb.mono HU1.out.size))
      clear hb HPO HPE
      have hHeld : (fun (V : World) => V.cell? ⟨D1, 0, none⟩ = some (.int .i64 x) ∧ V.cell? ⟨D1, 1, none⟩ = some (.int .i64 y) ∧ V.cell? ⟨D1, 2, none⟩ = some (.int .i64 z) ∧ V.cell? ⟨D2, 0, none⟩ = some (.int .i64 x) ∧ V.cell? ⟨D2, 1, none⟩ = some (.int .i64 y) ∧ V.cell? ⟨D2, 2, none⟩ = some (.int .i64 z) ∧ V.cell? ⟨k2, 0, none⟩ = some (.slice tad2 tlen2 tcap2)) ua_2 := KS.out _ HU2.out
      refine hC.out _ _ (fun _ => hHeld) (fun _ => ?_)
      clear hC C
      (try simp only [Act.put, List.setIfInBounds_toArray, List.set_cons_zero, List.set_cons_succ])
      refine wpAnyZ_take (i := 26) (oi := ⟨_, _, _, _, _, _⟩) (v := ?_) rfl (by kernel_rfl) (by kernel_rfl) (by kernel_rfl) (by kernel_rfl) (by kernel_rfl) (fun _ _ _ h => h) (Or.inl ⟨by rfl, ?_⟩) (by assumption) ?_
      rotate_left
      · intro W hSw
        (try dsimp only at hSw)
        go_simp
        (try with_reducible rfl)
      (try simp only [Act.put, List.setIfInBounds_toArray, List.set_cons_zero, List.set_cons_succ])
      refine wpAnyZ_take (i := 27) (oi := ⟨_, _, _, _, _, _⟩) (v := ?_) rfl (by kernel_rfl) (by kernel_rfl) (by kernel_rfl) (by kernel_rfl) (by kernel_rfl) (fun _ _ _ h => h) (Or.inl ⟨by rfl, ?_⟩) (by assumption) ?_
      rotate_left
      · intro W hSw
        (try dsimp only at hSw)
        go_simp
        (try with_reducible rfl)
      (try simp only [Act.put, List.setIfInBounds_toArray, List.set_cons_zero, List.set_cons_succ])
      refine wpAnyZ_done (by kernel_rfl) ?_ _
      refine NoPanic.normal ?_
      clear hHeld KS HU0 HU1 qd CL
      have hb := HU2.out
      replace HT := Lib.hid (HT.out.keep hb)
      replace HQ := Lib.hid (HQ.out.keep hb)
      replace HX := Lib.hid (HX.out.on hb)
      replace HB := Lib.hid (HB.out.trans (hb.mono HB.out.size))
      clear hb HU2 HD1 HD2
      go_wp2_with fail
      refine (tcOpens_any ua_2 kt km ps2 HT.out).mono ?_
      rintro e w8 ⟨v, hv, rfl, hb⟩
      rw [HP4.out] at hv
      have HV := Lib.hid hv
      replace HT := Lib.hid (HT.out.keep hb)
      replace HQ := Lib.hid (HQ.out.keep hb)
      replace HX := Lib.hid (HX.out.on hb)
      replace HB := Lib.hid (HB.out.trans (hb.mono HB.out.size))
      clear hb hv
      obtain ⟨q, hq⟩ : ∃ q, (v != -1) = q := ⟨_, rfl⟩
      rw [hq]
      have HQQ := Lib.hid hq
      clear hq
      go_wp2_with fail
      refine (tabOpen_any w8 k2 tad2 tlen2 tcap2 qs2 HQ.out.tab (by omega)).mono ?_
      rintro e w9 ⟨v2, hv2, rfl, hb⟩
      rw [HQ6.out] at hv2
      obtain rfl : v = v2 := least_one HV.out hv2
      have hq2 : decide (0 ≤ v) = q := by
        rw [← HQQ.out]
        rcases least_low HV.out with h1 | h1
        · rw [h1]; rfl
        · rw [decide_eq_true h1]
          have : v ≠ -1 := by omega
          simp [this]
      rw [hq2]
      replace HT := Lib.hid (HT.out.keep hb)
      replace HQ := Lib.hid (HQ.out.keep hb)
      replace HX := Lib.hid (HX.out.on hb)
      replace HB := Lib.hid (HB.out.trans (hb.mono HB.out.size))
      clear hb hv2 hq2 HQQ HV
      have p1 := HX.out.c1
      obtain ⟨kn, hkn⟩ : ∃ kn, (lookD l' b1).isSome = kn := ⟨_, rfl⟩
      obtain ⟨pp, hpp⟩ : ∃ pp, (lookD l' b1).getD Pd.zero = pp := ⟨_, rfl⟩
      have h3 := has_look HLA2.out b1
      rw [hkn, hpp] at h3
      have CG : Hid (∀ W, TcOk W kt km ps2 → Calls Tryz.prog 12 #[.pointer (some ⟨kt, 0, none⟩), .int .i64 b1] W (GivesTGet W pp kn)) := fun W hW => by
        have := tcGet_any W kt km ps2 hW (by rw [HP4.out]; exact HLF2.out) b1 hkw.1 hk2
        rw [HP4.out, hkn, hpp] at this
        exact this
      have CH : Hid (∀ W, TabOk W k2 tad2 tlen2 tcap2 qs2 → Calls Tryz.prog 24 #[.pointer (some ⟨k2, 0, none⟩), .int .i64 b1] W (GivesTGet W pp kn)) := fun W hW => by
        have := tabGet_any W k2 tad2 tlen2 tcap2 qs2 hW.tab (by omega) b1
        rw [HQ6.out, h3.1, h3.2] at this
        exact this
      have hpn5 : pp.last.length ≤ 5 := by
        have := get_few HLF2.out b1
        rw [h3.2] at this
        exact this
      obtain ⟨pid, pep, pl, po⟩ := pp
      simp only at hpn5
      clear hkn hpp h3
      go_wp2_with fail
      refine (CG.out w9 HT.out).mono ?_
      rintro e w10 ⟨ga, gn, gc, rfl, hg, hb⟩
      have hgn := hg.length
      simp only at hgn hg
      have HG := Lib.hid hg
      have HGN := Lib.hid hgn
      replace HT := Lib.hid (HT.out.keep hb)
      replace HQ := Lib.hid (HQ.out.keep hb)
      replace HX := Lib.hid (HX.out.on hb)
      replace HB := Lib.hid (HB.out.trans (hb.mono HB.out.size))
      clear hb hg hgn CG p1
      go_upto_region 17 with fail
      obtain ⟨W11, hW11, hb, hx, -⟩ := pd_new w10 pid pep (.slice ga gn gc) po
      obtain ⟨P1, hP1⟩ : ∃ z, z = w10.heap.size := ⟨_, rfl⟩
      rw [← hP1] at hx
      have HPX := Lib.hid hx
      rw [← hP1, ← hW11]
      replace HG := Lib.hid (HG.out.keep hb)
      replace HT := Lib.hid (HT.out.keep hb)
      replace HQ := Lib.hid (HQ.out.keep hb)
      replace HX := Lib.hid (HX.out.on hb)
      replace HB := Lib.hid (HB.out.trans (hb.mono HB.out.size))
      clear hW11 hb hx hP1
      have p1 := HX.out.c1
      go_wp2_with fail
      refine (CH.out W11 HQ.out).mono ?_
      rintro e w12 ⟨ha, hn, hcc, rfl, hg, hb⟩
      have hhn : gn = hn := by
        have h6 := hg.length
        simp only at h6
        rw [← HGN.out, h6]
      subst hhn
      simp only at hg
      have HH := Lib.hid hg
      replace HG := Lib.hid (HG.out.keep hb)
      replace HPX := Lib.hid (HPX.out.on hb)
      replace HT := Lib.hid (HT.out.keep hb)
      replace HQ := Lib.hid (HQ.out.keep hb)
      replace HX := Lib.hid (HX.out.on hb)
      replace HB := Lib.hid (HB.out.trans (hb.mono HB.out.size))
      clear hb hg CH p1
      go_upto_region 18 with fail
      obtain ⟨W13, hW13, hb, hx, -⟩ := pd_new w12 pid pep (.slice ha gn hcc) po
      obtain ⟨P2, hP2⟩ : ∃ z, z = w12.heap.size := ⟨_, rfl⟩
      rw [← hP2] at hx
      have HPY := Lib.hid hx
      rw [← hP2, ← hW13]
      replace HG := Lib.hid (HG.out.keep hb)
      replace HH := Lib.hid (HH.out.keep hb)
      replace HPX := Lib.hid (HPX.out.on hb)
      replace HT := Lib.hid (HT.out.keep hb)
      replace HQ := Lib.hid (HQ.out.keep hb)
      replace HX := Lib.hid (HX.out.on hb)
      replace HB := Lib.hid (HB.out.trans (hb.mono HB.out.size))
      clear hW13 hb hx hP2
      have hgn5 : gn ≤ 5 := by rw [← HGN.out]; exact hpn5
      clear hpn5
      have q0 := HPX.out.c0
      have q1 := HPX.out.c1
      have q2 := HPX.out.c2
      have q3 := HPX.out.c3
      have y0 := HPY.out.c0
      have y1 := HPY.out.c1
      have y2 := HPY.out.c2
      have y3 := HPY.out.c3
      go_wp2_with fail
      refine (prRefSame_any W13 pid pep po pl ga gn gc HG.out ha hcc HH.out (by omega)).mono ?_
      rintro e w14 ⟨rfl, hb⟩
      replace HT := Lib.hid (HT.out.keep hb)
      replace HQ := Lib.hid (HQ.out.keep hb)
      replace HX := Lib.hid (HX.out.on hb)
      replace HB := Lib.hid (HB.out.trans (hb.mono HB.out.size))
      clear hb q0 q1 q2 q3 y0 y1 y2 y3 HPX HPY HG HH
      go_wp2
      go_roundw
      case rel => exact ⟨j + 1, ps2, tad2, tlen2, tcap2, qs2, rfl, by omega, HT.out, HQ.out, by show pds ps2 = _; rw [HP4.out, HL3.out], by show pds qs2 = _; rw [HQ6.out, HL3.out], HB.out⟩
      case measure => simp [intOf]; omega
    · have hd : decide (j < len) = false := decide_eq_false hlt
      have hdi : decide ((j : Int) < (len : Int)) = false := decide_eq_false (by omega)
      have hjl : bs.take j = bs := List.take_of_length_le (by rw [HBN.out]; omega)
      obtain ⟨l', hl'⟩ : ∃ l', l' = foldP [] bs := ⟨_, rfl⟩
      have HP4 : Hid (pds ps = l') := by show _ = _; rw [HPS.out, hjl, hl']
      have HQ6 : Hid (pds qs = l') := by show _ = _; rw [HQS.out, hjl, hl']
      have HLA2 : Hid (Asc l') := by show Asc _; rw [hl']; exact fold_asc _ asc_nil
      have HLF2 : Hid (fewP l') := by show fewP _; rw [hl']; exact foldP_few _ (fun p hp => by cases hp)
      have HLN2 : Hid (∀ qs : List PM, pds qs = l' → qs.length ≤ 80) := fun qs hq => by
        have h1 := tc_len (ps := qs) (l := bs) (by rw [hq, hl'])
        rw [HBN.out] at h1
        omega
      have HL3 : Hid (l' = foldP [] bs) := hl'
      have hqn : tlen ≤ 80 := by
        have h1 := HLN2.out qs HQ6.out
        have h2 := HQ.out.tab.pds.row.length
        omega
      have CL : Hid (∀ W k m ps2, pds ps2 = l' → TcOk W k m ps2 → Calls Tryz.prog 14 #[.pointer (some ⟨k, 0, none⟩)] W (GivesTcAll W l')) := fun W k m ps2 hp hW => by
        have := tcAll_any W k m ps2 hW (by rw [hp]; exact HLA2.out) (by rw [hp]; exact HLF2.out) (by have := HLN2.out ps2 hp; omega)
        rw [hp] at this
        exact this
      clear hl' hjl hlt HPS HQS
      go_wp2_with fail
      refine (tcCopy_any wo kt km ps HT.out (by rw [HP4.out]; exact HLF2.out)).mono ?_
      rintro e w2 ⟨kc, mc, cs, rfl, ht2, hp2, hkc, hmc, hb⟩
      rw [HP4.out] at hp2
      have HC := Lib.hid ht2
      have HPC := Lib.hid hp2
      have HMC : Hid (km < mc) := Nat.lt_of_lt_of_le HT.out.map.lt hmc
      have HMW : Hid (w.heap.size ≤ mc) := Nat.le_trans HB.out.size hmc
      replace HT := Lib.hid (HT.out.keep hb)
      replace HQ := Lib.hid (HQ.out.keep hb)
      replace HB := Lib.hid (HB.out.trans (hb.mono HB.out.size))
      clear hb ht2 hp2 hkc hmc
      have CLC : Hid (∀ W, TcOk W kc mc cs → Calls Tryz.prog 14 #[.pointer (some ⟨kc, 0, none⟩)] W (GivesTcAll W l')) := fun W hW => CL.out W kc mc cs HPC.out hW
      have KS : Hid (∀ V, Below w2.heap.size w2 V → (fun (V : World) => V.cell? ⟨k2, 0, none⟩ = some (.slice tad tlen tcap)) V) := fun V hV => (HQ.out.keep hV).tab.box.c0
      have hdrw : Below w2.heap.size w2 w2.drew := (Below.refl _ w2).drew
      go_upto_region 23 with fail
      refine wp_region_noPanic ?_
      refine wp_region_z [] (fun (V : World) => V.cell? ⟨k2, 0, none⟩ = some (.slice tad tlen tcap)) (by kernel_rfl) ?_
      have hHeld : (fun (V : World) => V.cell? ⟨k2, 0, none⟩ = some (.slice tad tlen tcap)) _ := KS.out _ hdrw
      obtain ⟨ub_0, hu⟩ : ∃ u, u = w2.drew := ⟨_, rfl⟩
      rw [← hu] at hHeld hdrw
      rw [← hu]
      clear hu
      have HU0 := Lib.hid hdrw
      clear hdrw
      refine wpAnyZ_take (i := 0) (oi := ⟨_, _, _, _, _, _⟩) (v := ?_) rfl (by kernel_rfl) (by kernel_rfl) (by kernel_rfl) (by kernel_rfl) (by kernel_rfl) (fun _ _ _ h => h) (Or.inl ⟨by rfl, ?_⟩) (by assumption) ?_
      rotate_left
      · intro W hSw
        (try dsimp only at hSw)
        go_simp
        (try with_reducible rfl)
      (try simp only [Act.put, List.setIfInBounds_toArray, List.set_cons_zero, List.set_cons_succ])
      refine wpAnyZ_take (i := 1) (oi := ⟨_, _, _, _, _, _⟩) (v := ?_) rfl (by kernel_rfl) (by kernel_rfl) (by kernel_rfl) (by kernel_rfl) (by kernel_rfl) (fun _ _ _ h => h) (Or.inl ⟨by rfl, ?_⟩) (by assumption) ?_
      rotate_left
      · intro W hSw
        (try dsimp only at hSw)
        go_simp
        (try with_reducible rfl)
      (try simp only [Act.put, List.setIfInBounds_toArray, List.set_cons_zero, List.set_cons_succ])
      refine wpAnyZ_take (i := 2) (oi := ⟨_, _, _, _, _, _⟩) (v := ?_) rfl (by kernel_rfl) (by kernel_rfl) (by kernel_rfl) (by kernel_rfl) (by kernel_rfl) (fun _ _ _ h => h) (Or.inl ⟨by rfl, ?_⟩) (by assumption) ?_
      rotate_left
      · intro W hSw
        (try dsimp only at hSw)
        go_simp
        (try with_reducible rfl)
      (try simp only [Act.put, List.setIfInBounds_toArray, List.set_cons_zero, List.set_cons_succ])
      refine wpAnyZ_take (i := 3) (oi := ⟨_, _, _, _, _, _⟩) (v := ?_) rfl (by kernel_rfl) (by kernel_rfl) (by kernel_rfl) (by kernel_rfl) (by kernel_rfl) (fun _ _ _ h => h) (Or.inl ⟨by rfl, ?_⟩) (by assumption) ?_
      rotate_left
      · intro W hSw
        (try dsimp only at hSw)
        go_simp
        (try with_reducible rfl)
      (try simp only [Act.put, List.setIfInBounds_toArray, List.set_cons_zero, List.set_cons_succ])
      refine wpAnyZ_take (i := 5) (oi := ⟨_, _, _, _, _, _⟩) (v := ?_) rfl (by kernel_rfl) (by kernel_rfl) (by kernel_rfl) (by kernel_rfl) (by kernel_rfl) (fun _ _ _ h => h) (Or.inl ⟨by rfl, ?_⟩) (by assumption) ?_
      rotate_left
      · intro W hSw
        (try dsimp only at hSw)
        go_simp
        (try with_reducible rfl)
      (try simp only [Act.put, List.setIfInBounds_toArray, List.set_cons_zero, List.set_cons_succ])
      refine wpAnyZ_take (i := 6) (oi := ⟨_, _, _, _, _, _⟩) (v := ?_) rfl (by kernel_rfl) (by kernel_rfl) (by kernel_rfl) (by kernel_rfl) (by kernel_rfl) (fun _ _ _ h => h) (Or.inl ⟨by rfl, ?_⟩) (by assumption) ?_
      rotate_left
      · intro W hSw
        (try dsimp only at hSw)
        go_simp
        (try with_reducible rfl)
      (try simp only [Act.put, List.setIfInBounds_toArray, List.set_cons_zero, List.set_cons_succ])
      refine wpAnyZ_take (i := 7) (oi := ⟨_, _, _, _, _, _⟩) (v := ?_) rfl (by kernel_rfl) (by kernel_rfl) (by kernel_rfl) (by kernel_rfl) (by kernel_rfl) (fun _ _ _ h => h) (Or.inl ⟨by rfl, ?_⟩) (by assumption) ?_
      rotate_left
      · intro W hSw
        (try dsimp only at hSw)
        go_simp
        (try with_reducible rfl)
      (try simp only [Act.put, List.setIfInBounds_toArray, List.set_cons_zero, List.set_cons_succ])
      refine wpAnyZ_take (i := 8) (oi := ⟨_, _, _, _, _, _⟩) (v := ?_) rfl (by kernel_rfl) (by kernel_rfl) (by kernel_rfl) (by kernel_rfl) (by kernel_rfl) (fun _ _ _ h => h) (Or.inl ⟨by rfl, ?_⟩) (by assumption) ?_
      rotate_left
      · intro W hSw
        (try dsimp only at hSw)
        go_simp
        (try with_reducible rfl)
      (try simp only [Act.put, List.setIfInBounds_toArray, List.set_cons_zero, List.set_cons_succ])
      refine wpAnyZ_ready (rs := [4]) (by kernel_rfl) (by simp) ?_
      refine AllReadyZ.cons (o := ⟨_, _, _, _, _, _⟩) rfl (fun C hC => ?_) AllReadyZ.nil
      go_simp
      refine (CLC.out ub_0 (HC.out.keep HU0.out)).mono ?_
      rintro e ub_1 ⟨lad, llen, lcap, os, rfl, hpo, hpe, hb⟩
      have HU1 := Lib.hid (HU0.out.trans (hb.mono HU0.out.size))
      have HPO := Lib.hid hpo
      have HPE := Lib.hid hpe
      clear hpo hpe hb
      have hHeld : (fun (V : World) => V.cell? ⟨k2, 0, none⟩ = some (.slice tad tlen tcap)) ub_1 := KS.out _ HU1.out
      refine hC.out _ _ (fun _ => hHeld) (fun _ => ?_)
      clear hC C
      (try simp only [Act.put, List.setIfInBounds_toArray, List.set_cons_zero, List.set_cons_succ])
      refine wpAnyZ_ready (rs := [9]) (by kernel_rfl) (by simp) ?_
      refine AllReadyZ.cons (o := ⟨_, _, _, _, _, _⟩) rfl (fun C hC => ?_) AllReadyZ.nil
      go_simp
      refine (refAllP_any ub_1 lad tad llen tlen lcap tcap os qs HPO.out (HQ.out.keep HU1.out).tab.pds (by rw [HPE.out, HQ6.out]) (by
        have h1 := congrArg List.length HPE.out
        unfold pds at h1
        rw [List.length_map, HPO.out.row.length] at h1
        rw [h1]
        have h2 := congrArg List.length HQ6.out
        have h3 := HQ.out.tab.pds.row.length
        unfold pds at h2
        rw [List.length_map] at h2
        omega) (by rw [HPE.out]; exact HLF2.out)).mono ?_
      rintro e ub_2 ⟨rfl, hb⟩
      have HU2 := Lib.hid (HU1.out.trans (hb.mono HU1.out.size))
      clear hb HPO HPE
      have hHeld : (fun (V : World) => V.cell? ⟨k2, 0, none⟩ = some (.slice tad tlen tcap)) ub_2 := KS.out _ HU2.out
      refine hC.out _ _ (fun _ => hHeld) (fun _ => ?_)
      clear hC C
      (try simp only [Act.put, List.setIfInBounds_toArray, List.set_cons_zero, List.set_cons_succ])
      refine wpAnyZ_take (i := 10) (oi := ⟨_, _, _, _, _, _⟩) (v := ?_) rfl (by kernel_rfl) (by kernel_rfl) (by kernel_rfl) (by kernel_rfl) (by kernel_rfl) (fun _ _ _ h => h) (Or.inl ⟨by rfl, ?_⟩) (by assumption) ?_
      rotate_left
      · intro W hSw
        (try dsimp only at hSw)
        go_simp
        (try with_reducible rfl)
      (try simp only [Act.put, List.setIfInBounds_toArray, List.set_cons_zero, List.set_cons_succ])
      refine wpAnyZ_take (i := 11) (oi := ⟨_, _, _, _, _, _⟩) (v := ?_) rfl (by kernel_rfl) (by kernel_rfl) (by kernel_rfl) (by kernel_rfl) (by kernel_rfl) (fun _ _ _ h => h) (Or.inl ⟨by rfl, ?_⟩) (by assumption) ?_
      rotate_left
      · intro W hSw
        (try dsimp only at hSw)
        go_simp
        (try with_reducible rfl)
      (try simp only [Act.put, List.setIfInBounds_toArray, List.set_cons_zero, List.set_cons_succ])
      refine wpAnyZ_done (by kernel_rfl) ?_ _
      refine NoPanic.normal ?_
      clear hHeld KS HU0 HU1 CLC
      have hb := HU2.out
      replace HT := Lib.hid (HT.out.keep hb)
      replace HQ := Lib.hid (HQ.out.keep hb)
      replace HC := Lib.hid (HC.out.keep hb)
      replace HB := Lib.hid (HB.out.trans (hb.mono HB.out.size))
      clear hb HU2
      go_wp2_with fail
      obtain ⟨W3, hW3, hb, hr3, -⟩ := one_rec ub_2
      obtain ⟨G, hG⟩ : ∃ z, z = ub_2.heap.size := ⟨_, rfl⟩
      rw [← hG] at hr3
      rw [← hG, ← hW3]
      have HR3 := Lib.hid hr3
      replace HT := Lib.hid (HT.out.keep hb)
      replace HQ := Lib.hid (HQ.out.keep hb)
      replace HC := Lib.hid (HC.out.keep hb)
      replace HB := Lib.hid (HB.out.trans (hb.mono HB.out.size))
      clear hW3 hG hr3 hb
      refine (tcApply_any W3 kc mc cs HC.out (by rw [HPC.out]; exact HLA2.out) (by rw [HPC.out]; exact HLF2.out) ⟨9, 77, 0, 0, true, 0, [Rc.nil]⟩ (some ⟨G, 0, none⟩) 1 1 HR3.out texts_nil (by omega) (by decide)).mono ?_
      rintro e w4 ⟨d4, cs4, rfl, -, -, -, hg4⟩
      replace HT := Lib.hid (HT.out.past_map hg4 HC.out.map.is (by have := HMC.out; omega))
      replace HQ := Lib.hid (HQ.out.past_map hg4 HC.out.map.is)
      replace HB : Hid (Below w.heap.size w w4) := HB.out.trans (below_grown hg4 HMW.out HB.out.size)
      clear hg4 HC HPC HMC HMW HR3
      have hmin : min (len : Int) 80 = (len : Int) := by omega
      have hmin2 : min len 80 = len := by omega
      have hup : ∀ W, (Instr.slice 23 (.slice ad len cap) none (some (.int .i64 (len : Int))) none).run Tryz.prog W = .ok (.slice ad len cap) W := row_upto batK_ok ad len cap len HFITS.out
      go_wp2_with fail
      refine (tcFold_any w4 ad len cap ms (H0.out.keep HB.out) (by omega) HOKS.out).mono ?_
      rintro e w5 ⟨kf, mf, fs, rfl, ht5, hp5, -, -, hb⟩
      have HF5 := Lib.hid ht5
      have HPF : Hid (pds fs = l') := by show _ = _; rw [hp5, ← HBSE.out, HL3.out]
      replace HT := Lib.hid (HT.out.keep hb)
      replace HQ := Lib.hid (HQ.out.keep hb)
      replace HB := Lib.hid (HB.out.trans (hb.mono HB.out.size))
      clear hb ht5 hp5 hup hmin hmin2
      have CLF : Hid (∀ W, TcOk W kf mf fs → Calls Tryz.prog 14 #[.pointer (some ⟨kf, 0, none⟩)] W (GivesTcAll W l')) := fun W hW => CL.out W kf mf fs HPF.out hW
      have CLT : Hid (∀ W, TcOk W kt km ps → Calls Tryz.prog 14 #[.pointer (some ⟨kt, 0, none⟩)] W (GivesTcAll W l')) := fun W hW => CL.out W kt km ps HP4.out hW
      have KS : Hid (∀ V, Below w5.heap.size w5 V → (fun (V : World) => V.cell? ⟨k2, 0, none⟩ = some (.slice tad tlen tcap)) V) := fun V hV => (HQ.out.keep hV).tab.box.c0
      have hdrw : Below w5.heap.size w5 w5.drew := (Below.refl _ w5).drew
      go_upto_region 27 with fail
      refine wp_region_noPanic ?_
      refine wp_region_z [] (fun (V : World) => V.cell? ⟨k2, 0, none⟩ = some (.slice tad tlen tcap)) (by kernel_rfl) ?_
      have hHeld : (fun (V : World) => V.cell? ⟨k2, 0, none⟩ = some (.slice tad tlen tcap)) _ := KS.out _ hdrw
      obtain ⟨uc_0, hu⟩ : ∃ u, u = w5.drew := ⟨_, rfl⟩
      rw [← hu] at hHeld hdrw
      rw [← hu]
      clear hu
      have HU0 := Lib.hid hdrw
      clear hdrw
      refine wpAnyZ_take (i := 0) (oi := ⟨_, _, _, _, _, _⟩) (v := ?_) rfl (by kernel_rfl) (by kernel_rfl) (by kernel_rfl) (by kernel_rfl) (by kernel_rfl) (fun _ _ _ h => h) (Or.inl ⟨by rfl, ?_⟩) (by assumption) ?_
      rotate_left
      · intro W hSw
        (try dsimp only at hSw)
        go_simp
        (try with_reducible rfl)
      (try simp only [Act.put, List.setIfInBounds_toArray, List.set_cons_zero, List.set_cons_succ])
      refine wpAnyZ_take (i := 1) (oi := ⟨_, _, _, _, _, _⟩) (v := ?_) rfl (by kernel_rfl) (by kernel_rfl) (by kernel_rfl) (by kernel_rfl) (by kernel_rfl) (fun _ _ _ h => h) (Or.inl ⟨by rfl, ?_⟩) (by assumption) ?_
      rotate_left
      · intro W hSw
        (try dsimp only at hSw)
        go_simp
        (try with_reducible rfl)
      (try simp only [Act.put, List.setIfInBounds_toArray, List.set_cons_zero, List.set_cons_succ])
      refine wpAnyZ_take (i := 2) (oi := ⟨_, _, _, _, _, _⟩) (v := ?_) rfl (by kernel_rfl) (by kernel_rfl) (by kernel_rfl) (by kernel_rfl) (by kernel_rfl) (fun _ _ _ h => h) (Or.inl ⟨by rfl, ?_⟩) (by assumption) ?_
      rotate_left
      · intro W hSw
        (try dsimp only at hSw)
        go_simp
        (try with_reducible rfl)
      (try simp only [Act.put, List.setIfInBounds_toArray, List.set_cons_zero, List.set_cons_succ])
      refine wpAnyZ_take (i := 3) (oi := ⟨_, _, _, _, _, _⟩) (v := ?_) rfl (by kernel_rfl) (by kernel_rfl) (by kernel_rfl) (by kernel_rfl) (by kernel_rfl) (fun _ _ _ h => h) (Or.inl ⟨by rfl, ?_⟩) (by assumption) ?_
      rotate_left
      · intro W hSw
        (try dsimp only at hSw)
        go_simp
        (try with_reducible rfl)
      (try simp only [Act.put, List.setIfInBounds_toArray, List.set_cons_zero, List.set_cons_succ])
      refine wpAnyZ_take (i := 5) (oi := ⟨_, _, _, _, _, _⟩) (v := ?_) rfl (by kernel_rfl) (by kernel_rfl) (by kernel_rfl) (by kernel_rfl) (by kernel_rfl) (fun _ _ _ h => h) (Or.inl ⟨by rfl, ?_⟩) (by assumption) ?_
      rotate_left
      · intro W hSw
        (try dsimp only at hSw)
        go_simp
        (try with_reducible rfl)
      (try simp only [Act.put, List.setIfInBounds_toArray, List.set_cons_zero, List.set_cons_succ])
      refine wpAnyZ_take (i := 6) (oi := ⟨_, _, _, _, _, _⟩) (v := ?_) rfl (by kernel_rfl) (by kernel_rfl) (by kernel_rfl) (by kernel_rfl) (by kernel_rfl) (fun _ _ _ h => h) (Or.inl ⟨by rfl, ?_⟩) (by assumption) ?_
      rotate_left
      · intro W hSw
        (try dsimp only at hSw)
        go_simp
        (try with_reducible rfl)
      (try simp only [Act.put, List.setIfInBounds_toArray, List.set_cons_zero, List.set_cons_succ])
      refine wpAnyZ_take (i := 7) (oi := ⟨_, _, _, _, _, _⟩) (v := ?_) rfl (by kernel_rfl) (by kernel_rfl) (by kernel_rfl) (by kernel_rfl) (by kernel_rfl) (fun _ _ _ h => h) (Or.inl ⟨by rfl, ?_⟩) (by assumption) ?_
      rotate_left
      · intro W hSw
        (try dsimp only at hSw)
        go_simp
        (try with_reducible rfl)
      (try simp only [Act.put, List.setIfInBounds_toArray, List.set_cons_zero, List.set_cons_succ])
      refine wpAnyZ_take (i := 8) (oi := ⟨_, _, _, _, _, _⟩) (v := ?_) rfl (by kernel_rfl) (by kernel_rfl) (by kernel_rfl) (by kernel_rfl) (by kernel_rfl) (fun _ _ _ h => h) (Or.inl ⟨by rfl, ?_⟩) (by assumption) ?_
      rotate_left
      · intro W hSw
        (try dsimp only at hSw)
        go_simp
        (try with_reducible rfl)
      (try simp only [Act.put, List.setIfInBounds_toArray, List.set_cons_zero, List.set_cons_succ])
      refine wpAnyZ_ready (rs := [4]) (by kernel_rfl) (by simp) ?_
      refine AllReadyZ.cons (o := ⟨_, _, _, _, _, _⟩) rfl (fun C hC => ?_) AllReadyZ.nil
      go_simp
      refine (CLF.out uc_0 (HF5.out.keep HU0.out)).mono ?_
      rintro e uc_1 ⟨lad, llen, lcap, os, rfl, hpo, hpe, hb⟩
      have HU1 := Lib.hid (HU0.out.trans (hb.mono HU0.out.size))
      have HPO := Lib.hid hpo
      have HPE := Lib.hid hpe
      clear hpo hpe hb
      have hHeld : (fun (V : World) => V.cell? ⟨k2, 0, none⟩ = some (.slice tad tlen tcap)) uc_1 := KS.out _ HU1.out
      refine hC.out _ _ (fun _ => hHeld) (fun _ => ?_)
      clear hC C
      (try simp only [Act.put, List.setIfInBounds_toArray, List.set_cons_zero, List.set_cons_succ])
      refine wpAnyZ_ready (rs := [9]) (by kernel_rfl) (by simp) ?_
      refine AllReadyZ.cons (o := ⟨_, _, _, _, _, _⟩) rfl (fun C hC => ?_) AllReadyZ.nil
      go_simp
      refine (refAllP_any uc_1 lad tad llen tlen lcap tcap os qs HPO.out (HQ.out.keep HU1.out).tab.pds (by rw [HPE.out, HQ6.out]) (by
        have h1 := congrArg List.length HPE.out
        unfold pds at h1
        rw [List.length_map, HPO.out.row.length] at h1
        rw [h1]
        have h2 := congrArg List.length HQ6.out
        have h3 := HQ.out.tab.pds.row.length
        unfold pds at h2
        rw [List.length_map] at h2
        omega) (by rw [HPE.out]; exact HLF2.out)).mono ?_
      rintro e uc_2 ⟨rfl, hb⟩
      have HU2 := Lib.hid (HU1.out.trans (hb.mono HU1.out.size))
      clear hb HPO HPE
      have hHeld : (fun (V : World) => V.cell? ⟨k2, 0, none⟩ = some (.slice tad tlen tcap)) uc_2 := KS.out _ HU2.out
      refine hC.out _ _ (fun _ => hHeld) (fun _ => ?_)
      clear hC C
      (try simp only [Act.put, List.setIfInBounds_toArray, List.set_cons_zero, List.set_cons_succ])
      clear HU0 HU1
      obtain ⟨ud_0, hud⟩ : ∃ u : World, u = uc_2 := ⟨_, rfl⟩
      subst hud
      have HU0 := HU2
      clear HU2
      refine wpAnyZ_take (i := 10) (oi := ⟨_, _, _, _, _, _⟩) (v := ?_) rfl (by kernel_rfl) (by kernel_rfl) (by kernel_rfl) (by kernel_rfl) (by kernel_rfl) (fun _ _ _ h => h) (Or.inl ⟨by rfl, ?_⟩) (by assumption) ?_
      rotate_left
      · intro W hSw
        (try dsimp only at hSw)
        go_simp
        (try with_reducible rfl)
      (try simp only [Act.put, List.setIfInBounds_toArray, List.set_cons_zero, List.set_cons_succ])
      refine wpAnyZ_take (i := 11) (oi := ⟨_, _, _, _, _, _⟩) (v := ?_) rfl (by kernel_rfl) (by kernel_rfl) (by kernel_rfl) (by kernel_rfl) (by kernel_rfl) (fun _ _ _ h => h) (Or.inl ⟨by rfl, ?_⟩) (by assumption) ?_
      rotate_left
      · intro W hSw
        (try dsimp only at hSw)
        go_simp
        (try with_reducible rfl)
      (try simp only [Act.put, List.setIfInBounds_toArray, List.set_cons_zero, List.set_cons_succ])
      refine wpAnyZ_take (i := 12) (oi := ⟨_, _, _, _, _, _⟩) (v := ?_) rfl (by kernel_rfl) (by kernel_rfl) (by kernel_rfl) (by kernel_rfl) (by kernel_rfl) (fun _ _ _ h => h) (Or.inl ⟨by rfl, ?_⟩) (by assumption) ?_
      rotate_left
      · intro W hSw
        (try dsimp only at hSw)
        go_simp
        (try with_reducible rfl)
      (try simp only [Act.put, List.setIfInBounds_toArray, List.set_cons_zero, List.set_cons_succ])
      refine wpAnyZ_take (i := 14) (oi := ⟨_, _, _, _, _, _⟩) (v := ?_) rfl (by kernel_rfl) (by kernel_rfl) (by kernel_rfl) (by kernel_rfl) (by kernel_rfl) (fun _ _ _ h => h) (Or.inl ⟨by rfl, ?_⟩) (by assumption) ?_
      rotate_left
      · intro W hSw
        (try dsimp only at hSw)
        go_simp
        (try with_reducible rfl)
      (try simp only [Act.put, List.setIfInBounds_toArray, List.set_cons_zero, List.set_cons_succ])
      refine wpAnyZ_take (i := 15) (oi := ⟨_, _, _, _, _, _⟩) (v := ?_) rfl (by kernel_rfl) (by kernel_rfl) (by kernel_rfl) (by kernel_rfl) (by kernel_rfl) (fun _ _ _ h => h) (Or.inl ⟨by rfl, ?_⟩) (by assumption) ?_
      rotate_left
      · intro W hSw
        (try dsimp only at hSw)
        go_simp
        (try with_reducible rfl)
      (try simp only [Act.put, List.setIfInBounds_toArray, List.set_cons_zero, List.set_cons_succ])
      refine wpAnyZ_take (i := 16) (oi := ⟨_, _, _, _, _, _⟩) (v := ?_) rfl (by kernel_rfl) (by kernel_rfl) (by kernel_rfl) (by kernel_rfl) (by kernel_rfl) (fun _ _ _ h => h) (Or.inl ⟨by rfl, ?_⟩) (by assumption) ?_
      rotate_left
      · intro W hSw
        (try dsimp only at hSw)
        go_simp
        (try with_reducible rfl)
      (try simp only [Act.put, List.setIfInBounds_toArray, List.set_cons_zero, List.set_cons_succ])
      refine wpAnyZ_take (i := 17) (oi := ⟨_, _, _, _, _, _⟩) (v := ?_) rfl (by kernel_rfl) (by kernel_rfl) (by kernel_rfl) (by kernel_rfl) (by kernel_rfl) (fun _ _ _ h => h) (Or.inl ⟨by rfl, ?_⟩) (by assumption) ?_
      rotate_left
      · intro W hSw
        (try dsimp only at hSw)
        go_simp
        (try with_reducible rfl)
      (try simp only [Act.put, List.setIfInBounds_toArray, List.set_cons_zero, List.set_cons_succ])
      refine wpAnyZ_ready (rs := [13]) (by kernel_rfl) (by simp) ?_
      refine AllReadyZ.cons (o := ⟨_, _, _, _, _, _⟩) rfl (fun C hC => ?_) AllReadyZ.nil
      go_simp
      refine (CLT.out ud_0 (HT.out.keep HU0.out)).mono ?_
      rintro e ud_1 ⟨lad, llen, lcap, os, rfl, hpo, hpe, hb⟩
      have HU1 := Lib.hid (HU0.out.trans (hb.mono HU0.out.size))
      have HPO := Lib.hid hpo
      have HPE := Lib.hid hpe
      clear hpo hpe hb
      have hHeld : (fun (V : World) => V.cell? ⟨k2, 0, none⟩ = some (.slice tad tlen tcap)) ud_1 := KS.out _ HU1.out
      refine hC.out _ _ (fun _ => hHeld) (fun _ => ?_)
      clear hC C
      (try simp only [Act.put, List.setIfInBounds_toArray, List.set_cons_zero, List.set_cons_succ])
      refine wpAnyZ_ready (rs := [18]) (by kernel_rfl) (by simp) ?_
      refine AllReadyZ.cons (o := ⟨_, _, _, _, _, _⟩) rfl (fun C hC => ?_) AllReadyZ.nil
      go_simp
      refine (refAllP_any ud_1 lad tad llen tlen lcap tcap os qs HPO.out (HQ.out.keep HU1.out).tab.pds (by rw [HPE.out, HQ6.out]) (by
        have h1 := congrArg List.length HPE.out
        unfold pds at h1
        rw [List.length_map, HPO.out.row.length] at h1
        rw [h1]
        have h2 := congrArg List.length HQ6.out
        have h3 := HQ.out.tab.pds.row.length
        unfold pds at h2
        rw [List.length_map] at h2
        omega) (by rw [HPE.out]; exact HLF2.out)).mono ?_
      rintro e ud_2 ⟨rfl, hb⟩
      have HU2 := Lib.hid (HU1.out.trans (hb.mono HU1.out.size))
      clear hb HPO HPE
      have hHeld : (fun (V : World) => V.cell? ⟨k2, 0, none⟩ = some (.slice tad tlen tcap)) ud_2 := KS.out _ HU2.out
      refine hC.out _ _ (fun _ => hHeld) (fun _ => ?_)
      clear hC C
      (try simp only [Act.put, List.setIfInBounds_toArray, List.set_cons_zero, List.set_cons_succ])
      refine wpAnyZ_take (i := 19) (oi := ⟨_, _, _, _, _, _⟩) (v := ?_) rfl (by kernel_rfl) (by kernel_rfl) (by kernel_rfl) (by kernel_rfl) (by kernel_rfl) (fun _ _ _ h => h) (Or.inl ⟨by rfl, ?_⟩) (by assumption) ?_
      rotate_left
      · intro W hSw
        (try dsimp only at hSw)
        go_simp
        (try with_reducible rfl)
      (try simp only [Act.put, List.setIfInBounds_toArray, List.set_cons_zero, List.set_cons_succ])
      refine wpAnyZ_take (i := 20) (oi := ⟨_, _, _, _, _, _⟩) (v := ?_) rfl (by kernel_rfl) (by kernel_rfl) (by kernel_rfl) (by kernel_rfl) (by kernel_rfl) (fun _ _ _ h => h) (Or.inl ⟨by rfl, ?_⟩) (by assumption) ?_
      rotate_left
      · intro W hSw
        (try dsimp only at hSw)
        go_simp
        (try with_reducible rfl)
      (try simp only [Act.put, List.setIfInBounds_toArray, List.set_cons_zero, List.set_cons_succ])
      refine wpAnyZ_done (by kernel_rfl) ?_ _
      refine NoPanic.normal ?_
      clear hHeld KS
      have hb := HU2.out
      replace HB := Lib.hid (HB.out.trans (hb.mono HB.out.size))
      clear hb
      go_wp2
      go_ret
      exact ⟨rfl, HB.out⟩
end Go.Proofs.YtmnjobiipfgpoaaGreat
