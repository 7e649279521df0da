/- Parts of a proof. -/
import Derived.Test.YtjmfdildnojknaaGreatKP17
set_option maxRecDepth 100000
set_option maxHeartbeats 16000000
set_option linter.unusedVariables false
namespace Go.Proofs.YtjmfdildnojknaaGreat
open Go.RowKit
open Go.FoMath
open Go.ProdMath
open Go.BatMath hiding AllB getD_lt take_all In64
theorem mcNew_any (w : World) (x y z c : Int) (hc0 : 1 ≤ c) (hc1 : c ≤ 1073741824) :
 Calls Tryz.prog 13 #[.agg #[.int .i64 x, .int .i64 y, .int .i64 z, .int .i64 c]] w (LMakes McR w c 0 []) := by
 have HC : Hid (1 ≤ c ∧ c ≤ 1073741824) := ⟨hc0, hc1⟩
 clear hc0 hc1
 go_enter Tryz.func13, Tryz.ntmps13
 go_upto_region 1 with fail
 obtain ⟨W0, hW0⟩ := exq (w.alloc (.cells #[.int .i64 x, .int .i64 y, .int .i64 z, .int .i64 c] 40))
 obtain ⟨P, hP⟩ := exq w.heap.size
 have HB0 := hwq hW0
 have HP0 : Hid (W0.heap[P]? = some (.cells #[.int .i64 x, .int .i64 y, .int .i64 z, .int .i64 c] 40 (0, 0))) := by show _ = _; rw [hW0, hP]; exact heap_alloc_new w _
 rw [← hW0, ← hP]
 clear hW0 hP
 have KS : Hid (∀ V, Below W0.heap.size W0 V → (fun (V : World) => V.cell? ⟨P, 3, none⟩ = some (.int .i64 c)) V) := fun V hV => by show V.cell? ⟨P, 3, none⟩ = _; rw [cell_of_row _ _ 3 _ _ _ ((hV.block P (lt_of_block HP0.out)).trans HP0.out)]; rfl
 refine zs [] KS fun u0 HU0 hHeld => ?_
 refine zt 0 ?_
 refine zt 1 ?_
 refine zr 2 (fun C hC => ?_)
 go_simp
 refine (tcNew_any u0).mono ?_
 rintro e u1 ⟨kt, km, rfl, ht, hb, hk1, hk2⟩
 have HU1 := qh (HU0.out.trans (hb.mono HU0.out.size))
 have HT1 := qh ht
 have HKT : Hid (u0.heap.size ≤ kt ∧ u0.heap.size ≤ km) := ⟨hk1, hk2⟩
 clear ht hb hk1 hk2
 have hHeld := KS.out _ HU1.out
 refine zc hC hHeld ?_
 clear hC C
 refine zt 3 ?_
 refine zr 4 (fun C hC => ?_)
 go_simp
 obtain ⟨u2, hu2⟩ := exq (u1.alloc (.cells #[.int .i64 c, .int .i64 0, .slice none 0 0, .pointer (some ⟨kt, 0, none⟩), .int .i64 0] 88))
 obtain ⟨K, hK⟩ := exq u1.heap.size
 have hb2 := wbq hu2
 have HU2 := qh (HU1.out.trans (hb2.mono HU1.out.size))
 have HBZ := qh (HB0.out.trans (HU2.out.mono HB0.out.size))
 have HLK : Hid (∀ j, FootT kt km [] j → w.heap.size ≤ j ∧ j < K) := by
  intro j hj
  have h1 := HKT.out
  have h2 := HU0.out.size
  have h3 := HB0.out.size
  have h4 := tc_lt HT1.out hj
  rcases hj with rfl | rfl | ⟨p, hp, _⟩
  · exact ⟨by omega, by omega⟩
  · exact ⟨by omega, by omega⟩
  cases hp
 have HKW : Hid (w.heap.size ≤ K) := by
  show _ ≤ _
  have h3 := HB0.out.size
  have h4 := HU1.out.size
  omega
 have HMC : Hid (McAt u2 K kt km (.slice none 0 0) [] [] c 0) := by
  refine ⟨?_, ⟨ownRow_nil _ _ _, (fun m hm => by cases hm), (fun m hm => by cases hm), noStr_nil _⟩, HT1.out.keep hb2, rfl, ?_, fun hj => ?_, fun j hj => ?_, HC.out⟩
  · show McBox u2 K c 0 (.slice none 0 0) kt 0
    rw [hu2, hK]
    exact heap_alloc_new u1 _
  · rintro (h1 | ⟨m, hm, _⟩)
    · cases h1
    cases hm
  · have := (HLK.out _ hj).2; omega
  rcases hj with h1 | ⟨m, hm, _⟩
  · cases h1
  cases hm
 have HFR : Hid (∀ j, McFoot K kt km (.slice none 0 0) [] [] j → w.heap.size ≤ j) := by
  rintro j (rfl | (h1 | ⟨m, hm, _⟩) | h1)
  · exact HKW.out
  · cases h1
  · cases hm
  exact (HLK.out _ h1).1
 rw [← hu2, ← hK]
 clear hu2 hK hb2
 have hHeld := KS.out _ HU2.out
 refine zc hC hHeld ?_
 clear hC C
 refine zt 5 ?_
 refine zd ?_
 clear hHeld KS HU0 HU1 HU2 HT1 HKT HLK HKW HB0 HP0
 go_wp2
 go_ret
 refine ⟨⟨K, 0, none⟩, McFoot K kt km (.slice none 0 0) [] [], rfl, ⟨K, kt, km, .slice none 0 0, [], [], rfl, rfl, HMC.out, fun _ => Iff.rfl⟩, HFR.out, HBZ.out⟩
def GivesBats (w : World) (bs : List Bat) (e : Ending) (w' : World) : Prop :=
 ∃ ad cap os, e = .returned (.slice ad os.length cap) ∧ McL w' (.slice ad os.length cap) os ∧ bats os = bs ∧ (∀ j, FootL (.slice ad os.length cap) os j → w.heap.size ≤ j) ∧ Below w.heap.size w w'
structure McW (n0 : Nat) (bs : List Bat) (j base : Nat) (u : Value) (os : List BM) (W : World) : Prop where
 own : OwnRow batK W base u os
 ins : ∀ m ∈ os, RecAt W m ∧ ∀ a, m.ad = some a → n0 ≤ a.block ∧ a.block < W.heap.size ∧ u.ownBlock ≠ some a.block
 eq : bats os = bs.take j
 str : NoStr W u
theorem McW.on {n0 : Nat} {bs : List Bat} {j base : Nat} {u : Value} {os : List BM} {W W' : World} (h : McW n0 bs j base u os W) (hb : Below W.heap.size W W') : McW n0 bs j base u os W' :=
 ⟨h.own.on hb, fun m hm => ⟨(h.ins m hm).1.keep hb, fun a ha => ⟨((h.ins m hm).2 a ha).1, Nat.lt_of_lt_of_le ((h.ins m hm).2 a ha).2.1 hb.size, ((h.ins m hm).2 a ha).2.2⟩⟩, h.eq, h.str.same fun q hq => hb.block q (h.own.lt q hq).2⟩
theorem McW.gives {w W : World} {bs : List Bat} {j : Nat} {u : Value} {os : List BM} (h : McW w.heap.size bs j w.heap.size u os W) (hj : bs.length ≤ j) (hb : Below w.heap.size w W) : GivesBats w bs (.returned u) W := by
 obtain ⟨ad, cap, rfl, h1, h2⟩ := h.own.at batK_ok
 refine ⟨ad, cap, os, rfl, ⟨h.own.low (Nat.zero_le _), fun m hm => (h.ins m hm).1, fun m hm a ha => ⟨((h.ins m hm).2 a ha).2.1, ((h.ins m hm).2 a ha).2.2⟩, h.str⟩, by rw [h.eq, List.take_of_length_le hj], fun q hq => ?_, hb⟩
 rcases hq with h3 | ⟨m, hm, a, ha, rfl⟩
 · exact (h.own.lt q h3).1
 exact ((h.ins m hm).2 a ha).1
theorem McW.put {n0 : Nat} {bs : List Bat} {j base : Nat} {u u' : Value} {os : List BM} {W W' : World} {m : BM} (h : McW n0 bs j base u os W) (hap : Appended batK W base u (os ++ [m]) u' W') (hns : NoStr W' u') (hr : RecAt W m) (hn : ∀ a, m.ad = some a → n0 ≤ a.block ∧ a.block < W.heap.size ∧ u.ownBlock ≠ some a.block) (hb : bs[j]? = some m.b) : McW n0 bs (j + 1) base u' (os ++ [m]) W' := by
 have hk : Kept W W' (fun q => u.ownBlock = some q) := Kept.of_own hap.2.1 fun q hq => .inl hq
 refine ⟨hap.1, fun x hx => ?_, ?_, hns⟩
 · have key : RecAt W x ∧ ∀ a, x.ad = some a → n0 ≤ a.block ∧ a.block < W.heap.size ∧ u.ownBlock ≠ some a.block := by
    rcases List.mem_append.1 hx with hx | hx
    · exact h.ins x hx
    rw [List.mem_singleton.1 hx]; exact ⟨hr, hn⟩
   refine ⟨RecsAt.kept hk key.1 fun a ha => (key.2 a ha).2.2, fun a ha => ⟨(key.2 a ha).1, Nat.lt_of_lt_of_le (key.2 a ha).2.1 hap.2.1.size, fun e => ?_⟩⟩
   rcases hap.2.2.2 _ e with h3 | h3
   · exact (key.2 a ha).2.2 h3
   have := (key.2 a ha).2.1; omega
 unfold bats
 rw [List.map_append]
 have h7 := h.eq
 unfold bats at h7
 rw [h7, List.take_add_one, hb]
 rfl
theorem mcBatches_any (w : World) (k kt km : Nat) (v : Value) (ms : List BM) (ps : List PM) (c s : Int) (h : McAt w k kt km v ms ps c s) (hr : LogRow s (bats ms)) :
 Calls Tryz.prog 21 #[.pointer (some ⟨k, 0, none⟩)] w (GivesBats w (bats ms)) := by
 obtain ⟨ad, cap, rfl, hb, -⟩ := h.list.at
 have q2 := h.box.c2
 obtain ⟨n, hn⟩ := exq ms.length
 have hf := hr.few
 rw [bats_length] at hf
 rw [← hn] at hb q2 hf
 have H := qh hb
 have HFEW := qh hr.fo.few
 have HF := qh hf
 obtain ⟨bs, hbs⟩ := exq (bats ms)
 have HGET : Hid (∀ (i : Nat) m, ms[i]? = some m → bs[i]? = some m.b) := by
  intro i m hm
  rw [hbs]; unfold bats
  rw [List.getElem?_map, hm]; rfl
 have HBL : Hid (bs.length = n) := by show _ = _; rw [hbs, bats_length, hn]
 rw [← hbs] at HFEW ⊢
 clear h hr hb hn hbs
 go_enter Tryz.func21, Tryz.ntmps21
 go_wp2
 clear q2
 go_loopw [3, 11] (fun v3 v11 wr => ∃ (j : Nat) (u : Value) (os : List BM), u = v3 ∧ v11 = .int .i64 (j : Int) ∧ j ≤ n ∧ Hid (McW w.heap.size bs j w.heap.size u os wr) ∧ Hid (Below w.heap.size w wr)) (fun _ v11 _ => n - (intOf v11).toNat)
 case atStart => exact ⟨0, _, [], rfl, rfl, Nat.zero_le _, ⟨ownRow_nil _ _ _, (fun m hm => by cases hm), rfl, noStr_nil _⟩, Below.refl _ _⟩
 obtain ⟨j, u, os, rfl, rfl, hj, HW, HB⟩ := hrel
 obtain ⟨wo, hwo⟩ := exq wr
 subst hwo
 by_cases hlt : j < n
 rotate_left
 · have hd : decide (j < n) = false := decide_eq_false hlt
   have HJ : Hid (bs.length ≤ j) := by show _ ≤ _; have := HBL.out; omega
   go_wp2
   go_ret
   exact HW.out.gives HJ.out HB.out
 have hd : decide (j < n) = true := decide_eq_true hlt
 have hjl : (j : Int) < (n : Int) := by omega
 obtain ⟨bk, off, m, rfl, hbk, hm, hrec, c0, c1, c2, c3, c4, c5, c6⟩ := (H.out.keep HB.out).get hlt
 have HBM := qh (HGET.out j m hm)
 have hre := (HFEW.out m.b (List.mem_of_getElem? (HGET.out j m hm))).2.2
 have HRE : Hid (m.b.recs.length ≤ 1000000) := by show _ ≤ _; omega
 have HRC := qh hrec
 clear hm hrec hbk hre
 go_upto_region 5 with fail
 obtain ⟨W1, hW1⟩ := exq (wo.alloc (.cells #[.int .i64 m.b.base, .int .i64 m.b.prod, .int .i64 m.b.epoch, .int .i64 m.b.seq, .bool m.b.txn, .int .i64 m.b.marker, .slice m.ad m.b.recs.length m.cap] 29))
 have hb1 := wbq hW1
 obtain ⟨K, hK⟩ := exq wo.heap.size
 have HX1 := bxq hW1 hK
 have HW1 := qh (HW.out.on hb1)
 have HB1 := qh (HB.out.trans (hb1.mono HB.out.size))
 have HRC1 := qh (HRC.out.keep hb1)
 rw [← hW1, ← hK]
 clear hW1 hb1 hK c0 c1 c2 c3 c4 c5 c6 HW HB HRC
 obtain ⟨p0, p1, p2, p3, p4, p5, p6⟩ := HX1.out.cs
 go_wp2_with fail
 refine (mcCopied_any W1 m.b m.ad m.b.recs.length m.cap HRC1.out HRE.out).mono ?_
 rintro e w2 ⟨ad2, cap2, rfl, hrc, hk2, hb2⟩
 obtain ⟨c, hc⟩ : ∃ c : BM, c = ⟨m.b, ad2, cap2⟩ := ⟨_, rfl⟩
 have HW2 := qh (HW1.out.on hb2)
 have HB2 := qh (HB1.out.trans (hb2.mono HB1.out.size))
 have HU2 : Hid (∀ q, u.ownBlock = some q → q < W1.heap.size) := fun q hq => (HW1.out.own.lt q hq).2
 have HC2 : Hid (RecAt w2 c) := by rw [hc]; exact hrc
 have HK2 : Hid (∀ a, c.ad = some a → w.heap.size ≤ a.block ∧ a.block < w2.heap.size ∧ u.ownBlock ≠ some a.block) := by
  intro a ha
  rw [hc] at ha
  have h1 := hk2 a ha
  have h2 := HB1.out.size
  exact ⟨by omega, h1.2, fun e => by have := HU2.out _ e; omega⟩
 have HCB : Hid (bs[j]? = some c.b) := by show _ = _; rw [hc]; exact HBM.out
 clear hrc hk2 hb2 HU2 HW1 HB1 HX1 HRC1 p0 p1 p2 p3 p4 p5 p6
 obtain ⟨W3, hW3⟩ := exq (w2.alloc (.cells #[.int .i64 m.b.base, .int .i64 m.b.prod, .int .i64 m.b.epoch, .int .i64 m.b.seq, .bool m.b.txn, .int .i64 m.b.marker, .slice ad2 m.b.recs.length cap2] 29))
 have hb3 := wbq hW3
 have HLIT : Hid (RowAt batK W3 (some ⟨w2.heap.size, 0, none⟩) 1 1 [c]) := by
  show RowAt _ _ _ _ _ _
  rw [hW3]
  exact rowAt_lit batK_ok w2 [c] (by simp) _ (by rw [hc]; rfl) 1 rfl
 have HW3 := qh (HW2.out.on hb3)
 have HB3 := qh (HB2.out.trans (hb3.mono HB2.out.size))
 have HC3 : Hid (RecAt W3 c) := RecsAt.keep HC2.out hb3
 have HK3 : Hid (∀ a, c.ad = some a → w.heap.size ≤ a.block ∧ a.block < W3.heap.size ∧ u.ownBlock ≠ some a.block) := fun a ha => ⟨(HK2.out a ha).1, Nat.lt_of_lt_of_le (HK2.out a ha).2.1 hb3.size, (HK2.out a ha).2.2⟩
 have hosl : os.length ≤ 1000000 := by
  have h1 := congrArg List.length HW3.out.eq
  rw [bats_length, List.length_take] at h1
  have := HBL.out
  have := HF.out
  omega
 have HW3E := qh hW3
 clear hb3 hc hW3 HW2 HB2 HC2 HK2
 go_wp2_with (at_builtin; rw [← HW3E.out]; refine list_bat (by rfl) (.tmp 15) (.tmp 18) rfl w.heap.size os [c] u rfl HW3.out.own HW3.out.str HB3.out.size (some ⟨w2.heap.size, 0, none⟩) 1 1 rfl HLIT.out (by omega) ?_)
 intro v7 w7 hap hns
 have HW7 := qh (HW3.out.put hap hns HC3.out HK3.out HCB.out)
 have HB7 : Hid (Below w.heap.size w w7) := HB3.out.grown hap.2.1 HB3.out.size fun q hq => (HW3.out.own.lt q hq).1
 clear hap hns HW3 HB3 HC3 HK3 HCB HLIT HW3E hosl
 go_wp2
 go_roundw
 case rel => exact ⟨j + 1, v7, _, rfl, rfl, by omega, HW7.out, HB7.out⟩
 simp [intOf]; omega
theorem mcCopy_any (w : World) (k kt km : Nat) (v : Value) (ms : List BM) (ps : List PM) (c s : Int) (h : McAt w k kt km v ms ps c s) (hr : LogRow s (bats ms)) :
 Calls Tryz.prog 36 #[.pointer (some ⟨k, 0, none⟩)] w (LMakes McR w c s (bats ms)) := by
 have H := qh h
 have HR := qh hr
 have HBX := qh h.box
 obtain ⟨z, hz⟩ := exq (bytesD (bats ms))
 rw [← hz] at HBX
 have HZB := qh hz
 clear h hr hz
 go_enter Tryz.func36, Tryz.ntmps36
 go_upto_region 1 with fail
 have KS : Hid (∀ V, Below w.heap.size w V → (fun (V : World) => V.cell? ⟨k, 0, none⟩ = some (.int .i64 c) ∧ V.cell? ⟨k, 1, none⟩ = some (.int .i64 s) ∧ V.cell? ⟨k, 3, none⟩ = some (.pointer (some ⟨kt, 0, none⟩)) ∧ V.cell? ⟨k, 4, none⟩ = some (.int .i64 z)) V) := fun V hV => ⟨(HBX.out.on hV).c0, (HBX.out.on hV).c1, (HBX.out.on hV).c3, (HBX.out.on hV).c4⟩
 refine zs [] KS fun u0 HU0 hHeld => ?_
 refine zt 0 ?_
 refine zt 1 ?_
 refine zt 2 ?_
 refine zt 3 ?_
 refine zt 4 ?_
 refine zt 5 ?_
 refine zt 6 ?_
 refine zt 7 ?_
 refine zt 8 ?_
 refine zt 10 ?_
 refine zt 11 ?_
 refine zt 12 ?_
 refine zt 13 ?_
 refine zt 15 ?_
 refine zt 16 ?_
 refine zt 17 ?_
 refine zt 18 ?_
 refine zr 9 (fun C hC => ?_)
 go_simp
 refine (mcBatches_any u0 k kt km v ms ps c s (H.out.on HU0.out) HR.out).mono ?_
 rintro e u1 ⟨ad, cap, os, rfl, hl, he, hfr, hb⟩
 have HU1 := qh (HU0.out.trans (hb.mono HU0.out.size))
 have HL1 := qh hl
 have HEQ := qh he
 have HFL : Hid (∀ j, FootL (.slice ad os.length cap) os j → w.heap.size ≤ j) := fun j hj => Nat.le_trans HU0.out.size (hfr j hj)
 clear hl he hfr hb
 have hHeld := KS.out _ HU1.out
 refine zc hC hHeld ?_
 clear hC C
 refine zr 14 (fun C hC => ?_)
 go_simp
 refine (tcCopy2_any u1 kt km ps (H.out.on HU1.out).tab (by rw [H.out.eq]; exact foldP_few _ (fun p hp => by cases hp))).mono ?_
 rintro e u2 ⟨k2, m2, cs, rfl, ht, he2, hk1, hk2, hb, hfr2⟩
 have HU2 := qh (HU1.out.trans (hb.mono HU1.out.size))
 have HL2 := qh (HL1.out.on hb)
 have HT2 := qh ht
 have HTE := qh he2
 have HFT : Hid (∀ j, FootT k2 m2 cs j → u1.heap.size ≤ j) := fun j hj => footT_fresh hfr2 hk1 hk2 hj
 clear ht he2 hk1 hk2 hb hfr2
 have hHeld := KS.out _ HU2.out
 refine zc hC hHeld ?_
 clear hC C
 refine zt 19 ?_
 refine zr 20 (fun C hC => ?_)
 go_simp
 obtain ⟨u3, hu3⟩ : ∃ z', z' = u2.alloc (.cells #[.int .i64 c, .int .i64 s, .slice ad os.length cap, .pointer (some ⟨k2, 0, none⟩), .int .i64 z] 88) := ⟨_, rfl⟩
 obtain ⟨K, hK⟩ := exq u2.heap.size
 have hb3 := wbq hu3
 have HBZ := qh (HU2.out.trans (hb3.mono HU2.out.size))
 have HMC : Hid (McAt u3 K k2 m2 (.slice ad os.length cap) os cs c s) := by
  refine ⟨?_, HL2.out.on hb3, HT2.out.keep hb3, by rw [HTE.out, H.out.eq, HEQ.out], fun hj => ?_, fun hj => ?_, fun j hj ht => ?_, H.out.cap⟩
  · show McBox u3 K c s (.slice ad os.length cap) k2 (bytesD (bats os))
    rw [HEQ.out, ← HZB.out, hu3, hK]
    exact heap_alloc_new u2 _
  · have := HL2.out.lt hj; omega
  · have := tc_lt HT2.out hj; omega
  have h1 := HL1.out.lt hj
  have h2 := HFT.out j ht
  omega
 have HFR : Hid (∀ j, McFoot K k2 m2 (.slice ad os.length cap) os cs j → w.heap.size ≤ j) := by
  have h4 := HU1.out.size
  have h5 := HU2.out.size
  rintro j (rfl | h1 | h1)
  · omega
  · exact HFL.out j h1
  have := HFT.out j h1; omega
 rw [← hu3, ← hK]
 clear hu3 hK hb3
 have hHeld := KS.out _ HBZ.out
 refine zc hC hHeld ?_
 clear hC C
 refine zt 21 ?_
 refine zd ?_
 clear hHeld KS HU0 HU1 HU2 HL1 HL2 HT2 HTE HFT HFL HBX HZB
 go_wp2
 go_ret
 exact ⟨⟨K, 0, none⟩, McFoot K k2 m2 (.slice ad os.length cap) os cs, rfl, ⟨K, k2, m2, .slice ad os.length cap, os, cs, rfl, HEQ.out, HMC.out, fun _ => Iff.rfl⟩, HFR.out, HBZ.out⟩
theorem wrap64_id {x : Int} (h0 : -9223372036854775808 ≤ x) (h1 : x ≤ 9223372036854775807) : wrap64 x = x := by unfold wrap64; omega
theorem wrap_id {x : Int} (h0 : -9223372036854775808 ≤ x) (h1 : x ≤ 9223372036854775807) : IntKind.i64.wrap x = x := by rw [IntKind.wrap_i64]; omega
theorem BoxAt.same {w w' : World} {k : Nat} {b0 b1 b2 b3 : Int} {b4 : Bool} {b5 : Int} {v : Value} (h : BoxAt w k b0 b1 b2 b3 b4 b5 v) (he : w'.heap[k]? = w.heap[k]?) : BoxAt w' k b0 b1 b2 b3 b4 b5 v := he.trans h
theorem put_err {c s : Int} {bs : List Bat} {b : Bat} {wy : Int} (h : (tcheckD (foldP [] bs) b).2 = wy) (hw : wy ≠ 0) : putD c s bs b = ((-1, wy), bs) := by
 subst h
 exact if_pos hw
theorem put_dup {c s : Int} {bs : List Bat} {b : Bat} {at0 : Int} (h : (tcheckD (foldP [] bs) b).2 = 0) (h1 : (tcheckD (foldP [] bs) b).1 = at0) (h0 : 0 ≤ at0) : putD c s bs b = ((at0, 0), bs) := by
 subst h1
 unfold putD
 rw [if_neg (by omega), if_pos h0]
theorem put_full {c s : Int} {bs : List Bat} {b : Bat} (h : (tcheckD (foldP [] bs) b).2 = 0) (h1 : (tcheckD (foldP [] bs) b).1 = -1) (h2 : c < bytesD bs + sizeB b) : putD c s bs b = ((-1, 17), bs) := by
 unfold putD
 rw [if_neg (by omega), if_neg (by omega), if_pos h2]
theorem put_over {c s : Int} {bs : List Bat} {b : Bat} (h : (tcheckD (foldP [] bs) b).2 = 0) (h1 : (tcheckD (foldP [] bs) b).1 = -1) (h2 : ¬ c < bytesD bs + sizeB b) (h3 : 1099511627776 < endD s bs + countD b) : putD c s bs b = ((-1, 18), bs) := by
 unfold putD
 rw [if_neg (by omega), if_neg (by omega), if_neg h2, if_pos h3]
theorem put_takes {c s : Int} {bs : List Bat} {b : Bat} (h : (tcheckD (foldP [] bs) b).2 = 0) (h1 : (tcheckD (foldP [] bs) b).1 = -1) (h2 : ¬ c < bytesD bs + sizeB b) (h3 : ¬ 1099511627776 < endD s bs + countD b) : putD c s bs b = ((b.base, 0), bs ++ [b]) := by
 unfold putD
 rw [if_neg (by omega), if_neg (by omega), if_neg h2, if_neg h3]
theorem recs_box {w : World} {k kt : Nat} {c s z : Int} {v : Value} (h : McBox w k c s v kt z) (hv : NotStr v) {ad : Option Addr} {n cp : Nat} {l : List Rc} (hr : RecsAt w ad n cp l) : n = 0 ∨ ∀ a, ad = some a → a.block ≠ k := by
 rcases hr.cells with h0 | ⟨b, off, e, hlt, hc⟩
 · exact .inl h0
 rcases Nat.eq_zero_or_pos n with h0 | h0
 · exact .inl h0
 refine .inr fun a ha hq => ?_
 rw [ha] at e
 cases e
 have hl : 0 < l.length := by rw [hr.length]; exact h0
 have h1 := (hc 0 _ (List.getElem?_eq_getElem hl)).1
 simp only at hq
 rw [hq, cell_of_row _ _ _ _ _ _ h] at h1
 rw [Nat.zero_mul, Nat.add_zero] at h1
 have h2 : off = 0 ∨ off = 1 ∨ off = 2 ∨ off = 3 ∨ off = 4 ∨ 5 ≤ off := by omega
 rcases h2 with rfl | rfl | rfl | rfl | rfl | h2
 · cases h1
 · cases h1
 · exact hv _ (Option.some.inj h1)
 · cases h1
 · cases h1
 rw [Array.getElem?_eq_none (by simpa using h2)] at h1; cases h1
theorem own_notStr {w : World} {v : Value} {ms : List BM} (h : McL w v ms) : NotStr v := by
 obtain ⟨ad, cap, e, _⟩ := h.at
 rw [e]
 intro s hs
 cases hs
theorem mc_appended {w w' : World} {k kt km : Nat} {v v' : Value} {ms : List BM} {ps : List PM} {c s : Int} {m : BM} (h : McAt w k kt km v ms ps c s) (hap : Appended batK w 0 v (ms ++ [m]) v' w') : McBox w' k c s v kt (bytesD (bats ms)) ∧ TcOk w' kt km ps ∧ Kept w w' (fun q => v.ownBlock = some q) := by
 have hk : Kept w w' (fun q => v.ownBlock = some q) := Kept.of_own hap.2.1 fun q hq => .inl hq
 exact ⟨h.box.same (hk.block k h.box.lt fun e => h.kL (.inl e)), tc_kept h.tab hk fun j hj e => h.LT j (.inl e) hj, hk⟩
theorem mcAdd_any (F : Nat → Prop) (w : World) (k kt km : Nat) (v : Value) (ms : List BM) (ps : List PM) (c s : Int) (h : McAt w k kt km v ms ps c s) (hF : ∀ j, F j ↔ McFoot k kt km v ms ps j) (hr : LogRow s (bats ms))
 (b : Bat) (rd : Option Addr) (rc : Nat) (hrec : RecsAt w rd b.recs.length rc b.recs) (ht : TextsOk b.recs) (hn : b.recs.length ≤ 140737488355328) (hp : b.prod ≤ 9223372036854775807) (hbase : b.base = endD s (bats ms)) :
 Calls Tryz.prog 42 #[.pointer (some ⟨k, 0, none⟩), .agg #[.int .i64 b.base, .int .i64 b.prod, .int .i64 b.epoch, .int .i64 b.seq, .bool b.txn, .int .i64 b.marker, .slice rd b.recs.length rc]] w (LTurns McR F w ⟨k, 0, none⟩ c s (putD c s (bats ms) b).2 (.tuple #[.int .i64 (putD c s (bats ms) b).1.1, .int .i64 (putD c s (bats ms) b).1.2])) := by
 obtain ⟨bt, hbt⟩ : ∃ x : Bat, x = b := ⟨_, rfl⟩
 obtain ⟨b0, b1, b2, b3, b4, b5, recs⟩ := b
 simp only at hrec ht hn hp hbase
 simp only
 rw [← hbt]
 have HBT := qh hbt
 clear hbt
 obtain ⟨rn, hrn⟩ := exq recs.length
 rw [← hrn] at hrec hn
 rw [← hrn]
 have HRN := qh hrn
 obtain ⟨⟨at0, wy⟩, hcc⟩ : ∃ r, tcheckD (pds ps) bt = r := ⟨_, rfl⟩
 have hcc2 := hcc
 rw [h.eq] at hcc2
 have HCA : Hid ((tcheckD (foldP [] (bats ms)) bt).1 = at0) := by show _ = _; rw [hcc2]
 have HCW : Hid ((tcheckD (foldP [] (bats ms)) bt).2 = wy) := by show _ = _; rw [hcc2]
 have HSG : Hid (at0 = -1 ∨ (0 ≤ at0 ∧ wy = 0)) := by
  have h1 := check_sign (rowW_pos hr.row hr.lo) bt
  rw [hcc2] at h1
  exact h1
 have HRT : Hid (wy = 0 → rightE bt = 0) := fun e => tcheck_right (l := foldP [] (bats ms)) (by rw [hcc2]; exact e)
 have CK : Hid (∀ W, Below w.heap.size w W → Calls Tryz.prog 68 #[.pointer (some ⟨kt, 0, none⟩), .agg #[.int .i64 b0, .int .i64 b1, .int .i64 b2, .int .i64 b3, .bool b4, .int .i64 b5, .slice rd rn rc]] W (GivesPair W (at0, wy))) := fun W hW => by
  have h1 := tcCheck_any W kt km ps (h.tab.keep hW) (by rw [h.eq]; exact fold_asc _ asc_nil) (by rw [h.eq]; exact foldP_few _ (fun p hp => by cases hp)) ⟨b0, b1, b2, b3, b4, b5, recs⟩ rd rn rc (hrec.keep hW) ht hn hp (at0, wy) (by rw [← HBT.out]; exact hcc)
  exact h1
 have CS : Hid (∀ W, Below w.heap.size w W → Calls Tryz.prog 69 #[.agg #[.int .i64 b0, .int .i64 b1, .int .i64 b2, .int .i64 b3, .bool b4, .int .i64 b5, .slice rd rn rc]] W (Says (sizeB bt) W)) := fun W hW => by
  have h1 := batSize_any W ⟨b0, b1, b2, b3, b4, b5, recs⟩ rd rn rc (hrec.keep hW) ht hn
  rw [HBT.out]
  exact h1
 have CA : Hid (∀ W ps', TcOk W kt km ps → RecsAt W rd rn rc recs → ps' = ps → Calls Tryz.prog 71 #[.pointer (some ⟨kt, 0, none⟩), .agg #[.int .i64 b0, .int .i64 b1, .int .i64 b2, .int .i64 b3, .bool b4, .int .i64 b5, .slice rd rn rc]] W (GivesTcApply2 W kt km ps (tapplyD (pds ps) bt) (tdropD (pds ps) bt))) := fun W ps' hW hR _ => by
  have h1 := tcApply2_any W kt km ps hW (by rw [h.eq]; exact fold_asc _ asc_nil) (by rw [h.eq]; exact foldP_few _ (fun p hp => by cases hp)) ⟨b0, b1, b2, b3, b4, b5, recs⟩ rd rn rc hR ht hn hp
  rw [HBT.out]
  exact h1
 have HCN : Hid ((if b5 ≠ 0 then 1 else (rn : Int)) = countD bt) := by show _ = _; rw [HBT.out, HRN.out]; rfl
 have HSZ : Hid (0 ≤ sizeB bt ∧ sizeB bt ≤ 2404) := size_bd bt
 have HZB : Hid (0 ≤ bytesD (bats ms) ∧ bytesD (bats ms) ≤ 12020000) := by
  have h1 := bytesD_bd (bats ms)
  have h2 := hr.few
  show _ ∧ _
  omega
 have HEN : Hid (0 ≤ b0 ∧ b0 ≤ 1099511627776) := by show _ ∧ _; rw [hbase]; exact hr.end_
 have HBS : Hid (b0 = endD s (bats ms)) := hbase
 have HB0E : Hid (bt.base = b0) := by show _ = _; rw [HBT.out]
 have HLN : Hid (ms.length ≤ 5000) := by have := hr.few; rw [bats_length] at this; exact this
 have H := qh h
 have HREC := qh hrec
 obtain ⟨W0, hW0⟩ := exq (w.alloc (.cells #[.int .i64 b0, .int .i64 b1, .int .i64 b2, .int .i64 b3, .bool b4, .int .i64 b5, .slice rd rn rc] 29))
 have HB0 := hwq hW0
 have HX0 := bx0 hW0
 have HW0 := qh hW0
 obtain ⟨B, hB⟩ := exq w.heap.size
 rw [← hB] at HX0
 have HBN : Hid (B = w.heap.size) := hB
 have HH0 := qh (h.on HB0.out)
 clear h hr hrec ht hn hp hbase hrn hcc hcc2 hW0
 go_enter Tryz.func42, Tryz.ntmps42
 go_upto_region 1 with fail
 rw [← HW0.out, ← hB]
 clear hB HW0
 have KS : Hid (∀ V, Below W0.heap.size W0 V → (fun (V : World) => V.cell? ⟨k, 3, none⟩ = some (.pointer (some ⟨kt, 0, none⟩)) ∧ V.cell? ⟨B, 0, none⟩ = some (.int .i64 b0) ∧ V.cell? ⟨B, 1, none⟩ = some (.int .i64 b1) ∧ V.cell? ⟨B, 2, none⟩ = some (.int .i64 b2) ∧ V.cell? ⟨B, 3, none⟩ = some (.int .i64 b3) ∧ V.cell? ⟨B, 4, none⟩ = some (.bool b4) ∧ V.cell? ⟨B, 5, none⟩ = some (.int .i64 b5) ∧ V.cell? ⟨B, 6, none⟩ = some (.slice rd rn rc)) V) := fun V hV => ⟨(HH0.out.on hV).box.c3, (HX0.out.on hV).c0, (HX0.out.on hV).c1, (HX0.out.on hV).c2, (HX0.out.on hV).c3, (HX0.out.on hV).c4, (HX0.out.on hV).c5, (HX0.out.on hV).c6⟩
 refine zs [] KS fun u0 HU0 hHeld => ?_
 refine zt 0 ?_
 refine zt 1 ?_
 refine zt 2 ?_
 refine zt 3 ?_
 refine zt 4 ?_
 refine zr 5 (fun C hC => ?_)
 go_simp
 refine (CK.out u0 (HB0.out.trans (HU0.out.mono HB0.out.size))).mono ?_
 rintro e u1 ⟨rfl, hb⟩
 have HV1 := qh (HU0.out.trans (hb.mono HU0.out.size))
 clear hb
 have hHeld := KS.out _ HV1.out
 refine zc hC hHeld ?_
 clear hC C
 refine zt 6 ?_
 refine zt 7 ?_
 refine zt 8 ?_
 refine zt 9 ?_
 refine zt 10 ?_
 refine zd ?_
 have HU1 := qh (HB0.out.trans (HV1.out.mono HB0.out.size))
 have HX1 := qh (HX0.out.on HV1.out)
 have HH1 := qh (HH0.out.on HV1.out)
 clear hHeld KS HU0 HV1
 by_cases hwy : wy = 0
 rotate_left
 · have hd1 : (wy != 0) = true := by simpa using hwy
   have HPUT : Hid (putD c s (bats ms) bt = ((at0, wy), bats ms)) := by
    show _ = _
    rw [put_err HCW.out hwy]
    rcases HSG.out with h1 | h1
    · rw [h1]
    exact absurd h1.2 hwy
   clear hwy
   go_wp2
   go_ret2
   rw [HPUT.out]
   exact turns_same hF H.out rfl HU1.out
 by_cases hat : at0 = -1
 · have HCW0 : Hid ((tcheckD (foldP [] (bats ms)) bt).2 = 0) := by rw [← hwy]; exact HCW.out
   have HCA0 : Hid ((tcheckD (foldP [] (bats ms)) bt).1 = -1) := by rw [← hat]; exact HCA.out
   have HRT0 : Hid (rightE bt = 0) := HRT.out hwy
   clear HCW HCA HRT HSG CK
   subst hwy hat
   go_upto_region 4 with fail
   obtain ⟨p0, p1, p2, p3, p4, p5, p6⟩ := HX1.out.cs
   go_wp2_with fail
   refine (CS.out u1 HU1.out).mono ?_
   rintro e w4 ⟨rfl, hb4⟩
   have HB4 := qh (HU1.out.trans (hb4.mono HU1.out.size))
   have HX4 := qh (HX1.out.on hb4)
   have HH4 := qh (HH1.out.on hb4)
   clear hb4 p0 p1 p2 p3 p4 p5 p6 HX1 HH1 HU1 HB0 HX0 HH0 CS
   obtain ⟨sz, hsz⟩ := exq (sizeB bt)
   obtain ⟨zz, hzz⟩ := exq (bytesD (bats ms))
   rw [← hsz] at HSZ
   rw [← hzz] at HZB
   rw [← hsz]
   have HSE := qh hsz
   have HZE := qh hzz
   clear hsz hzz
   have HBX4 : Hid (McBox w4 k c s v kt zz) := by rw [HZE.out]; exact HH4.out.box
   obtain ⟨dd, hdd⟩ := exq (c - zz)
   have hw5 : IntKind.i64.wrap (c - zz) = dd := by
    have h1 := HZB.out
    have h2 := H.out.cap
    rw [hdd]
    exact wrap_id (by omega) (by omega)
   have HDD := qh hdd
   clear hdd
   go_upto_region 5 with fail
   have KS : Hid (∀ V, Below w4.heap.size w4 V → (fun (V : World) => V.cell? ⟨k, 0, none⟩ = some (.int .i64 c) ∧ V.cell? ⟨k, 4, none⟩ = some (.int .i64 zz)) V) := fun V hV => ⟨(HBX4.out.on hV).c0, (HBX4.out.on hV).c4⟩
   refine zs [] KS fun u5 HV5 hHeld => ?_
   refine zt 0 ?_
   refine zt 1 ?_
   refine zt 2 ?_
   refine zt 3 ?_
   refine zt 4 ?_
   refine zt 5 ?_
   refine zt 6 ?_
   refine zt 7 ?_
   refine zt 8 ?_
   refine zt 9 ?_
   refine zt 10 ?_
   refine zd ?_
   have HU5 := qh (HB4.out.trans (HV5.out.mono HB4.out.size))
   have HX5 := qh (HX4.out.on HV5.out)
   have HH5 := qh (HH4.out.on HV5.out)
   clear hHeld KS HV5 HX4 HH4 HBX4 HB4
   clear hw5
   by_cases hfl : dd < sz
   · have hd : decide (dd < sz) = true := decide_eq_true hfl
     have HPUT : Hid (putD c s (bats ms) bt = ((-1, 17), bats ms)) := put_full HCW0.out HCA0.out (by rw [← HSE.out, ← HZE.out]; have := HDD.out; omega)
     clear hfl
     rw [hd]
     go_wp2
     go_ret2
     rw [HPUT.out]
     exact turns_same hF H.out rfl HU5.out
   have hd : decide (dd < sz) = false := decide_eq_false hfl
   have HFL : Hid (¬ c < bytesD (bats ms) + sizeB bt) := by show ¬ _; rw [← HSE.out, ← HZE.out]; have := HDD.out; omega
   clear hfl
   rw [hd]
   clear hd
   obtain ⟨cn, hcn⟩ := exq (countD bt)
   rw [← hcn] at HCN
   have HCE := qh hcn
   clear hcn
   have HCB : Hid (0 ≤ cn ∧ cn ≤ 140737488355328) := by
    have h1 := right_count HRT0.out
    have h2 := count_few HRT0.out
    have h3 := HCE.out
    show _ ∧ _
    omega
   obtain ⟨ed, hed⟩ := exq (b0 + cn)
   have hw7 : IntKind.i64.wrap (b0 + cn) = ed := by
    have h1 := HEN.out
    have h2 := HCB.out
    rw [hed]
    exact wrap_id (by omega) (by omega)
   have HED := qh hed
   clear hed
   go_upto_region 7 with fail
   have KS : Hid (∀ V, Below u5.heap.size u5 V → (fun (V : World) => V.cell? ⟨B, 0, none⟩ = some (.int .i64 b0) ∧ V.cell? ⟨B, 1, none⟩ = some (.int .i64 b1) ∧ V.cell? ⟨B, 2, none⟩ = some (.int .i64 b2) ∧ V.cell? ⟨B, 3, none⟩ = some (.int .i64 b3) ∧ V.cell? ⟨B, 4, none⟩ = some (.bool b4) ∧ V.cell? ⟨B, 5, none⟩ = some (.int .i64 b5) ∧ V.cell? ⟨B, 6, none⟩ = some (.slice rd rn rc)) V) := fun V hV => ⟨(HX5.out.on hV).c0, (HX5.out.on hV).c1, (HX5.out.on hV).c2, (HX5.out.on hV).c3, (HX5.out.on hV).c4, (HX5.out.on hV).c5, (HX5.out.on hV).c6⟩
   refine zs [] KS fun u6 HV6 hHeld => ?_
   refine zt 0 ?_
   refine zt 1 ?_
   refine zt 2 ?_
   refine zr 3 (fun C hC => ?_)
   go_simp
   refine (batCount_any u6 b0 b1 b2 b3 b4 b5 rd rn rc cn HCN.out).mono ?_
   rintro e u7 ⟨rfl, hb⟩
   have HV7 := qh (HV6.out.trans (hb.mono HV6.out.size))
   clear hb
   have hHeld := KS.out _ HV7.out
   refine zc hC hHeld ?_
   clear hC C
   refine zt 4 ?_
   refine zt 5 ?_
   refine zd ?_
   have HU7 := qh (HU5.out.trans (HV7.out.mono HU5.out.size))
   have HX7 := qh (HX5.out.on HV7.out)
   have HH7 := qh (HH5.out.on HV7.out)
   clear hHeld KS HV6 HV7 HX5 HH5 HU5
   clear hw7
   by_cases hov : 1099511627776 < ed
   · have hd : decide (1099511627776 < ed) = true := decide_eq_true hov
     have HPUT : Hid (putD c s (bats ms) bt = ((-1, 18), bats ms)) := put_over HCW0.out HCA0.out HFL.out (by rw [← HCE.out, ← HBS.out]; have := HED.out; omega)
     clear hov
     rw [hd]
     go_wp2
     go_ret2
     rw [HPUT.out]
     exact turns_same hF H.out rfl HU7.out
   have hd : decide (1099511627776 < ed) = false := decide_eq_false hov
   have HPUT : Hid (putD c s (bats ms) bt = ((bt.base, 0), bats ms ++ [bt])) := put_takes HCW0.out HCA0.out HFL.out (by rw [← HCE.out, ← HBS.out]; have := HED.out; omega)
   clear hov
   rw [hd]
   clear hd
   have HRL : Hid (rn ≤ 1000000) := by
    have h1 := right_recs HRT0.out
    rw [HBT.out] at h1
    have h2 := HRN.out
    simp only at h1
    show _ ≤ _
    omega
   go_upto_region 9 with fail
   have KS : Hid (∀ V, Below u7.heap.size u7 V → (fun (V : World) => V.cell? ⟨k, 2, none⟩ = some v ∧ V.cell? ⟨B, 0, none⟩ = some (.int .i64 b0) ∧ V.cell? ⟨B, 1, none⟩ = some (.int .i64 b1) ∧ V.cell? ⟨B, 2, none⟩ = some (.int .i64 b2) ∧ V.cell? ⟨B, 3, none⟩ = some (.int .i64 b3) ∧ V.cell? ⟨B, 4, none⟩ = some (.bool b4) ∧ V.cell? ⟨B, 5, none⟩ = some (.int .i64 b5) ∧ V.cell? ⟨B, 6, none⟩ = some (.slice rd rn rc)) V) := fun V hV => ⟨(HH7.out.on hV).box.c2, (HX7.out.on hV).c0, (HX7.out.on hV).c1, (HX7.out.on hV).c2, (HX7.out.on hV).c3, (HX7.out.on hV).c4, (HX7.out.on hV).c5, (HX7.out.on hV).c6⟩
   refine zs [11] KS fun ua HVa hHeld => ?_
   refine zt 0 ?_
   refine zt 1 ?_
   refine zt 2 ?_
   refine zt 3 ?_
   refine zt 4 ?_
   refine zt 5 ?_
   refine zr 6 (fun C hC => ?_)
   go_simp
   have CC := mcCopied_any ua ⟨b0, b1, b2, b3, b4, b5, recs⟩ rd rn rc (by have h1 := HREC.out.keep (HU7.out.trans (HVa.out.mono HU7.out.size)); exact h1) HRL.out
   simp only at CC
   refine CC.mono ?_
   clear CC
   rintro e ub ⟨ad2, cap2, rfl, hrc, hk2, hb⟩
   simp only at hrc ⊢
   rw [← HRN.out] at hrc ⊢
   obtain ⟨mx, hmx⟩ : ∃ x : BM, x = ⟨bt, ad2, cap2⟩ := ⟨_, rfl⟩
   have HMX : Hid (mx.b = bt) := by show _ = _; rw [hmx]
   have HMA : Hid (mx.ad = ad2) := by show _ = _; rw [hmx]
   have HVb := qh (HVa.out.trans (hb.mono HVa.out.size))
   have HUAB : Hid (ua.heap.size ≤ ub.heap.size) := hb.size
   have HRB : Hid (RecAt ub mx) := by
    show RecsAt _ _ _ _ _
    rw [hmx, HBT.out]
    simp only
    rw [← HRN.out]
    exact hrc
   have HKB2 : Hid (∀ a, mx.ad = some a → ua.heap.size ≤ a.block ∧ a.block < ub.heap.size) := fun a ha => hk2 a (by rw [← HMA.out]; exact ha)
   have HENC : Hid (batK.enc mx = [.int .i64 b0, .int .i64 b1, .int .i64 b2, .int .i64 b3, .bool b4, .int .i64 b5, .slice ad2 rn cap2]) := by
    show _ = _
    rw [hmx, HBT.out, HRN.out]
    rfl
   clear hrc hk2 hb hmx
   have hHeld := KS.out _ HVb.out
   refine zc hC hHeld ?_
   clear hC C
   refine zr 7 (fun C hC => ?_)
   go_simp
   obtain ⟨uc, huc⟩ := exq (ub.alloc (.cells #[.int .i64 b0, .int .i64 b1, .int .i64 b2, .int .i64 b3, .bool b4, .int .i64 b5, .slice ad2 rn cap2] 29))
   obtain ⟨g1, hg1⟩ := exq ub.heap.size
   have hbb := wbq huc
   have HVc := qh (HVb.out.trans (hbb.mono HVb.out.size))
   have HUBC : Hid (ub.heap.size ≤ uc.heap.size) := hbb.size
   have HRX : Hid (RowAt batK uc (some ⟨g1, 0, none⟩) 1 1 [mx]) := by
    show RowAt _ _ _ _ _ _
    rw [huc, hg1]
    exact rowAt_lit batK_ok ub [mx] (by simp) _ (by unfold Kind.all; rw [List.flatMap_cons, List.flatMap_nil, List.append_nil, HENC.out]) 1 rfl
   have HRC : Hid (RecAt uc mx) := RecsAt.keep HRB.out hbb
   have HKC : Hid (∀ a, mx.ad = some a → ua.heap.size ≤ a.block ∧ a.block < uc.heap.size) := fun a ha => ⟨(HKB2.out a ha).1, Nat.lt_of_lt_of_le (HKB2.out a ha).2 hbb.size⟩
   rw [← huc, ← hg1]
   clear huc hg1 hbb HRB HKB2
   have hHeld := KS.out _ HVc.out
   refine zc hC hHeld ?_
   clear hC C
   have HHc := qh (HH7.out.on HVc.out)
   refine zr 8 (fun C hC => ?_)
   refine held_bat (by rfl) (.tmp 49) (.tmp 52) rfl 0 ms [mx] v rfl HHc.out.list.own HHc.out.list.str (Nat.zero_le _) (some ⟨g1, 0, none⟩) 1 1 rfl HRX.out (by have := HLN.out; omega) ?_
   rintro v6 ud hap hns
   have HFU : Hid (w.heap.size ≤ ua.heap.size ∧ ua.heap.size ≤ uc.heap.size) := by
    refine ⟨Nat.le_trans HU7.out.size HVa.out.size, ?_⟩
    have h4 : ua.heap.size ≤ ub.heap.size := HUAB.out
    have h5 : ub.heap.size ≤ uc.heap.size := HUBC.out
    omega
   obtain ⟨hbx, htc, hkp⟩ := mc_appended HHc.out hap
   have HLd : Hid (McL ud v6 (ms ++ [mx])) := HHc.out.list.put hap hns HRC.out fun a ha => ⟨(HKC.out a ha).2, fun e => by
    have h1 := (H.out.list.own.lt _ e).2
    have h2 := (HKC.out a ha).1
    have h3 := HFU.out.1
    omega⟩
   have HBXd := qh hbx
   have HTd := qh htc
   have HKd : Hid (Kept w ud (fun q => v.ownBlock = some q)) := (Kept.of_below (F := fun q => v.ownBlock = some q) (HU7.out.trans (HVc.out.mono HU7.out.size))).trans hkp fun q hq => .inl hq
   have HXd : Hid (BoxAt ud B b0 b1 b2 b3 b4 b5 (.slice rd rn rc)) := (HX7.out.on HVc.out).same (hkp.block B (HX7.out.on HVc.out).lt fun e => by
    have h1 := (H.out.list.own.lt _ e).2
    have h2 := HBN.out
    omega)
   have HRd : Hid (RecsAt ud rd rn rc recs) := recs_past (HREC.out.keep (HU7.out.trans (HVc.out.mono HU7.out.size))) hkp (recs_apart HHc.out.list.str (HREC.out.keep (HU7.out.trans (HVc.out.mono HU7.out.size))))
   have HF6 : Hid (∀ j, FootL v6 (ms ++ [mx]) j → FootL v ms j ∨ w.heap.size ≤ j) := by
    intro j hj
    have h0 := HFU.out
    rcases hj with h1 | ⟨m, hm, a, ha, rfl⟩
    · rcases hap.2.2.2 j h1 with h2 | h2
      · exact .inl (.inl h2)
      exact .inr (by omega)
    rcases List.mem_append.1 hm with hm | hm
    · exact .inl (.inr ⟨m, hm, a, ha, rfl⟩)
    rw [List.mem_singleton.1 hm] at ha
    have := (HKC.out a ha).1
    exact .inr (by omega)
   have HSW : Hid (w.heap.size ≤ ud.heap.size) := HKd.out.size
   obtain ⟨n6, hn6⟩ : ∃ n, (ms ++ [mx]).length = n := ⟨_, rfl⟩
   obtain ⟨ad6, cap6, hv6, _, _⟩ := OwnRow.row batK_ok hap.1 hn6
   have HV6 := qh hv6
   clear hn6 hv6 hap hns hbx htc hkp
   have hs2 := hq KS ud ⟨HBXd.out.c2, HXd.out.c0, HXd.out.c1, HXd.out.c2, HXd.out.c3, HXd.out.c4, HXd.out.c5, HXd.out.c6⟩
   have hHeld := hq KS ud (hs2)
   refine zc hC hHeld ?_
   clear hC C
   refine zt 9 ?_
   refine zt 10 ?_
   have q2 := HBXd.out.c2
   have f2 := HBXd.out.free 2
   rw [HV6.out]
   refine zr 11 (fun C hC => ?_)
   go_simp
   refine zl hC ?_
   clear hC C
   refine zd ?_
   rw [← HV6.out]
   obtain ⟨ue, hue⟩ := exq (ud.setCell ⟨k, 2, none⟩ v6)
   have HKB : Hid (k ≠ B) := by show k ≠ B; have h1 := H.out.box.lt; have := HBN.out; omega
   have HNK : Hid (¬ FootL v6 (ms ++ [mx]) k) := fun hj => by
    rcases HF6.out k hj with h1 | h1
    · exact H.out.kL h1
    have := H.out.box.lt; omega
   have HKe1 : Hid (Kept ud ue (fun j => j = k)) := by rw [hue]; exact Kept.of_grown (grow_one _ _ _ _) (.inl rfl)
   have HBXe : Hid (McBox ue k c s v6 kt zz) := by rw [hue, HZE.out]; exact HBXd.out.s2 v6
   have HLe : Hid (McL ue v6 (ms ++ [mx])) := HLd.out.kept HKe1.out (fun j hj e => HNK.out (by rw [← e]; exact hj))
   have HTe : Hid (TcOk ue kt km ps) := tc_kept HTd.out HKe1.out (fun j hj e => H.out.kT (by rw [← e]; exact hj))
   have HXe : Hid (BoxAt ue B b0 b1 b2 b3 b4 b5 (.slice rd rn rc)) := HXd.out.same (HKe1.out.block B HXd.out.lt fun e => HKB.out e.symm)
   have HRe : Hid (RecsAt ue rd rn rc recs) := by
    refine recs_past HRd.out HKe1.out ?_
    rcases recs_box HBXd.out (own_notStr H.out.list) HRd.out with h1 | h1
    · exact .inl h1
    exact .inr h1
   have HKe : Hid (Kept w ue (McFoot k kt km v ms ps)) := (HKd.out.more (G := McFoot k kt km v ms ps) fun j hj => .inr (.inl (.inl hj))).trans (HKe1.out.more (G := McFoot k kt km v ms ps) fun j hj => .inl hj) fun j hj => .inl hj
   have HSe : Hid (w.heap.size ≤ ue.heap.size) := HKe.out.size
   rw [← hue]
   clear hue q2 f2 hHeld KS hs2 HBXd HLd HTd HXd HRd HKd HHc HKC HRC HRX HVa HVb HVc HX7 HH7 HKe1 HSW
   go_upto_region 10 with fail
   have KS : Hid (∀ V, Below ue.heap.size ue V → (fun (V : World) => V.cell? ⟨k, 3, none⟩ = some (.pointer (some ⟨kt, 0, none⟩)) ∧ V.cell? ⟨B, 0, none⟩ = some (.int .i64 b0) ∧ V.cell? ⟨B, 1, none⟩ = some (.int .i64 b1) ∧ V.cell? ⟨B, 2, none⟩ = some (.int .i64 b2) ∧ V.cell? ⟨B, 3, none⟩ = some (.int .i64 b3) ∧ V.cell? ⟨B, 4, none⟩ = some (.bool b4) ∧ V.cell? ⟨B, 5, none⟩ = some (.int .i64 b5) ∧ V.cell? ⟨B, 6, none⟩ = some (.slice rd rn rc)) V) := fun V hV => ⟨(HBXe.out.on hV).c3, (HXe.out.on hV).c0, (HXe.out.on hV).c1, (HXe.out.on hV).c2, (HXe.out.on hV).c3, (HXe.out.on hV).c4, (HXe.out.on hV).c5, (HXe.out.on hV).c6⟩
   refine zs [] KS fun uf HVf hHeld => ?_
   refine zt 0 ?_
   refine zt 1 ?_
   refine zt 2 ?_
   refine zt 3 ?_
   refine zt 4 ?_
   refine zr 5 (fun C hC => ?_)
   go_simp
   refine (CA.out uf ps (HTe.out.keep HVf.out) (HRe.out.keep HVf.out) rfl).mono ?_
   rintro e u10 ⟨d9, ps', rfl, hd9, ht9, hp9, hg9, hn9⟩
   have HKf : Hid (Kept ue u10 (fun j => j = km)) := (Kept.of_below (F := fun j => j = km) HVf.out).trans (Kept.of_grown (F := fun j => j = km) hg9 (.inl rfl)) fun j hj => .inl hj
   have HT10 := qh ht9
   have HPE10 := qh hp9
   have HFT10 : Hid (∀ j, FootT kt km ps' j → FootT kt km ps j ∨ w.heap.size ≤ j) := by
    intro j hj
    have h0 := HSe.out
    have h9 := HVf.out.size
    rcases hj with h1 | h1 | ⟨p, hp, h1, a, ha, rfl⟩
    · exact .inl (.inl h1)
    · exact .inl (.inr (.inl h1))
    rcases hn9 p hp with h2 | h2
    · exact .inl (.inr (.inr ⟨p, h2, h1, a, ha, rfl⟩))
    have := h2 a ha; exact .inr (by omega)
   have HFN10 : Hid (∀ j, FootT kt km ps' j → FootT kt km ps j ∨ ue.heap.size ≤ j) := by
    intro j hj
    have h9 := HVf.out.size
    rcases hj with h1 | h1 | ⟨p, hp, h1, a, ha, rfl⟩
    · exact .inl (.inl h1)
    · exact .inl (.inr (.inl h1))
    rcases hn9 p hp with h2 | h2
    · exact .inl (.inr (.inr ⟨p, h2, h1, a, ha, rfl⟩))
    have := h2 a ha; exact .inr (by omega)
   have HMK : Hid (km ≠ k) := fun e => H.out.kT (.inr (.inl e.symm))
   have HBX10 : Hid (McBox u10 k c s v6 kt zz) := HBXe.out.same (HKf.out.block k HBXe.out.lt fun e => HMK.out e.symm)
   have HLT9 : Hid (∀ j, FootL v6 (ms ++ [mx]) j → ¬ FootT kt km ps j) := fun j hj ht => by
    rcases HF6.out j hj with h1 | h1
    · exact H.out.LT j h1 ht
    have := tc_lt H.out.tab ht; omega
   have HL10 : Hid (McL u10 v6 (ms ++ [mx])) := HLe.out.kept HKf.out fun j hj e => HLT9.out j hj (.inr (.inl e))
   have HX10 : Hid (BoxAt u10 B b0 b1 b2 b3 b4 b5 (.slice rd rn rc)) := HXe.out.same (HKf.out.block B HXe.out.lt fun e => by
    have h1 := H.out.tab.map.lt
    have h2 := HBN.out
    omega)
   have HK10 : Hid (Kept w u10 (McFoot k kt km v ms ps)) := HKe.out.trans (HKf.out.more (G := McFoot k kt km v ms ps) fun j hj => .inr (.inr (.inr (.inl hj)))) fun j hj => .inl hj
   have HKL10 := HNK
   have HKT10 : Hid (¬ FootT kt km ps' k) := fun hj => by
    rcases HFT10.out k hj with h1 | h1
    · exact H.out.kT h1
    have := H.out.box.lt; omega
   have HLT10 : Hid (∀ j, FootL v6 (ms ++ [mx]) j → ¬ FootT kt km ps' j) := fun j hj ht => by
    rcases HFN10.out j ht with h1 | h1
    · exact HLT9.out j hj h1
    have := HLe.out.lt hj; omega
   have HFL10 := HF6
   have hs9 := hq KS u10 ⟨HBX10.out.c3, HX10.out.c0, HX10.out.c1, HX10.out.c2, HX10.out.c3, HX10.out.c4, HX10.out.c5, HX10.out.c6⟩
   clear ht9 hp9 hg9 hn9 hd9
   have hHeld := hq KS u10 (hs9)
   refine zc hC hHeld ?_
   clear hC C
   refine zd ?_
   obtain ⟨zs, hzs⟩ := exq (zz + sz)
   have HZS := qh hzs
   clear hzs hHeld KS hs9 HVf HKf HBXe HLe HTe HXe HRe HKe HLT9 HFN10 CA
   go_upto_region 11 with fail
   have q4 := HBX10.out.c4
   have g4 := HBX10.out.free 4
   have hw11 : wrap64 (zz + sz) = zs := by
    have h1 := HZB.out
    have h2 := HSZ.out
    rw [HZS.out]
    exact wrap64_id (by omega) (by omega)
   go_upto_region 12 with fail
   obtain ⟨w12, hw12⟩ := exq (u10.setCell ⟨k, 4, none⟩ (.int .i64 zs))
   have HBX12 : Hid (McBox w12 k c s v6 kt zs) := by rw [hw12]; exact HBX10.out.s4 _
   have HX12 : Hid (BoxAt w12 B b0 b1 b2 b3 b4 b5 (.slice rd rn rc)) := by rw [hw12]; exact box_off HX10.out (fun e => HKB.out e) _
   have HK12 : Hid (Kept u10 w12 (fun j => j = k)) := by rw [hw12]; exact Kept.of_grown (grow_one _ _ _ _) (.inl rfl)
   rw [← hw12]
   clear hw12 q4 g4 hw11
   have p0 := HX12.out.c0
   go_wp2
   go_ret2
   rw [HPUT.out, HB0E.out]
   have hL := HL10.out.kept HK12.out (fun j hj e => HKL10.out (by rw [← e]; exact hj))
   have hT := tc_kept HT10.out HK12.out (fun j hj e => HKT10.out (by rw [← e]; exact hj))
   have hbats : bats (ms ++ [mx]) = bats ms ++ [bt] := by unfold bats; rw [List.map_append]; show _ ++ [mx.b] = _; rw [HMX.out]
   have hbx : McBox w12 k c s v6 kt (bytesD (bats (ms ++ [mx]))) := by
    rw [hbats, bytesD_snoc, ← HZE.out, ← HSE.out, ← HZS.out]
    exact HBX12.out
   refine turns_mk hF (kt' := kt) (km' := km) ⟨hbx, hL, hT, ?_, HKL10.out, HKT10.out, HLT10.out, H.out.cap⟩ hbats ?_ ?_
   · rw [hbats, foldP_snoc, ← H.out.eq]; exact HPE10.out
   · exact (HK10.out.trans HK12.out fun j hj => .inl (.inl hj))
   intro j hj
   rcases hj with h1 | h1 | h1
   · exact .inl (.inl h1)
   · exact (HFL10.out j h1).imp_left fun h => .inr (.inl h)
   exact (HFT10.out j h1).imp_left fun h => .inr (.inr h)
 have hd1 : (wy != 0) = false := by rw [hwy]; rfl
 have hd2 : (at0 != -1) = true := by simpa using hat
 have HPUT : Hid (putD c s (bats ms) bt = ((at0, 0), bats ms)) := put_dup (by rw [← hwy]; exact HCW.out) HCA.out (by rcases HSG.out with h1 | h1; exact absurd h1 hat; exact h1.1)
 have HWY := qh hwy
 clear hwy hat
 go_wp2
 go_ret2
 rw [HPUT.out, HWY.out]
 exact turns_same hF H.out rfl HU1.out
theorem LTurns.after {R : LogP} {F : Nat → Prop} {w w1 w' : World} {a : Addr} {c s : Int} {bs : List Bat} {v : Value} {e : Ending} (h : LTurns R F w1 a c s bs v e w') (hb : Below w.heap.size w w1) : LTurns R F w a c s bs v e w' := by
 obtain ⟨F', h1, h2, h3, h4⟩ := h
 exact ⟨F', h1, h2, (Kept.of_below (F := F) hb).trans h3 fun j hj => .inl hj, fun j hj => (h4 j hj).imp_right fun h => Nat.le_trans hb.size h⟩
theorem mcProduce_any (F : Nat → Prop) (w : World) (k kt km : Nat) (v : Value) (ms : List BM) (ps : List PM) (c s : Int) (h : McAt w k kt km v ms ps c s) (hF : ∀ j, F j ↔ McFoot k kt km v ms ps j) (hr : LogRow s (bats ms))
 (b : Bat) (rd : Option Addr) (rc : Nat) (hrec : RecsAt w rd b.recs.length rc b.recs) (ht : TextsOk b.recs) (hn : b.recs.length ≤ 140737488355328) (hp : b.prod ≤ 9223372036854775807) :
 Calls Tryz.prog 17 #[.pointer (some ⟨k, 0, none⟩), .agg #[.int .i64 b.base, .int .i64 b.prod, .int .i64 b.epoch, .int .i64 b.seq, .bool b.txn, .int .i64 b.marker, .slice rd b.recs.length rc]] w (LTurns McR F w ⟨k, 0, none⟩ c s (produceD c s (bats ms) b).2 (.tuple #[.int .i64 (produceD c s (bats ms) b).1.1, .int .i64 (produceD c s (bats ms) b).1.2])) := by
 obtain ⟨b0, b1, b2, b3, b4, b5, recs⟩ := b
 simp only at hrec ht hn hp
 simp only
 obtain ⟨rn, hrn⟩ := exq recs.length
 rw [← hrn] at hrec hn
 rw [← hrn]
 obtain ⟨en, hen⟩ := exq (endD s (bats ms))
 obtain ⟨bt, hbt⟩ : ∃ x : Bat, x = ⟨en, b1, b2, b3, b4, b5, recs⟩ := ⟨_, rfl⟩
 obtain ⟨r, hre⟩ : ∃ r, rightE bt = r := ⟨_, rfl⟩
 have HPD : Hid (produceD c s (bats ms) ⟨b0, b1, b2, b3, b4, b5, recs⟩ = if r ≠ 0 then ((-1, r), bats ms) else if b5 ≠ 0 then ((-1, 16), bats ms) else putD c s (bats ms) bt) := by
  show _ = _
  unfold produceD
  rw [show (Bat.at ⟨b0, b1, b2, b3, b4, b5, recs⟩ (endD s (bats ms))) = bt by rw [hbt, hen]; rfl, hre]
 obtain ⟨pd, hpd⟩ := exq (produceD c s (bats ms) ⟨b0, b1, b2, b3, b4, b5, recs⟩)
 rw [← hpd] at HPD ⊢
 have CE : Hid (∀ W, Below w.heap.size w W → Calls Tryz.prog 19 #[.pointer (some ⟨k, 0, none⟩)] W (GivesI W en)) := fun W hW => by
  rw [hen]
  exact mcEnd_any W k kt km v ms ps c s (h.on hW) hr
 have CR : Hid (∀ W, Below w.heap.size w W → Calls Tryz.prog 45 #[.agg #[.int .i64 en, .int .i64 b1, .int .i64 b2, .int .i64 b3, .bool b4, .int .i64 b5, .slice rd rn rc]] W (Says r W)) := fun W hW => by
  have h1 := batRight_any W bt rd rn rc (by rw [hbt]; exact hrec.keep hW) (by rw [hbt]; exact ht) hn
  rw [hre] at h1
  rw [hbt] at h1
  exact h1
 have CA : Hid (∀ W, Below w.heap.size w W → Calls Tryz.prog 42 #[.pointer (some ⟨k, 0, none⟩), .agg #[.int .i64 en, .int .i64 b1, .int .i64 b2, .int .i64 b3, .bool b4, .int .i64 b5, .slice rd rn rc]] W (LTurns McR F W ⟨k, 0, none⟩ c s (putD c s (bats ms) bt).2 (.tuple #[.int .i64 (putD c s (bats ms) bt).1.1, .int .i64 (putD c s (bats ms) bt).1.2]))) := fun W hW => by
  have h1 := mcAdd_any F W k kt km v ms ps c s (h.on hW) hF hr bt rd rc (by rw [hbt]; simp only; rw [← hrn]; exact hrec.keep hW) (by rw [hbt]; exact ht) (by rw [hbt]; simp only; rw [← hrn]; exact hn) (by rw [hbt]; exact hp) (by rw [hbt, hen])
  have e : #[Value.pointer (some ⟨k, 0, none⟩), .agg #[.int .i64 bt.base, .int .i64 bt.prod, .int .i64 bt.epoch, .int .i64 bt.seq, .bool bt.txn, .int .i64 bt.marker, .slice rd bt.recs.length rc]] = #[Value.pointer (some ⟨k, 0, none⟩), .agg #[.int .i64 en, .int .i64 b1, .int .i64 b2, .int .i64 b3, .bool b4, .int .i64 b5, .slice rd rn rc]] := by rw [hbt, hrn]
  rw [e] at h1
  exact h1
 have H := qh h
 obtain ⟨W0, hW0⟩ := exq (w.alloc (.cells #[.int .i64 b0, .int .i64 b1, .int .i64 b2, .int .i64 b3, .bool b4, .int .i64 b5, .slice rd rn rc] 29))
 have HB0 := hwq hW0
 have HX0 := bx0 hW0
 have HW0 := qh hW0
 obtain ⟨B, hB⟩ := exq w.heap.size
 rw [← hB] at HX0
 have HBN : Hid (w.heap.size ≤ B) := by show _ ≤ _; rw [hB]; exact Nat.le_refl _
 clear h hr hrec ht hn hp hrn hen hbt hre hpd hW0
 go_enter Tryz.func17, Tryz.ntmps17
 go_upto_region 1 with fail
 rw [← HW0.out, ← hB]
 clear hB HW0
 go_wp2_with fail
 refine (CE.out W0 HB0.out).mono ?_
 rintro e w1 ⟨rfl, hb⟩
 have HX1 := qh (HX0.out.on hb)
 have HB1 := qh (HB0.out.trans (hb.mono HB0.out.size))
 clear hb HX0 HB0 CE
 have p0 := HX1.out.c0
 have f0 := HX1.out.free 0
 go_upto_region 2 with fail
 obtain ⟨w2, hw2⟩ := exq (w1.setCell ⟨B, 0, none⟩ (.int .i64 en))
 have HX2 : Hid (BoxAt w2 B en b1 b2 b3 b4 b5 (.slice rd rn rc)) := by rw [hw2]; exact HX1.out.s0 en
 have HB2 : Hid (Below w.heap.size w w2) := by rw [hw2]; exact HB1.out.setCell HBN.out _
 rw [← hw2]
 clear hw2 p0 f0 HX1 HB1
 obtain ⟨p0, p1, p2, p3, p4, p5, p6⟩ := HX2.out.cs
 go_wp2_with fail
 refine (CR.out w2 HB2.out).mono ?_
 rintro e w3 ⟨rfl, hb⟩
 have HX3 := qh (HX2.out.on hb)
 have HB3 := qh (HB2.out.trans (hb.mono HB2.out.size))
 clear hb HX2 HB2 CR p0 p1 p2 p3 p4 p5 p6
 by_cases hr0 : r = 0
 rotate_left
 · have hd : (r != 0) = true := by simpa using hr0
   have HV : Hid (pd = ((-1, r), bats ms)) := by show _ = _; rw [HPD.out, if_pos hr0]
   clear hr0
   go_wp2
   go_ret2
   rw [HV.out]
   exact turns_same hF H.out rfl HB3.out
 have hd : (r != 0) = false := by rw [hr0]; rfl
 by_cases h5 : b5 = 0
 rotate_left
 · have hd5 : (b5 != 0) = true := by simpa using h5
   have HV : Hid (pd = ((-1, 16), bats ms)) := by show _ = _; rw [HPD.out, if_neg (by simp [hr0]), if_pos h5]
   clear hr0 h5
   have p5 := HX3.out.c5
   go_wp2
   go_ret2
   rw [HV.out]
   exact turns_same hF H.out rfl HB3.out
 have hd5 : (b5 != 0) = false := by rw [h5]; rfl
 have HV : Hid (pd = putD c s (bats ms) bt) := by show _ = _; rw [HPD.out, if_neg (by simp [hr0]), if_neg (by simp [h5])]
 clear hr0 h5
 obtain ⟨p0, p1, p2, p3, p4, p5, p6⟩ := HX3.out.cs
 go_wp2_with fail
 have CA2 := CA.out w3 HB3.out
 rw [← HV.out] at CA2
 refine CA2.mono ?_
 clear CA2
 rintro e w4 hlt
 have hlt2 := hlt.after HB3.out
 obtain ⟨⟨pa, pb⟩, pl⟩ := pd
 simp only at hlt2 ⊢
 obtain ⟨F', rfl, hR, hK, hf⟩ := hlt2
 have HR4 := qh hR
 have HK4 := qh hK
 have HF4 := qh hf
 clear hlt hR hK hf CA HV HPD p0 p1 p2 p3 p4 p5 p6
 go_wp2
 go_ret2
 exact ⟨F', rfl, HR4.out, HK4.out, HF4.out⟩
theorem mcMark_any (F : Nat → Prop) (w : World) (k kt km : Nat) (v : Value) (ms : List BM) (ps : List PM) (c s : Int) (h : McAt w k kt km v ms ps c s) (hF : ∀ j, F j ↔ McFoot k kt km v ms ps j) (hr : LogRow s (bats ms)) (p ep m : Int) (hp : p ≤ 9223372036854775807) :
 Calls Tryz.prog 15 #[.pointer (some ⟨k, 0, none⟩), .int .i64 p, .int .i64 ep, .int .i64 m] w (LTurns McR F w ⟨k, 0, none⟩ c s (markD c s (bats ms) p ep m).2 (.tuple #[.int .i64 (markD c s (bats ms) p ep m).1.1, .int .i64 (markD c s (bats ms) p ep m).1.2])) := by
 obtain ⟨en, hen⟩ := exq (endD s (bats ms))
 obtain ⟨pd, hpd⟩ := exq (markD c s (bats ms) p ep m)
 have HPD : Hid (pd = if m = 0 then ((-1, 12), bats ms) else putD c s (bats ms) ⟨en, p, ep, -1, true, m, []⟩) := by show _ = _; rw [hpd, hen]; rfl
 rw [← hpd]
 have CE : Hid (∀ W, Below w.heap.size w W → Calls Tryz.prog 19 #[.pointer (some ⟨k, 0, none⟩)] W (GivesI W en)) := fun W hW => by
  rw [hen]
  exact mcEnd_any W k kt km v ms ps c s (h.on hW) hr
 have CA : Hid (∀ W, Below w.heap.size w W → Calls Tryz.prog 42 #[.pointer (some ⟨k, 0, none⟩), .agg #[.int .i64 en, .int .i64 p, .int .i64 ep, .int .i64 (-1), .bool true, .int .i64 m, .slice none 0 0]] W (LTurns McR F W ⟨k, 0, none⟩ c s (putD c s (bats ms) ⟨en, p, ep, -1, true, m, []⟩).2 (.tuple #[.int .i64 (putD c s (bats ms) ⟨en, p, ep, -1, true, m, []⟩).1.1, .int .i64 (putD c s (bats ms) ⟨en, p, ep, -1, true, m, []⟩).1.2]))) := fun W hW =>
  mcAdd_any F W k kt km v ms ps c s (h.on hW) hF hr ⟨en, p, ep, -1, true, m, []⟩ none 0 (recsAt_nil W) (fun r hr => by cases hr) (Nat.zero_le _) hp hen
 have H := qh h
 clear h hr hp hen hpd
 by_cases hm : m = 0
 · have hd : (m == 0) = true := by rw [hm]; rfl
   have HV : Hid (pd = ((-1, 12), bats ms)) := by show _ = _; rw [HPD.out, if_pos hm]
   clear hm
   go_enter Tryz.func15, Tryz.ntmps15
   go_wp2
   go_ret2
   rw [HV.out]
   exact turns_same hF H.out rfl (Below.refl _ _)
 have hd : (m == 0) = false := by simpa using hm
 have HV : Hid (pd = putD c s (bats ms) ⟨en, p, ep, -1, true, m, []⟩) := by show _ = _; rw [HPD.out, if_neg hm]
 clear hm
 go_enter Tryz.func15, Tryz.ntmps15
 go_wp2_with fail
 refine (CE.out w (Below.refl _ _)).mono ?_
 rintro e w1 ⟨rfl, hb⟩
 have HB1 := qh hb
 clear hb
 go_wp2_with fail
 have CA2 := CA.out w1 HB1.out
 rw [← HV.out] at CA2
 refine CA2.mono ?_
 clear CA2
 rintro e w4 hlt
 have hlt2 := hlt.after HB1.out
 obtain ⟨⟨pa, pb⟩, pl⟩ := pd
 simp only at hlt2 ⊢
 obtain ⟨F', rfl, hR, hK, hf⟩ := hlt2
 have HR4 := qh hR
 have HK4 := qh hK
 have HF4 := qh hf
 clear hlt hR hK hf CA HV HPD
 go_wp2
 go_ret2
 exact ⟨F', rfl, HR4.out, HK4.out, HF4.out⟩
theorem mcRaw_any (F : Nat → Prop) (w : World) (k kt km : Nat) (v : Value) (ms : List BM) (ps : List PM) (c s : Int) (h : McAt w k kt km v ms ps c s) (hF : ∀ j, F j ↔ McFoot k kt km v ms ps j) (hr : LogRow s (bats ms)) (pad : Option Addr) (plen pcap : Nat) (x : List Nat) (hx : Byt w pad plen pcap x) (hpl : plen ≤ 140737488355328) :
 Calls Tryz.prog 34 #[.pointer (some ⟨k, 0, none⟩), .slice pad plen pcap] w (LTurns McR F w ⟨k, 0, none⟩ c s (rawD c s (bats ms) x).2 (.tuple #[.int .i64 (rawD c s (bats ms) x).1.1, .int .i64 (rawD c s (bats ms) x).1.2])) := by
 have H := qh h
 have HRW := qh hr
 have HX := qh hx
 have HXL := qh hx.length
 have hrd := reads_readD hx.all
 obtain ⟨pd, hpd⟩ := exq (rawD c s (bats ms) x)
 obtain ⟨⟨⟨b0, b1, b2, b3, b4, b5, recs⟩, n, ev⟩, ho⟩ : ∃ o, readD x = o := ⟨_, rfl⟩
 rw [ho] at hrd
 have HRD := qh hrd
 have HRAW : Hid (pd = if ev ≠ 0 then ((-1, ev), bats ms) else if n ≠ plen then ((-1, 12), bats ms) else produceD c s (bats ms) ⟨b0, b1, b2, b3, b4, b5, recs⟩) := by
  show _ = _
  rw [hpd]
  unfold rawD
  rw [ho, HXL.out]
 have HO := qh ho
 rw [← hpd]
 clear h hr hx hrd ho hpd
 go_enter Tryz.func34, Tryz.ntmps34
 go_wp2_with fail
 refine (batRead_any w pad plen pcap x HX.out hpl).mono ?_
 rintro e w1 ⟨rd, rc, rfl, hrec, hnew, hb⟩
 rw [HO.out] at hrec ⊢
 simp only at hrec ⊢
 have HREC := qh hrec
 have HB1 := qh hb
 clear hrec hnew hb
 go_upto_region 2 with fail
 obtain ⟨W1, hW1⟩ := exq (w1.alloc (.cells #[.int .i64 b0, .int .i64 b1, .int .i64 b2, .int .i64 b3, .bool b4, .int .i64 b5, .slice rd recs.length rc] 29))
 obtain ⟨P, hP⟩ := exq w1.heap.size
 have hb1 := wbq hW1
 have HX1 := bxq hW1 hP
 have HREC1 := qh (HREC.out.keep hb1)
 have HBT : Hid (Below w.heap.size w W1) := HB1.out.trans (hb1.mono HB1.out.size)
 have H1 := qh (H.out.on HBT.out)
 rw [← hW1, ← hP]
 clear hW1 hP hb1 HREC HB1
 by_cases h0 : ev = 0
 rotate_left
 · have hz : (ev != 0) = true := by simpa using h0
   have HFIN : Hid (pd = ((-1, ev), bats ms)) := by
    show _ = _
    rw [HRAW.out, if_pos h0]
   clear h0 HRAW
   go_wp2_with fail
   go_ret2
   rw [HFIN.out]
   exact turns_same hF H.out rfl HBT.out
 have hz : (ev != 0) = false := by rw [h0]; rfl
 obtain ⟨hg, hn⟩ := HRD.out.fine h0
 have HG : Hid (BatMath.Good x ⟨b0, b1, b2, b3, b4, b5, recs⟩) := hg
 have h00 := h0
 by_cases hnl : n = plen
 rotate_left
 · have hne : ((n : Int) != (plen : Int)) = true := by simp; omega
   have HFIN : Hid (pd = ((-1, 12), bats ms)) := by
    show _ = _
    rw [HRAW.out, if_neg (by simp [h0]), if_pos hnl]
   clear h0 h00 hn hg hnl HRAW
   go_wp2_with fail
   go_ret2
   rw [HFIN.out]
   exact turns_same hF H.out rfl HBT.out
 have hne : ((n : Int) != (plen : Int)) = false := by rw [hnl]; simp
 have HFIN : Hid (pd = produceD c s (bats ms) ⟨b0, b1, b2, b3, b4, b5, recs⟩) := by
  show _ = _
  rw [HRAW.out, if_neg (by simp [h0]), if_neg (by simp [hnl])]
 have hok2 := ok_of HG.out.right
 have HTX : Hid (TextsOk recs) := texts_of hok2.texts
 have hrl : recs.length ≤ 16 := hok2.recs
 have hpr : b1 ≤ 9223372036854775807 := HG.out.wf.prod.2
 have HCALL : Hid (Calls Tryz.prog 17 #[.pointer (some ⟨k, 0, none⟩), .agg #[.int .i64 b0, .int .i64 b1, .int .i64 b2, .int .i64 b3, .bool b4, .int .i64 b5, .slice rd recs.length rc]] W1 (LTurns McR F W1 ⟨k, 0, none⟩ c s pd.2 (.tuple #[.int .i64 pd.1.1, .int .i64 pd.1.2]))) := by
  show Calls _ _ _ _ _
  rw [HFIN.out]
  exact mcProduce_any F W1 k kt km v ms ps c s H1.out hF HRW.out ⟨b0, b1, b2, b3, b4, b5, recs⟩ rd rc HREC1.out HTX.out (Nat.le_trans hrl (by decide)) hpr
 clear h0 h00 hn hg hnl HRAW hrl hpr hok2 HFIN
 obtain ⟨p0, p1, p2, p3, p4, p5, p6⟩ := HX1.out.cs
 go_wp2_with fail
 refine HCALL.out.mono ?_
 rintro e w4 hlt
 have hlt2 := hlt.after HBT.out
 obtain ⟨⟨pa, pb⟩, pl⟩ := pd
 simp only at hlt2 ⊢
 obtain ⟨F', rfl, hR, hK, hf⟩ := hlt2
 have HR4 := qh hR
 have HK4 := qh hK
 have HF4 := qh hf
 clear hlt hR hK hf HCALL p0 p1 p2 p3 p4 p5 p6
 go_wp2
 go_ret2
 exact ⟨F', rfl, HR4.out, HK4.out, HF4.out⟩
def Holds (w : World) (k : Nat) (c s : Int) (ls : List BM) (e : Ending) (w' : World) : Prop :=
 e = .returned (.tuple #[]) ∧ ∃ v' kt' km' ps', McAt w' k kt' km' v' ls ps' c s ∧ Kept w w' (fun j => j = k) ∧ (∀ j, v'.ownBlock = some j → w.heap.size ≤ j) ∧ ∀ j, FootT kt' km' ps' j → w.heap.size ≤ j
theorem mcHold_any (w : World) (k kt : Nat) (v : Value) (c s z : Int) (hx : McBox w k c s v kt z) (ad : Option Addr) (len cap : Nat) (ls : List BM) (hb : BatsAt w ad len cap ls) (hlen : len ≤ 5000) (hok : RowOk (bats ls)) (ho : ∀ m ∈ ls, ∀ a, m.ad = some a → a.block < w.heap.size ∧ a.block ≠ k) (hak : ∀ a, ad = some a → a.block ≠ k) (hc : 1 ≤ c ∧ c ≤ 1073741824) :
 Calls Tryz.prog 55 #[.pointer (some ⟨k, 0, none⟩), .slice ad len cap] w (Holds w k c s ls) := by
 have HX := qh hx
 have HB := qh hb
 have HLE := qh hb.row.length
 have HO := qh ho
 have HAK := qh hak
 have HC := qh hc
 have HOK := qh hok
 have HKW : Hid (k < w.heap.size) := hx.lt
 have HBAW := qh hb
 clear hx hb hok ho hak hc
 go_enter Tryz.func55, Tryz.ntmps55
 go_wp2_with fail
 refine (batClone_any w ad len cap ls HB.out.row (by omega)).mono ?_
 rintro e w1 ⟨ad1, cap1, rfl, ho1, hns1, hb1⟩
 rw [HLE.out] at ho1 hns1 ⊢
 have HB1 := qh hb1
 have HX1 := qh (HX.out.on hb1)
 have HO1 := qh ho1
 have HN1 := qh hns1
 clear ho1 hns1 hb1
 have q2 := HX1.out.c2
 have f2 := HX1.out.free 2
 go_upto_region 1 with fail
 obtain ⟨w2, hw2⟩ := exq (w1.setCell ⟨k, 2, none⟩ (.slice ad1 len cap1))
 have HX2 : Hid (McBox w2 k c s (.slice ad1 len cap1) kt z) := by rw [hw2]; exact HX1.out.s2 _
 have HK12 : Hid (Kept w1 w2 (fun j => j = k)) := by rw [hw2]; exact Kept.of_grown (grow_one _ _ _ _) (.inl rfl)
 have HK2 : Hid (Kept w w2 (fun j => j = k)) := (Kept.of_below (F := fun j => j = k) HB1.out).trans HK12.out fun j hj => .inl hj
 have HLF : Hid (∀ j, FootL (.slice ad1 len cap1) ls j → j ≠ k) := fun j hj e => by
  rcases hj with h1 | ⟨m, hm, a, ha, rfl⟩
  · have h2 := (HO1.out.lt j h1).1
    have := HKW.out
    omega
  exact (HO.out m hm a ha).2 e
 have HL2 : Hid (McL w2 (.slice ad1 len cap1) ls) := by
  have h1 : McL w1 (.slice ad1 len cap1) ls := ⟨HO1.out.low (Nat.zero_le _), fun m hm => RecsAt.keep (HB.out.ins m hm) HB1.out, fun m hm a ha => ⟨Nat.lt_of_lt_of_le (HO.out m hm a ha).1 HB1.out.size, fun e => by
   have h2 := (HO1.out.lt _ e).1
   have h3 := (HO.out m hm a ha).1
   omega⟩, HN1.out⟩
  exact h1.kept HK12.out fun j hj e => HLF.out j hj e
 have HVN : Hid (∀ j, (Value.slice ad1 len cap1).ownBlock = some j → w.heap.size ≤ j) := fun j hj => (HO1.out.lt j hj).1
 have HBA2 : Hid (BatsAt w2 ad len cap ls) := HB.out.kept HK2.out HAK.out fun m hm a ha => (HO.out m hm a ha).2
 rw [← hw2]
 clear hw2 q2 f2 HX1 HO1 HN1 HK12 HB HX HB1
 go_wp2_with fail
 refine (tcFold2_any w2 ad len cap ls HBA2.out (by omega) (batsOk_of HOK.out)).mono ?_
 rintro e w3 ⟨kt', km', ps', rfl, ht, hpe, hk1, hk2, hb3, hfr⟩
 have HX3 := qh (HX2.out.on hb3)
 have HK3 : Hid (Kept w w3 (fun j => j = k)) := HK2.out.trans (Kept.of_below (F := fun j => j = k) hb3) fun j hj => .inl hj
 have HL3 := qh (HL2.out.on hb3)
 have HT3 := qh ht
 have HPE := qh hpe
 have HFT : Hid (∀ j, FootT kt' km' ps' j → w2.heap.size ≤ j) := fun j hj => footT_fresh hfr hk1 hk2 hj
 have HW2 : Hid (w.heap.size ≤ w2.heap.size) := HK2.out.size
 clear ht hpe hk1 hk2 hb3 hfr HX2 HBA2
 have q3 := HX3.out.c3
 have f3 := HX3.out.free 3
 go_upto_region 2 with fail
 obtain ⟨w4, hw4⟩ := exq (w3.setCell ⟨k, 3, none⟩ (.pointer (some ⟨kt', 0, none⟩)))
 have HX4 : Hid (McBox w4 k c s (.slice ad1 len cap1) kt' z) := by rw [hw4]; exact HX3.out.s3 _
 have HK34 : Hid (Kept w3 w4 (fun j => j = k)) := by rw [hw4]; exact Kept.of_grown (grow_one _ _ _ _) (.inl rfl)
 rw [← hw4]
 clear hw4 q3 f3 HX3
 have q4 := HX4.out.c4
 have f4 := HX4.out.free 4
 go_upto_region 3 with fail
 obtain ⟨w5, hw5⟩ := exq (w4.setCell ⟨k, 4, none⟩ (.int .i64 0))
 have HX5 : Hid (McBox w5 k c s (.slice ad1 len cap1) kt' 0) := by rw [hw5]; exact HX4.out.s4 _
 have HK45 : Hid (Kept w4 w5 (fun j => j = k)) := by rw [hw5]; exact Kept.of_grown (grow_one _ _ _ _) (.inl rfl)
 have HK35 : Hid (Kept w3 w5 (fun j => j = k)) := HK34.out.trans HK45.out fun j hj => .inl hj
 have HK5 : Hid (Kept w w5 (fun j => j = k)) := HK3.out.trans HK35.out fun j hj => .inl hj
 have HTK : Hid (∀ j, FootT kt' km' ps' j → j ≠ k) := fun j hj e => by
  have h1 := HFT.out j hj
  have h2 := HW2.out
  have h3 := HKW.out
  omega
 have HL5 : Hid (McL w5 (.slice ad1 len cap1) ls) := HL3.out.kept HK35.out fun j hj e => HLF.out j hj e
 have HT5 : Hid (TcOk w5 kt' km' ps') := tc_kept HT3.out HK35.out fun j hj e => HTK.out j hj e
 have HLT : Hid (∀ j, FootL (.slice ad1 len cap1) ls j → ¬ FootT kt' km' ps' j) := fun j hj ht => by
  have h1 := HL2.out.lt hj
  have h2 := HFT.out j ht
  omega
 have HBL : Hid (∀ m ∈ ls, m.b.recs.length ≤ 140737488355328 ∧ TextsOk m.b.recs) := fun m hm => by
  have h1 := batsOk_of HOK.out m.b (List.mem_map.2 ⟨m, hm, rfl⟩)
  exact ⟨h1.2.2, h1.1⟩
 rw [← hw5]
 clear hw5 q4 f4 HX4 HK34 HK45 HK35 HL2 HL3 HT3 HK3 HK2
 have HBA5 : Hid (BatsAt w5 ad len cap ls) := HBAW.out.kept HK5.out HAK.out fun m hm a ha => (HO.out m hm a ha).2
 clear HBAW
 go_wp2
 go_loopw [21] (fun v21 wr => ∃ (j : Nat), v21 = .int .i64 (j : Int) ∧ j ≤ len ∧ Hid (Kept w5 wr (fun j => j = k)) ∧ Hid (McBox wr k c s (.slice ad1 len cap1) kt' (bytesD (bats (ls.take j))))) (fun v21 _ => len - (intOf v21).toNat)
 case atStart => exact ⟨0, rfl, Nat.zero_le _, Kept.refl _ _, HX5.out⟩
 obtain ⟨j, rfl, hj, HKR, HXR⟩ := hrel
 obtain ⟨wo, hwo⟩ := exq wr
 subst hwo
 by_cases hlt : j < len
 rotate_left
 · have hd : decide (j < len) = false := decide_eq_false hlt
   have HFIN : Hid (bytesD (bats (ls.take j)) = bytesD (bats ls)) := by
    show _ = _
    rw [List.take_of_length_le (by rw [HLE.out]; omega)]
   rw [HFIN.out] at HXR
   go_wp2
   go_end0
   refine ⟨rfl, .slice ad1 len cap1, kt', km', ps', ⟨HXR.out, HL5.out.kept HKR.out (fun j hj e => HLF.out j hj e), tc_kept HT5.out HKR.out (fun j hj e => HTK.out j hj e), HPE.out, fun hj => HLF.out k hj rfl, fun hj => HTK.out k hj rfl, HLT.out, HC.out⟩, HK5.out.trans HKR.out fun j hj => .inl hj, HVN.out, fun j hj => Nat.le_trans HW2.out (HFT.out j hj)⟩
 have hd : decide (j < len) = true := decide_eq_true hlt
 have hjl : (j : Int) < (len : Int) := by omega
 obtain ⟨bk, off, m, rfl, hbk, hm, hrec, c0, c1, c2, c3, c4, c5, c6⟩ := (HBA5.out.kept HKR.out HAK.out fun m hm a ha => (HO.out m hm a ha).2).get hlt
 have HM := qh hm
 have HREC := qh hrec
 have HBLM := qh (HBL.out m (List.mem_of_getElem? hm))
 have HTK2 : Hid (bytesD (bats (ls.take (j + 1))) = bytesD (bats (ls.take j)) + sizeB m.b) := by
  show _ = _
  rw [List.take_add_one, hm]
  unfold bats
  rw [List.map_append]
  exact bytesD_snoc _ _
 have HZB : Hid (0 ≤ bytesD (bats (ls.take j)) ∧ bytesD (bats (ls.take j)) ≤ 12020000) := by
  have h1 := bytesD_bd (bats (ls.take j))
  rw [bats_length, List.length_take] at h1
  show _ ∧ _
  omega
 have HSB : Hid (0 ≤ sizeB m.b ∧ sizeB m.b ≤ 2404) := size_bd m.b
 obtain ⟨zj, hzj⟩ := exq (bytesD (bats (ls.take j)))
 obtain ⟨sj, hsj⟩ := exq (sizeB m.b)
 rw [← hzj] at HXR HZB HTK2
 rw [← hsj] at HSB HTK2
 have HSJ := qh hsj
 obtain ⟨zn, hzn⟩ := exq (zj + sj)
 have hwz : IntKind.i64.wrap (zj + sj) = zn := by
  have h1 := HZB.out
  have h2 := HSB.out
  rw [hzn]
  exact wrap_id (by omega) (by omega)
 have HZN : Hid (bytesD (bats (ls.take (j + 1))) = zn) := by show _ = _; rw [HTK2.out, hzn]
 clear hm hrec hbk hzj hsj hzn HTK2 HZB HSB
 go_upto_region 6 with fail
 obtain ⟨W1, hW1⟩ := exq (wo.alloc (.cells #[.int .i64 m.b.base, .int .i64 m.b.prod, .int .i64 m.b.epoch, .int .i64 m.b.seq, .bool m.b.txn, .int .i64 m.b.marker, .slice m.ad m.b.recs.length m.cap] 29))
 have hb1 := wbq hW1
 obtain ⟨K, hK⟩ := exq wo.heap.size
 have HY1 := bxq hW1 hK
 have HXR1 := qh (HXR.out.on hb1)
 have HKR1 : Hid (Kept w5 W1 (fun j => j = k)) := HKR.out.trans (Kept.of_below (F := fun j => j = k) hb1) fun j hj => .inl hj
 have HREC1 := qh (RecsAt.keep HREC.out hb1)
 have HKNE : Hid (k ≠ K) := by show k ≠ K; have := HXR.out.lt; rw [hK]; omega
 rw [← hW1, ← hK]
 clear hW1 hb1 hK c0 c1 c2 c3 c4 c5 c6 HXR HKR HREC
 have KS : Hid (∀ V, Below W1.heap.size W1 V → (fun (V : World) => V.cell? ⟨k, 4, none⟩ = some (.int .i64 zj) ∧ V.cell? ⟨K, 0, none⟩ = some (.int .i64 m.b.base) ∧ V.cell? ⟨K, 1, none⟩ = some (.int .i64 m.b.prod) ∧ V.cell? ⟨K, 2, none⟩ = some (.int .i64 m.b.epoch) ∧ V.cell? ⟨K, 3, none⟩ = some (.int .i64 m.b.seq) ∧ V.cell? ⟨K, 4, none⟩ = some (.bool m.b.txn) ∧ V.cell? ⟨K, 5, none⟩ = some (.int .i64 m.b.marker) ∧ V.cell? ⟨K, 6, none⟩ = some (.slice m.ad m.b.recs.length m.cap)) V) := fun V hV => ⟨(HXR1.out.on hV).c4, (HY1.out.on hV).c0, (HY1.out.on hV).c1, (HY1.out.on hV).c2, (HY1.out.on hV).c3, (HY1.out.on hV).c4, (HY1.out.on hV).c5, (HY1.out.on hV).c6⟩
 refine zs [9] KS fun u0 HU0 hHeld => ?_
 refine zt 0 ?_
 refine zt 1 ?_
 refine zt 2 ?_
 refine zt 3 ?_
 refine zt 4 ?_
 refine zr 5 (fun C hC => ?_)
 go_simp
 refine (batSize_any u0 m.b m.ad m.b.recs.length m.cap (RecsAt.keep HREC1.out HU0.out) HBLM.out.2 HBLM.out.1).mono ?_
 rintro e u1 ⟨rfl, hb⟩
 rw [← HSJ.out]
 have HU1 := qh (HU0.out.trans (hb.mono HU0.out.size))
 clear hb
 have hHeld := KS.out _ HU1.out
 refine zc hC hHeld ?_
 clear hC C
 refine zt 6 ?_
 refine zt 7 ?_
 refine zt 8 ?_
 have q4 := (HXR1.out.on HU1.out).c4
 have f4 := (HXR1.out.on HU1.out).free 4
 refine zr 9 (fun C hC => ?_)
 go_simp
 refine zl hC ?_
 clear hC C
 refine zd ?_
 obtain ⟨u2, hu2⟩ := exq (u1.setCell ⟨k, 4, none⟩ (.int .i64 zn))
 have HXZ : Hid (McBox u2 k c s (.slice ad1 len cap1) kt' zn) := by rw [hu2]; exact (HXR1.out.on HU1.out).s4 _
 have HKZ : Hid (Kept w5 u2 (fun j => j = k)) := by
  show Kept _ _ _
  rw [hu2]
  exact (HKR1.out.trans (Kept.of_below (F := fun j => j = k) HU1.out) fun j hj => .inl hj).trans (Kept.of_grown (F := fun j => j = k) (grow_one _ _ _ _) (.inl rfl)) fun j hj => .inl hj
 rw [← hu2]
 clear hu2 q4 f4 hHeld KS HU0 HU1 HXR1 HKR1 HY1
 clear hwz
 go_wp2
 go_roundw
 case rel => exact ⟨j + 1, rfl, hlt, HKZ.out, by rw [HZN.out]; exact HXZ.out⟩
 simp [intOf]; omega
theorem mcCut_any (F : Nat → Prop) (w : World) (k kt km : Nat) (v : Value) (ms : List BM) (ps : List PM) (c s : Int) (h : McAt w k kt km v ms ps c s) (hF : ∀ j, F j ↔ McFoot k kt km v ms ps j) (hr : LogRow s (bats ms)) (n : Nat) (hn : n ≤ (bats ms).length) :
 Calls Tryz.prog 37 #[.pointer (some ⟨k, 0, none⟩), .int .i64 (n : Int)] w (LTurns McR F w ⟨k, 0, none⟩ c s ((bats ms).take n) (.tuple #[])) := by
 obtain ⟨ad, cap, rfl, hb, hfl⟩ := h.list.at
 rw [bats_length] at hn
 have hf := hr.few
 rw [bats_length] at hf
 obtain ⟨len, hlen⟩ := exq ms.length
 rw [← hlen] at hn hf hb
 have HBX := qh h.box
 rw [← hlen] at HBX
 have hcap := hb.row.fits
 have HTK : Hid (bats (ms.take n) = (bats ms).take n) := by show _ = _; unfold bats; rw [List.map_take]
 have CH : Hid (∀ W, Below w.heap.size w W → Calls Tryz.prog 55 #[.pointer (some ⟨k, 0, none⟩), .slice ad n cap] W (Holds W k c s (ms.take n))) := fun W hW => by
  refine mcHold_any W k kt _ c s _ (h.on hW).box ad n cap (ms.take n) ⟨(hb.keep hW).row.take n hn, fun m hm => (hb.keep hW).ins m (List.mem_of_mem_take hm)⟩ (by omega) ?_ (fun m hm a ha => ?_) (fun a ha e => ?_) h.cap
  · rw [HTK.out]
    exact fun b hb => hr.ok b (List.mem_of_mem_take hb)
  · have hm2 := List.mem_of_mem_take hm
    refine ⟨Nat.lt_of_lt_of_le (h.list.old m hm2 a ha).1 hW.size, fun e => h.kL (.inr ⟨m, hm2, a, ha, e⟩)⟩
  have h1 := hfl a ha
  rw [e] at h1
  exact h.kL h1
 have H := qh h
 have HFL := qh hfl
 have HLEN := qh hlen
 obtain ⟨mn, hmn⟩ : ∃ x : Int, x = (n : Int) := ⟨_, rfl⟩
 clear h hr hb hfl hlen
 go_enter Tryz.func37, Tryz.ntmps37
 have hmx : (if (n : Int) < 0 then (0 : Int) else (n : Int)) = (n : Int) := if_neg (by omega)
 have hmi : min (n : Int) (len : Int) = (n : Int) := by omega
 have hmi2 : min n len = n := by omega
 have hmx2 : max (n : Int) 0 = (n : Int) := by omega
 have hnc : (n : Int) ≤ (cap : Int) := by omega
 have hnn : (0 : Int) ≤ (n : Int) := by omega
 have KS : Hid (∀ V, Below w.heap.size w V → (fun (V : World) => V.cell? ⟨k, 2, none⟩ = some (.slice ad len cap)) V) := fun V hV => (HBX.out.on hV).c2
 refine zs [14] KS fun u0 HU0 hHeld => ?_
 refine zt 0 ?_
 refine zt 1 ?_
 refine zt 2 ?_
 refine zt 3 ?_
 refine zt 4 ?_
 refine zt 5 ?_
 refine zt 6 ?_
 refine zt 7 ?_
 refine zt 8 ?_
 refine zt 9 ?_
 refine zt 10 ?_
 refine zt 11 ?_
 refine zt 12 ?_
 refine zt 13 ?_
 refine zr 14 (fun C hC => ?_)
 go_simp
 refine (CH.out u0 HU0.out).mono ?_
 rintro e u1 ⟨rfl, v', kt', km', ps', hm, hk, hv, ht⟩
 have HM := qh hm
 have HKZ : Hid (Kept w u1 (fun j => j = k)) := (Kept.of_below (F := fun j => j = k) HU0.out).trans hk fun j hj => .inl hj
 have HVN : Hid (∀ j, v'.ownBlock = some j → w.heap.size ≤ j) := fun j hj => Nat.le_trans HU0.out.size (hv j hj)
 have HTN : Hid (∀ j, FootT kt' km' ps' j → w.heap.size ≤ j) := fun j hj => Nat.le_trans HU0.out.size (ht j hj)
 clear hm hk hv ht
 refine zl hC ?_
 clear hC C
 refine zd ?_
 clear hHeld KS HU0
 go_wp2
 go_end0
 refine turns_mk hF (kt' := kt') (km' := km') (ps' := ps') HM.out HTK.out (HKZ.out.more fun j hj => .inl hj) fun j hj => ?_
 rcases hj with h1 | (h1 | ⟨m, hm, a, ha, e⟩) | h1
 · exact .inl (.inl h1)
 · exact .inr (HVN.out j h1)
 · exact .inl (.inr (.inl (.inr ⟨m, List.mem_of_mem_take hm, a, ha, e⟩)))
 exact .inr (HTN.out j h1)
end Go.Proofs.YtjmfdildnojknaaGreat
