/- Parts of a proof, merged: TcApply, ProdFold, TabOpen, TcFold, ShelfK, TcKeys, TcCopy, TcOf, SnNum. -/
import Derived.Shelf.SlIterI.Sorted
import Derived.Shelf.SortM.Plain
import Derived.Shelf.SortM.SortNone
import Derived.Test.YtgohekjkbgfeeaaGreatProg
import Derived.Test.YtgohekjkbgfeeaaGreatKn1
import Derived.Test.YtgohekjkbgfeeaaGreatKn9
import Derived.Test.YtgohekjkbgfeeaaGreatKn8
import Derived.Test.YtgohekjkbgfeeaaGreatKn3
import Derived.Test.YtgohekjkbgfeeaaGreatKn2
namespace Go.Proofs.YtgohekjkbgfeeaaGreat
open Go.RowKit
open Go.SeqMath
open Go.ProdMath
open Go.BatMath hiding AllB take_all
set_option linter.unusedVariables false

theorem insM_mem : ∀ (ms : List PM) (x q : PM), q ∈ insM ms x → q = x ∨ q ∈ ms
 | [], x, q, h => .inl (by simpa [insM] using h)
 | m :: ms, x, q, h => by
   unfold insM at h
   split at h
   · rcases List.mem_cons.1 h with h | h
     · exact .inr (by simp [h])
     · rcases insM_mem ms x q h with h | h
       · exact .inl h
       · exact .inr (by simp [h])
   · split at h
     · rcases List.mem_cons.1 h with h | h
       · exact .inl h
       · exact .inr (by simp [h])
     · rcases List.mem_cons.1 h with h | h
       · exact .inl h
       · exact .inr h
/-- 't.states[id] = x'. -/
theorem tc_put {w : World} {km : Nat} {ms : List PM} (h : TcMap w km ms) (ha : Asc (pds ms)) (mx : PM) (k : Int) (hk : mx.p.id = k) (h0 : -9223372036854775808 ≤ k) (h1 : k ≤ 9223372036854775807) :
 ∃ w', (Instr.mapUpdate 103 (.map (some km)) (.int .i64 k) (.agg #[.int .i64 mx.p.id, .int .i64 mx.p.epoch, .slice mx.ad mx.p.last.length mx.cap, .int .i64 mx.p.opn])).run Tryz.prog w = .ok () w' ∧ TcMap w' km (insM ms mx) ∧ w.grownBy w' (some km) ∧ w'.heap.size = w.heap.size := by
 subst hk
 cases hm : lookM ms mx.p.id with
 | none =>
   have hn := lookM_none hm
   obtain ⟨w', hrun, hmap, hg, hs⟩ := mapAs_put tcMapT keyI h mx (key_int h0 h1) (fun q hq e => hn q hq (by simpa [pmE] using e))
   exact ⟨w', hrun, hmap.perm (insM_new ms mx hn).symm, hg, hs⟩
 | some m0 =>
   obtain ⟨hmem, hid⟩ := lookM_some hm
   obtain ⟨rest, r1, r2⟩ := insM_old ms mx m0 ha hmem hid
   obtain ⟨w', hrun, hmap, hg, hs⟩ := mapAs_set tcMapT keyI (h.perm r1) mx (by show Value.int .i64 m0.p.id = .int .i64 mx.p.id; rw [hid])
   exact ⟨w', hrun, hmap.perm r2.symm, hg, hs⟩
theorem set_other {W : World} {D km j : Nat} (hne : D ≠ km) (u : Value) : (W.setCell ⟨D, j, none⟩ u).heap[km]? = W.heap[km]? := by
 show (W.heap.modify D _)[km]? = _
 rw [Array.getElem?_modify, if_neg hne]
/-- What stands behind the table's Apply. -/
def GivesTcApply (w : World) (kt km : Nat) (l' : List Pd) (r : Option Dr) (e : Ending) (w' : World) : Prop :=
 ∃ d ms, e = .returned (.tuple #[.agg #[.int .i64 d.prod, .int .i64 d.first, .int .i64 d.last], .bool r.isSome]) ∧ r.getD Dr.zero = d ∧ TcOk w' kt km ms ∧ pds ms = l' ∧ w.grownBy w' (some km)
theorem resultsTcApply {tmps : Array Value} {B : Nat} {W : World} {d : Dr} {x : Value} (h : DBox W B d) (ht : tmps.getD 4 undef = .pointer (some ⟨B, 0, none⟩)) (hx : tmps.getD 5 undef = x) :
 (results Tryz.f21 tmps).run Tryz.prog W = .ok (.tuple #[.agg #[.int .i64 d.prod, .int .i64 d.first, .int .i64 d.last], x]) W := by
 rw [results_cell_tmp (p := 4) (u := 5) (ty := 58) Tryz.results21, ht]
 have hl := run_loadVar_row (P := Tryz.prog) W B 58 58 _ (0, 0) _ h Tryz.underlying58 rfl (by kernel_rfl)
 simp only [asAddr, Sem.run_pure, Result.andThen, hl, hx]
/-- What stands ahead of the end. -/
structure TcW (w : World) (km D : Nat) (ms0 ms : List PM) (W : World) : Prop where
 map : TcMap W km ms
 ins : ∀ m ∈ ms, m ∈ ms0 ∨ (LastAt W m ∧ ∀ a, m.ad = some a → a.block ≠ D)
 gr : w.grownBy W (some km)
theorem TcW.on {w W W' : World} {km D : Nat} {ms0 ms : List PM} (h : TcW w km D ms0 ms W) (hb : Below W.heap.size W W') : TcW w km D ms0 ms W' :=
 ⟨h.map.on hb, fun m hm => (h.ins m hm).imp_right fun h2 => ⟨h2.1.keep hb, h2.2⟩, grow_below h.gr hb⟩
theorem gives_tcapply {w W : World} {kt km D : Nat} {ms0 ms : List PM} {l' : List Pd} {r : Option Dr} {d : Dr} {u0 u1 u2 : Value} {ok : Bool} (ht : TcOk w kt km ms0) (hW : TcW w km D ms0 ms W) (hD : w.heap.size ≤ D) (hl : pds ms = l') (hok : r.isSome = ok) (hd : r.getD Dr.zero = d) :
 GivesTcApply w kt km l' r (.returned (.tuple #[.agg #[.int .i64 d.prod, .int .i64 d.first, .int .i64 d.last], .bool ok])) (((W.setCell ⟨D, 0, none⟩ u0).setCell ⟨D, 1, none⟩ u1).setCell ⟨D, 2, none⟩ u2) := by
 subst hok
 have hkm := ht.map.lt
 have hne : D ≠ km := by omega
 have hg : w.grownBy (((W.setCell ⟨D, 0, none⟩ u0).setCell ⟨D, 1, none⟩ u1).setCell ⟨D, 2, none⟩ u2) (some km) := grow_new (grow_new (grow_new hW.gr hD _) hD _) hD _
 refine ⟨d, ms, rfl, hd, ⟨ht.box.past_map hg ht.map.is, hW.map.same ?_, fun m hm => ?_⟩, hl, hg⟩
 · rw [set_other hne, set_other hne, set_other hne]
 · rcases hW.ins m hm with h | ⟨h, h2⟩
   · exact (ht.ins m h).past_map hg ht.map.is
   · exact ((h.off h2 _ _).off h2 _ _).off h2 _ _
set_option maxRecDepth 100000 in
set_option maxHeartbeats 8000000 in
theorem tcApply_any (w : World) (kt km : Nat) (ms : List PM) (h : TcOk w kt km ms) (hasc : Asc (pds ms)) (hfew : fewP (pds ms)) (b : Bat) (rd : Option Addr) (rn rc : Nat) (hr : RecsAt w rd rn rc b.recs) (ht : TextsOk b.recs) (hrn : rn ≤ 140737488355328) (hwf : b.prod ≤ 9223372036854775807) :
 Calls Tryz.prog 21 #[.pointer (some ⟨kt, 0, none⟩), .agg #[.int .i64 b.base, .int .i64 b.prod, .int .i64 b.epoch, .int .i64 b.seq, .bool b.txn, .int .i64 b.marker, .slice rd rn rc]] w (GivesTcApply w kt km (tapplyD (pds ms) b) (tdropD (pds ms) b)) := by
 obtain ⟨b0, b1, b2, b3, b4, b5, recs⟩ := b
 simp only at hr ht hwf
 simp only
 have HT := Lib.hid h
 obtain ⟨W0, hW0⟩ : ∃ W0, W0 = ((w.alloc (.cells #[.int .i64 b0, .int .i64 b1, .int .i64 b2, .int .i64 b3, .bool b4, .int .i64 b5, .slice rd rn rc] 56)).alloc (.cells #[.int .i64 0, .int .i64 0, .int .i64 0] 58)) := ⟨_, rfl⟩
 have HB0 : Hid (Below w.heap.size w W0) := by show Below _ _ _; rw [hW0]; exact ((Below.refl _ _).alloc (Nat.le_refl _) _).alloc (by simp) _
 have HX0 : Hid (BoxAt W0 w.heap.size b0 b1 b2 b3 b4 b5 (.slice rd rn rc)) := by
  show BoxAt _ _ _ _ _ _ _ _ _
  rw [hW0]
  exact (boxAt_new w b0 b1 b2 b3 b4 b5 (.slice rd rn rc)).keep ((Below.refl _ _).alloc (Nat.le_refl _) _) (by simp)
 have HD0 : Hid (DBox W0 (w.heap.size + 1) Dr.zero) := by
  show DBox _ _ _
  rw [hW0]
  have := dbox_new (w.alloc (.cells #[.int .i64 b0, .int .i64 b1, .int .i64 b2, .int .i64 b3, .bool b4, .int .i64 b5, .slice rd rn rc] 56)) Dr.zero
  rw [show (w.alloc (.cells #[.int .i64 b0, .int .i64 b1, .int .i64 b2, .int .i64 b3, .bool b4, .int .i64 b5, .slice rd rn rc] 56)).heap.size = w.heap.size + 1 by simp] at this
  exact this
 have HT0 := Lib.hid (h.keep HB0.out)
 have HRE0 := Lib.hid (hr.keep HB0.out)
 have hrl := hr.length
 have HF := Lib.hid hfew
 have HAS := Lib.hid hasc
 have HTX := Lib.hid ht
 have HW0 := Lib.hid hW0
 clear h hr hfew hW0 ht hasc
 obtain ⟨B, hB⟩ : ∃ B, B = w.heap.size := ⟨_, rfl⟩
 obtain ⟨D, hD⟩ : ∃ D, D = w.heap.size + 1 := ⟨_, rfl⟩
 have HBD : Hid (w.heap.size ≤ B ∧ w.heap.size ≤ D ∧ D ≠ B) := by show _ ∧ _ ∧ _; omega
 rw [← hB] at HX0
 rw [← hD] at HD0
 obtain ⟨l, hl⟩ : ∃ l, l = pds ms := ⟨_, rfl⟩
 obtain ⟨r, hre⟩ : ∃ r, rightE ⟨b0, b1, b2, b3, b4, b5, recs⟩ = r := ⟨_, rfl⟩
 have HRE := Lib.hid hre
 obtain ⟨l', hl'⟩ : ∃ l', tapplyD (pds ms) ⟨b0, b1, b2, b3, b4, b5, recs⟩ = l' := ⟨_, rfl⟩
 obtain ⟨dr, hdr⟩ : ∃ dr, tdropD (pds ms) ⟨b0, b1, b2, b3, b4, b5, recs⟩ = dr := ⟨_, rfl⟩
 rw [hl', hdr]
 have HLP := Lib.hid hl'
 have HDR := Lib.hid hdr
 clear hl' hdr hre
 go_enter Tryz.func21, Tryz.ntmps21
 go_upto_region 1 with fail
 rw [← HW0.out, ← hD, ← hB]
 clear hB hD HW0
 have p0 := HX0.out.c0
 have p1 := HX0.out.c1
 have p2 := HX0.out.c2
 have p3 := HX0.out.c3
 have p4 := HX0.out.c4
 have p5 := HX0.out.c5
 have p6 := HX0.out.c6
 go_wp2_with fail
 have CR := batRight_any W0 ⟨b0, b1, b2, b3, b4, b5, recs⟩ rd rn rc HRE0.out HTX.out hrn
 rw [HRE.out] at CR
 refine CR.mono ?_
 clear CR
 rintro e w1 ⟨rfl, hb1⟩
 have HB1 := Lib.hid (HB0.out.trans (hb1.mono HB0.out.size))
 have HX1 := Lib.hid (HX0.out.on hb1)
 have HD1 := Lib.hid (HD0.out.on hb1)
 have HT1 := Lib.hid (HT0.out.keep hb1)
 clear hb1 HX0 HD0 HT0 p0 p1 p2 p3 p4 p5 p6
 have p1 := HX1.out.c1
 by_cases hz : r = 0 ∧ b1 ≠ -1
 · obtain ⟨hz1, hz2⟩ := hz
   have hd : (r != 0) = false := by rw [hz1]; rfl
   have hd2 : (b1 == -1) = false := beq_false_of_ne hz2
   have HRR : Hid (rightE ⟨b0, b1, b2, b3, b4, b5, recs⟩ = 0) := by show _ = _; rw [HRE.out, hz1]
   have hn0 : 0 ≤ b1 := by
    rcases right_prod HRR.out with h | h
    · exact absurd h hz2
    · exact h
   obtain ⟨p, kn, pd, pn, pc, hp, hk, hn5, hlk, _, hrow⟩ := tc_look ms b1 (by omega) hwf HF.out
   have HLQ : Hid (l' = insD (pds ms) (applyD p kn ⟨b0, b1, b2, b3, b4, b5, recs⟩)) := by
    show _ = _
    rw [← HLP.out, tapply_ins HAS.out _ HRR.out hn0, ← hp, ← hk]
   have HDQ : Hid (dr = if (kn && (decide (b5 = 2) && decide (0 ≤ p.opn))) = true then some ⟨b1, p.opn, b0⟩ else none) := by
    show _ = _
    have h3 := has_look HAS.out b1
    rw [← HDR.out]
    unfold tdropD
    rw [if_neg (by rw [HRR.out]; show ¬ (0 ≠ 0 ∨ b1 < 0); omega)]
    unfold dropsB
    show (if (hasD (pds ms) b1 && (decide (b5 = 2) && decide (0 ≤ (getD (pds ms) b1).opn))) = true then some (⟨b1, (getD (pds ms) b1).opn, b0⟩ : Dr) else none) = _
    rw [h3.1, h3.2, hp, hk]
   have HLK := Lib.hid hlk
   have HRO := Lib.hid hrow
   have KS : Hid (∀ V, Below w1.heap.size w1 V → (fun (V : World) => V.cell? ⟨kt, 0, none⟩ = some (.map (some km)) ∧ V.cell? ⟨B, 1, none⟩ = some (.int .i64 b1) ∧ TcMap V km ms) V) := fun V hV => ⟨(HT1.out.keep hV).box.c0, (HX1.out.on hV).c1, (HT1.out.keep hV).map⟩
   have hdrw : Below w1.heap.size w1 w1.drew := (Below.refl _ w1).drew
   clear hz1 hz2 hp hk hlk hrow HLP HDR
   obtain ⟨pid, pep, pl, po⟩ := p
   simp only at HLQ HDQ HLK HRO
   go_upto_region 3 with fail
   clear p1
   refine wp_region_noPanic ?_
   refine wp_region_z [] (fun (V : World) => V.cell? ⟨kt, 0, none⟩ = some (.map (some km)) ∧ V.cell? ⟨B, 1, none⟩ = some (.int .i64 b1) ∧ TcMap V km ms) (by kernel_rfl) ?_
   have hHeld := KS.out _ hdrw
   obtain ⟨u0, hu0⟩ : ∃ u, u = w1.drew := ⟨_, rfl⟩
   rw [← hu0] at hHeld hdrw
   rw [← hu0]
   clear hu0
   have HU0 := Lib.hid hdrw
   clear hdrw
   refine zt 0 ?_
   refine zt 1 ?_
   refine zt 2 ?_
   refine zt 3 ?_
   refine zt 4 ?_
   refine zt 5 ?_
   refine wpAnyZ_take (i := 6) (oi := ⟨_, _, _, _, _, _⟩) (v := ?_) rfl (by kernel_rfl) (by kernel_rfl) (by kernel_rfl) (by kernel_rfl) (by kernel_rfl) (fun _ _ _ h => h) (Or.inl ⟨by rfl, ?_⟩) (by assumption) ?_
   rotate_left
   · intro W hSw
     (try dsimp only at hSw)
     have hlk := HLK.out W km hSw.2.2
     go_simp
     (try with_reducible rfl)
   (try simp only [Act.put, List.setIfInBounds_toArray, List.set_cons_zero, List.set_cons_succ])
   refine zt 7 ?_
   refine zt 8 ?_
   refine zt 9 ?_
   refine zr 10 (fun C hC => ?_)
   go_simp
   obtain ⟨u1, hu1⟩ : ∃ z, z = u0.alloc (.cells #[.int .i64 0, .int .i64 0, .slice none 0 0, .int .i64 0] 78) := ⟨_, rfl⟩
   obtain ⟨P, hP⟩ : ∃ z, z = u0.heap.size := ⟨_, rfl⟩
   have HP1 : Hid (PBox u1 P 0 0 (.slice none 0 0) 0) := by show PBox _ _ _ _ _ _; rw [hu1, hP]; exact pbox_new u0 _ _ _ _
   have HU1 : Hid (Below w1.heap.size w1 u1) := by show Below _ _ _; rw [hu1]; exact HU0.out.trans ((Below.refl _ _).alloc HU0.out.size _)
   have HPW : Hid (w1.heap.size ≤ P) := by show _ ≤ _; rw [hP]; exact HU0.out.size
   try rw [← hu1, ← hP]
   clear hu1 hP
   have hHeld := KS.out _ HU1.out
   refine zc hC hHeld ?_
   clear hC C
   have r0 := HP1.out.c0
   have r1 := HP1.out.c1
   have r2 := HP1.out.c2
   have r3 := HP1.out.c3
   have f0 := HP1.out.free 0
   have f1 := HP1.out.free 1
   have f2 := HP1.out.free 2
   have f3 := HP1.out.free 3
   refine zr 11 (fun C hC => ?_)
   go_simp
   obtain ⟨u2, hu2⟩ : ∃ z, z = (((u1.setCell ⟨P, 0, none⟩ (.int .i64 pid)).setCell ⟨P, 1, none⟩ (.int .i64 pep)).setCell ⟨P, 2, none⟩ (.slice pd pn pc)).setCell ⟨P, 3, none⟩ (.int .i64 po) := ⟨_, rfl⟩
   have HP2 : Hid (PBox u2 P pid pep (.slice pd pn pc) po) := by show PBox _ _ _ _ _ _; rw [hu2]; exact (((HP1.out.s0 pid).s1 pep).s2 (.slice pd pn pc)).s3 po
   have HU2 : Hid (Below w1.heap.size w1 u2) := by show Below _ _ _; rw [hu2]; exact (((HU1.out.setCell HPW.out _).setCell HPW.out _).setCell HPW.out _).setCell HPW.out _
   try rw [← hu2]
   clear hu2 r0 r1 r2 r3 f0 f1 f2 f3 HP1
   have hHeld := KS.out _ HU2.out
   refine zc hC hHeld ?_
   clear hC C
   refine zt 12 ?_
   refine wpAnyZ_done (by kernel_rfl) ?_ _
   refine NoPanic.normal ?_
   clear hHeld KS HU0 HU1
   have HB2 := Lib.hid (HB1.out.trans (HU2.out.mono HB1.out.size))
   have HX2 := Lib.hid (HX1.out.on HU2.out)
   have HD2 := Lib.hid (HD1.out.on HU2.out)
   have HT2 := Lib.hid (HT1.out.keep HU2.out)
   have HRW2 := Lib.hid (HRO.out u2 HT2.out.ins)
   have HPB : Hid (w.heap.size ≤ P) := Nat.le_trans HB1.out.size HPW.out
   have HPD : Hid (P ≠ D ∧ P ≠ B) := by
    have h1 := HD1.out.lt
    have h2 := HX1.out.lt
    have h3 := HPW.out
    show _ ∧ _
    omega
   obtain ⟨x, hx⟩ : ∃ x, applyD ⟨pid, pep, pl, po⟩ kn ⟨b0, b1, b2, b3, b4, b5, recs⟩ = x := ⟨_, rfl⟩
   have HAP := Lib.hid hx
   have hxid : x.id = b1 := by rw [← hx, apply_id]
   have HXI := Lib.hid hxid
   clear hx hxid HX1 HD1 HT1 HU2 HPW HRO HLK
   have KS : Hid (∀ V, Below u2.heap.size u2 V → (fun (V : World) => V.cell? ⟨kt, 0, none⟩ = some (.map (some km)) ∧ V.cell? ⟨P, 0, none⟩ = some (.int .i64 pid) ∧ V.cell? ⟨P, 1, none⟩ = some (.int .i64 pep) ∧ V.cell? ⟨P, 2, none⟩ = some (.slice pd pn pc) ∧ V.cell? ⟨P, 3, none⟩ = some (.int .i64 po) ∧ V.cell? ⟨B, 0, none⟩ = some (.int .i64 b0) ∧ V.cell? ⟨B, 1, none⟩ = some (.int .i64 b1) ∧ V.cell? ⟨B, 2, none⟩ = some (.int .i64 b2) ∧ V.cell? ⟨B, 3, none⟩ = some (.int .i64 b3) ∧ V.cell? ⟨B, 4, none⟩ = some (.bool b4) ∧ V.cell? ⟨B, 5, none⟩ = some (.int .i64 b5) ∧ V.cell? ⟨B, 6, none⟩ = some (.slice rd rn rc)) V) := fun V hV => ⟨(HT2.out.keep hV).box.c0, (HP2.out.on hV).c0, (HP2.out.on hV).c1, (HP2.out.on hV).c2, (HP2.out.on hV).c3, (HX2.out.on hV).c0, (HX2.out.on hV).c1, (HX2.out.on hV).c2, (HX2.out.on hV).c3, (HX2.out.on hV).c4, (HX2.out.on hV).c5, (HX2.out.on hV).c6⟩
   have hdrw : Below u2.heap.size u2 u2.drew := (Below.refl _ u2).drew
   go_upto_region 4 with fail
   refine wp_region_noPanic ?_
   refine wp_region_z [10] (fun (V : World) => V.cell? ⟨kt, 0, none⟩ = some (.map (some km)) ∧ V.cell? ⟨P, 0, none⟩ = some (.int .i64 pid) ∧ V.cell? ⟨P, 1, none⟩ = some (.int .i64 pep) ∧ V.cell? ⟨P, 2, none⟩ = some (.slice pd pn pc) ∧ V.cell? ⟨P, 3, none⟩ = some (.int .i64 po) ∧ V.cell? ⟨B, 0, none⟩ = some (.int .i64 b0) ∧ V.cell? ⟨B, 1, none⟩ = some (.int .i64 b1) ∧ V.cell? ⟨B, 2, none⟩ = some (.int .i64 b2) ∧ V.cell? ⟨B, 3, none⟩ = some (.int .i64 b3) ∧ V.cell? ⟨B, 4, none⟩ = some (.bool b4) ∧ V.cell? ⟨B, 5, none⟩ = some (.int .i64 b5) ∧ V.cell? ⟨B, 6, none⟩ = some (.slice rd rn rc)) (by kernel_rfl) ?_
   have hHeld := KS.out _ hdrw
   obtain ⟨u3, hu3⟩ : ∃ u, u = u2.drew := ⟨_, rfl⟩
   rw [← hu3] at hHeld hdrw
   rw [← hu3]
   clear hu3
   have HU3 := Lib.hid hdrw
   clear hdrw
   refine zt 0 ?_
   refine zt 1 ?_
   refine zt 2 ?_
   refine zt 3 ?_
   refine zt 4 ?_
   refine zt 5 ?_
   refine zt 6 ?_
   refine zt 7 ?_
   refine zt 8 ?_
   refine zr 9 (fun C hC => ?_)
   go_simp
   refine (prApply_any u3 pid pep po pl pd pn pc (HRW2.out.keep HU3.out) (by omega) kn b0 b1 b2 b3 b4 b5 recs rd rn rc hrl hrn x HAP.out).mono ?_
   rintro e u4 ⟨xd, xn, xc, rfl, hxr, hxk, hb4⟩
   have hxn := hxr.length
   have HU4 := Lib.hid (HU3.out.trans (hb4.mono HU3.out.size))
   have HXR4 := Lib.hid hxr
   have HXK : Hid (∀ a, xd = some a → u2.heap.size ≤ a.block) := fun a ha => Nat.le_trans HU3.out.size (hxk a ha).1
   clear hb4 hxr hxk
   have hHeld := KS.out _ HU4.out
   refine zc hC hHeld ?_
   clear hC C
   have hT4 := HT2.out.keep HU4.out
   obtain ⟨u5, hput, hmap5, hg5, hs5⟩ := tc_put hT4.map HAS.out ⟨x, xd, xc⟩ b1 HXI.out (by omega) hwf
   simp only at hput
   rw [hxn] at hput
   have HXN := Lib.hid hxn
   have hkm := HT.out.map.lt
   have HKM : Hid (km ≠ D ∧ km ≠ B ∧ km ≠ P) := by
    have h1 := HBD.out
    have h2 := HPB.out
    show _ ∧ _ ∧ _
    omega
   have HD5 : Hid (DBox u5 D Dr.zero) := (HD2.out.on HU4.out).grown hg5 fun e => HKM.out.1 (Option.some.inj e)
   have HX5 : Hid (BoxAt u5 B b0 b1 b2 b3 b4 b5 (.slice rd rn rc)) := (HX2.out.on HU4.out).grows hg5 fun e => HKM.out.2.1 (Option.some.inj e)
   have HP5 : Hid (PBox u5 P pid pep (.slice pd pn pc) po) := (HP2.out.on HU4.out).grown hg5 fun e => HKM.out.2.2 (Option.some.inj e)
   have HW5 : Hid (TcW w km D ms (insM ms ⟨x, xd, xc⟩) u5) := by
    refine ⟨hmap5, fun m hm => ?_, grow_trans (grow_below (grow_refl w _) (HB2.out.trans (HU4.out.mono HB2.out.size))) hg5⟩
    rcases insM_mem _ _ _ hm with rfl | hm
    · refine .inr ⟨?_, fun a ha e => ?_⟩
      · have h1 := HXR4.out.past_map hg5 hT4.map.is
        show RowAt trK u5 xd x.last.length xc x.last
        rw [HXN.out]
        exact h1
      · have h1 := HXK.out a ha
        have h2 := HD2.out.lt
        omega
    · exact .inl hm
   have HPL : Hid (pds (insM ms ⟨x, xd, xc⟩) = l') := by show _ = _; rw [insM_pds, HLQ.out, HAP.out]
   clear hT4 hmap5 hg5 hs5 hxn hkm
   refine zr 10 (fun C hC => ?_)
   go_simp
   refine hC.out _ _ (zfree_no (by kernel_rfl)) (fun _ => ?_)
   clear hC C
   (try simp only [Act.put, List.setIfInBounds_toArray, List.set_cons_zero, List.set_cons_succ])
   refine wpAnyZ_done (by kernel_rfl) ?_ _
   refine NoPanic.normal ?_
   clear hHeld KS hput
   clear HT2 HRW2 HF HAS HRE0 HTX HB0 HB1 HB2 HX2 HD2 HP2
   have r0 := HD5.out.c0
   have r1 := HD5.out.c1
   have r2 := HD5.out.c2
   have f0 := HD5.out.free 0
   have f1 := HD5.out.free 1
   have f2 := HD5.out.free 2
   have p5 := HX5.out.c5
   have hDw : w.heap.size ≤ D := HBD.out.2.1
   by_cases hm : b5 = 2
   · have hd5 : (b5 != 2) = false := by rw [hm]; rfl
     cases kn
     · have HDN : Hid (dr = none) := by show _ = _; rw [HDQ.out]; rfl
       clear HDQ HLQ hm
       go_wp2
       exact bodyPost_ret (v := .tuple #[.agg #[.int .i64 0, .int .i64 0, .int .i64 0], .bool false]) (resultsTcApply (HD5.out.s 0 0 0) rfl rfl) rfl (gives_tcapply (d := ⟨0, 0, 0⟩) HT.out HW5.out hDw HPL.out (by rw [HDN.out]; rfl) (by rw [HDN.out]; rfl))
     · have q0 := HP5.out.c0
       have q1 := HP5.out.c1
       have q2 := HP5.out.c2
       have q3 := HP5.out.c3
       by_cases ho : 0 ≤ po
       · have HDN : Hid (dr = some ⟨b1, po, b0⟩) := by show _ = _; rw [HDQ.out, if_pos (by simp [hm, ho])]
         have HO : Hid (decide (0 ≤ po) = true) := decide_eq_true ho
         clear HDQ HLQ hm ho
         go_wp2_with fail
         refine (tcOpen_any u5 pid pep po pd pn pc true HO.out).mono ?_
         rintro e w6 ⟨rfl, hb6⟩
         have HD6 := Lib.hid (HD5.out.on hb6)
         have HX6 := Lib.hid (HX5.out.on hb6)
         have HP6 := Lib.hid (HP5.out.on hb6)
         have HW6 := Lib.hid (HW5.out.on hb6)
         clear hb6 HD5 HX5 HP5 HW5 r0 r1 r2 f0 f1 f2 p5 q0 q1 q2 q3
         have r0 := HD6.out.c0
         have r1 := HD6.out.c1
         have r2 := HD6.out.c2
         have f0 := HD6.out.free 0
         have f1 := HD6.out.free 1
         have f2 := HD6.out.free 2
         have p0 := HX6.out.c0
         have p1 := HX6.out.c1
         have q3 := HP6.out.c3
         go_wp2
         exact bodyPost_ret (v := .tuple #[.agg #[.int .i64 b1, .int .i64 po, .int .i64 b0], .bool true]) (resultsTcApply (HD6.out.s b1 po b0) rfl rfl) rfl (gives_tcapply (d := ⟨b1, po, b0⟩) HT.out HW6.out hDw HPL.out (by rw [HDN.out]; rfl) (by rw [HDN.out]; rfl))
       · have HDN : Hid (dr = none) := by show _ = _; rw [HDQ.out, if_neg (by simp [ho])]
         have HO : Hid (decide (0 ≤ po) = false) := decide_eq_false ho
         clear HDQ HLQ hm ho
         go_wp2_with fail
         refine (tcOpen_any u5 pid pep po pd pn pc false HO.out).mono ?_
         rintro e w6 ⟨rfl, hb6⟩
         have HD6 := Lib.hid (HD5.out.on hb6)
         have HW6 := Lib.hid (HW5.out.on hb6)
         clear hb6 HD5 HX5 HP5 HW5 r0 r1 r2 f0 f1 f2 p5 q0 q1 q2 q3
         have r0 := HD6.out.c0
         have r1 := HD6.out.c1
         have r2 := HD6.out.c2
         have f0 := HD6.out.free 0
         have f1 := HD6.out.free 1
         have f2 := HD6.out.free 2
         go_wp2
         exact bodyPost_ret (v := .tuple #[.agg #[.int .i64 0, .int .i64 0, .int .i64 0], .bool false]) (resultsTcApply (HD6.out.s 0 0 0) rfl rfl) rfl (gives_tcapply (d := ⟨0, 0, 0⟩) HT.out HW6.out hDw HPL.out (by rw [HDN.out]; rfl) (by rw [HDN.out]; rfl))
   · have hd5 : (b5 != 2) = true := by simp [hm]
     have HDN : Hid (dr = none) := by show _ = _; rw [HDQ.out, if_neg (by simp [hm])]
     clear HDQ HLQ hm
     go_wp2
     exact bodyPost_ret (v := .tuple #[.agg #[.int .i64 0, .int .i64 0, .int .i64 0], .bool false]) (resultsTcApply (HD5.out.s 0 0 0) rfl rfl) rfl (gives_tcapply (d := ⟨0, 0, 0⟩) HT.out HW5.out hDw HPL.out (by rw [HDN.out]; rfl) (by rw [HDN.out]; rfl))
 · have hor : rightE ⟨b0, b1, b2, b3, b4, b5, recs⟩ ≠ 0 ∨ (⟨b0, b1, b2, b3, b4, b5, recs⟩ : Bat).prod < 0 := by
    rw [HRE.out]
    show r ≠ 0 ∨ b1 < 0
    omega
   have HLN : Hid (pds ms = l') := by show _ = _; rw [← HLP.out, tapply_no hor]
   have HDN : Hid (dr = none) := by
    show _ = _
    rw [← HDR.out]
    unfold tdropD
    rw [if_pos hor]
   have HW1 : Hid (TcW w km D ms ms w1) := ⟨HT1.out.map, fun m hm => .inl hm, grow_below (grow_refl w _) HB1.out⟩
   have r0 := HD1.out.c0
   have r1 := HD1.out.c1
   have r2 := HD1.out.c2
   have f0 := HD1.out.free 0
   have f1 := HD1.out.free 1
   have f2 := HD1.out.free 2
   have hDw : w.heap.size ≤ D := HBD.out.2.1
   clear hor
   by_cases hz1 : r = 0
   · have hd : (r != 0) = false := by rw [hz1]; rfl
     have hn : b1 = -1 := Classical.byContradiction fun h => hz ⟨hz1, h⟩
     have hd2 : (b1 == -1) = true := by rw [hn]; rfl
     clear hz hz1 hn
     go_wp2
     exact bodyPost_ret (v := .tuple #[.agg #[.int .i64 0, .int .i64 0, .int .i64 0], .bool false]) (resultsTcApply (HD1.out.s 0 0 0) rfl rfl) rfl (gives_tcapply (d := ⟨0, 0, 0⟩) HT.out HW1.out hDw HLN.out (by rw [HDN.out]; rfl) (by rw [HDN.out]; rfl))
   · have hd : (r != 0) = true := by simp [hz1]
     clear hz hz1
     go_wp2
     exact bodyPost_ret (v := .tuple #[.agg #[.int .i64 0, .int .i64 0, .int .i64 0], .bool false]) (resultsTcApply (HD1.out.s 0 0 0) rfl rfl) rfl (gives_tcapply (d := ⟨0, 0, 0⟩) HT.out HW1.out hDw HLN.out (by rw [HDN.out]; rfl) (by rw [HDN.out]; rfl))
end Go.Proofs.YtgohekjkbgfeeaaGreat
namespace Go.Proofs.YtgohekjkbgfeeaaGreat
open Go.RowKit
open Go.SeqMath
open Go.ProdMath
open Go.BatMath hiding AllB take_all
set_option linter.unusedVariables false

def bats (ms : List BM) : List Bat := ms.map (·.b)
/-- Batches whose numbers and texts are such. -/
def BatsOk (bs : List Bat) : Prop := ∀ b ∈ bs, TextsOk b.recs ∧ b.prod ≤ 9223372036854775807 ∧ b.recs.length ≤ 140737488355328
def GivesFold (w : World) (bs : List Bat) (e : Ending) (w' : World) : Prop :=
 ∃ kt ad len cap ps dd dn dc, e = .returned (.tuple #[.pointer (some ⟨kt, 0, none⟩), .slice dd dn dc]) ∧ TabOk w' kt ad len cap ps ∧ pds ps = foldP [] bs ∧ RowAt drK w' dd dn dc (foldR [] bs) ∧ w.heap.size ≤ kt ∧ Below w.heap.size w w'
/-- The list under way lies in no block of the table's. -/
def Sep (u : Value) (ad : Option Addr) (ps : List PM) : Prop := ∀ k, u.ownBlock = some k → (∀ a, ad = some a → a.block ≠ k) ∧ ∀ m ∈ ps, ∀ a, m.ad = some a → a.block ≠ k
theorem TabOk.grown {w w' : World} {kt : Nat} {ad : Option Addr} {len cap : Nat} {ms : List PM} {u : Value} (h : TabOk w kt ad len cap ms) (hg : w.grownBy w' u.ownBlock) (hs : Sep u ad ms) (hk : ∀ k, u.ownBlock = some k → k ≠ kt) : TabOk w' kt ad len cap ms := by
 refine ⟨⟨h.tab.box.grown hg fun e => hk _ e rfl, h.tab.pds.row.grown hg fun a ha e => (hs _ e.symm).1 a ha rfl, fun m hm => (h.tab.pds.ins m hm).grown hg fun a ha e => (hs _ e.symm).2 m hm a ha rfl⟩, fun a ha => ⟨(h.row a ha).1, Nat.lt_of_lt_of_le (h.row a ha).2 hg.size⟩, fun m hm a ha => ⟨(h.ins m hm a ha).1, Nat.lt_of_lt_of_le (h.ins m hm a ha).2 hg.size⟩⟩
def FoldLoop (w : World) (bs : List Bat) (j : Nat) (v5 : Value) (wr : World) : Prop :=
 ∃ u ad len cap ps, u = v5 ∧ TabOk wr w.heap.size ad len cap ps ∧ pds ps = foldP [] (bs.take j) ∧ OwnRow drK wr (w.heap.size + 1) u (foldR [] (bs.take j)) ∧ Below w.heap.size w wr ∧ Sep u ad ps
theorem foldR_len : ∀ (l : List Pd) (bs : List Bat), (foldR l bs).length ≤ bs.length
 | l, [] => by simp [foldR]
 | l, b :: bs => by
   have := foldR_len (tapplyD l b) bs
   show ((tdropD l b).toList ++ foldR (tapplyD l b) bs).length ≤ _
   rw [List.length_append, List.length_cons]
   have h2 : (tdropD l b).toList.length ≤ 1 := by cases tdropD l b <;> simp
   omega
set_option maxRecDepth 100000 in
set_option maxHeartbeats 4000000 in
theorem fold_any (w : World) (ad : Option Addr) (len cap : Nat) (ms : List BM) (h : BatsAt w ad len cap ms) (hL : len ≤ 100000) (hok : BatsOk (bats ms)) :
 Calls Tryz.prog 10 #[.slice ad len cap] w (GivesFold w (bats ms)) := by
 have H := Lib.hid h
 have hlen := h.row.length
 obtain ⟨bs, hbs⟩ : ∃ bs, bs = bats ms := ⟨_, rfl⟩
 have hbl : bs.length = len := by rw [hbs]; unfold bats; rw [List.length_map]; exact hlen
 have HGET : Hid (∀ (i : Nat) m, ms[i]? = some m → bs[i]? = some m.b) := by
  intro i m hm
  rw [hbs]; unfold bats
  rw [List.getElem?_map, hm]; rfl
 rw [← hbs] at hok
 rw [← hbs]
 have HOK := Lib.hid hok
 clear h hbs hlen hok
 go_enter Tryz.func10, Tryz.ntmps10
 go_wp2
 go_loopw [5, 14] (fun v5 v14 wr => ∃ j : Nat, v14 = .int .i64 (j : Int) ∧ j ≤ len ∧ FoldLoop w bs j v5 wr) (fun _ v14 _ => len - (intOf v14).toNat)
 case atStart =>
  refine ⟨0, rfl, Nat.zero_le _, _, none, 0, 0, [], rfl, ⟨⟨heap_alloc_new w _, rowAt_nil _, fun m hm => by cases hm⟩, fun a ha => (by cases ha), fun m hm => by cases hm⟩, rfl, ownRow_nil _ _ _, (Below.refl _ _).alloc (Nat.le_refl _) _, fun k hk => by cases hk⟩
 case round =>
  obtain ⟨j, rfl, hj, u, tad, tlen, tcap, ps, rfl, htab, hps, hown, hbel, hsep⟩ := hrel
  have HSP := Lib.hid hsep
  have HT := Lib.hid htab
  have HPS := Lib.hid hps
  have HO := Lib.hid hown
  have HB := Lib.hid hbel
  clear htab hps hown hbel hsep
  obtain ⟨wo, hwo⟩ : ∃ wo : World, wo = wr := ⟨_, rfl⟩
  subst hwo
  by_cases hlt : j < len
  · have hd : decide (j < len) = true := decide_eq_true hlt
    have hjl : (j : Int) < (len : Int) := by omega
    obtain ⟨bk, off, m, rfl, hbk, hm, hrec, c0, c1, c2, c3, c4, c5, c6⟩ := (H.out.keep HB.out).get hlt
    have hbm := HGET.out j m hm
    have htk : bs.take (j + 1) = bs.take j ++ [m.b] := by
     rw [List.take_add_one, hbm]; rfl
    have HTK := Lib.hid htk
    obtain ⟨hk1, hk2, hk3⟩ := HOK.out m.b (List.mem_of_getElem? hbm)
    have HK1 := Lib.hid hk1
    have hpl : tlen ≤ 1000000 := by
     have h1 := foldP_len [] (bs.take j)
     have h2 := HT.out.tab.pds.row.length
     have h3 : (pds ps).length = ps.length := by unfold pds; rw [List.length_map]
     rw [← HPS.out, h3, List.length_take] at h1
     simp at h1
     omega
    have HFEW : Hid (fewP (pds ps)) := by show fewP _; rw [HPS.out]; exact foldP_few _ (fun p hp => by cases hp)
    have HRC := Lib.hid hrec
    clear hbm htk hk1 hm hrec hbk
    go_upto_region 6 with fail
    obtain ⟨W1, hW1⟩ : ∃ W1, W1 = wo.alloc (.cells #[.int .i64 m.b.base, .int .i64 m.b.prod, .int .i64 m.b.epoch, .int .i64 m.b.seq, .bool m.b.txn, .int .i64 m.b.marker, .slice m.ad m.b.recs.length m.cap] 56) := ⟨_, rfl⟩
    have hb1 : Below wo.heap.size wo W1 := by rw [hW1]; exact (Below.refl _ _).alloc (Nat.le_refl _) _
    obtain ⟨K, hK⟩ : ∃ K, K = wo.heap.size := ⟨_, rfl⟩
    have HX1 : Hid (BoxAt W1 K m.b.base m.b.prod m.b.epoch m.b.seq m.b.txn m.b.marker (.slice m.ad m.b.recs.length m.cap)) := by show BoxAt _ _ _ _ _ _ _ _ _; rw [hW1, hK]; exact boxAt_new wo _ _ _ _ _ _ _
    have HT1 := Lib.hid (HT.out.keep hb1)
    have HO1 := Lib.hid (HO.out.on hb1)
    have HB1 := Lib.hid (HB.out.trans (hb1.mono HB.out.size))
    have HRC1 := Lib.hid (HRC.out.keep hb1)
    rw [← hW1, ← hK]
    clear hW1 hb1 hK c0 c1 c2 c3 c4 c5 c6
    have p0 := HX1.out.c0
    have p1 := HX1.out.c1
    have p2 := HX1.out.c2
    have p3 := HX1.out.c3
    have p4 := HX1.out.c4
    have p5 := HX1.out.c5
    have p6 := HX1.out.c6
    obtain ⟨l', hl'⟩ : ∃ l', tapplyD (pds ps) m.b = l' := ⟨_, rfl⟩
    obtain ⟨dr, hdr⟩ : ∃ dr, tdropD (pds ps) m.b = dr := ⟨_, rfl⟩
    have CA := tabApply_any W1 w.heap.size tad tlen tcap ps HT1.out hpl m.b m.ad m.b.recs.length m.cap HRC1.out HK1.out hk3 hk2 HFEW.out
    rw [hl', hdr] at CA
    have CAH := Lib.hid CA
    have HP2 : Hid (l' = foldP [] (bs.take (j + 1))) := by show _ = _; rw [HTK.out, foldP_snoc, ← HPS.out, hl']
    have HR2 : Hid (foldR [] (bs.take (j + 1)) = foldR [] (bs.take j) ++ dr.toList) := by show _ = _; rw [HTK.out, foldR_snoc, ← HPS.out, hdr]
    have hrl : (foldR [] (bs.take j)).length ≤ j := by have := foldR_len [] (bs.take j); rw [List.length_take] at this; omega
    obtain ⟨lr, hlr⟩ : ∃ lr, foldR [] (bs.take j) = lr := ⟨_, rfl⟩
    rw [hlr] at hrl HO1 HR2
    clear CA hl' hdr hlr HPS HTK HFEW HK1
    go_wp2_with fail
    refine CAH.out.mono ?_
    rintro e w2 ⟨d, tad2, tlen2, tcap2, ps2, rfl, hdd, ht2, hp2, hg2, hfa2, hfi2⟩
    have HSP2 : Hid (Sep u tad2 ps2) := by
     intro k hk
     have hkl := (HO1.out.lt k hk).2
     refine ⟨fun a ha => ?_, fun m hm a ha => ?_⟩
     · rcases hfa2 a ha with h1 | h1
       · exact (HSP.out k hk).1 a h1
       · omega
     · rcases hfi2 m hm with h1 | h1
       · exact (HSP.out k hk).2 m h1 a ha
       · have := h1 a ha; omega
    have HT2 := Lib.hid ht2
    have HP3 : Hid (pds ps2 = foldP [] (bs.take (j + 1))) := by show _ = _; rw [hp2, HP2.out]
    have HO2 := Lib.hid (HO1.out.grown hg2 (fun k hk e => by have := (HO1.out.lt k hk).1; cases e; omega))
    have HB2 : Hid (Below w.heap.size w w2) := HB1.out.trans (below_grown hg2 (Nat.le_refl _) HB1.out.size)
    have HDD := Lib.hid hdd
    clear ht2 hp2 hg2 hfa2 hfi2 HSP CAH p0 p1 p2 p3 p4 p5 p6 HT1 HO1 HX1 HP2 hdd
    go_upto_region 7 with fail
    obtain ⟨W3, hW3⟩ : ∃ W3, W3 = w2.alloc (.cells #[.int .i64 d.prod, .int .i64 d.first, .int .i64 d.last] 58) := ⟨_, rfl⟩
    have hb3 : Below w2.heap.size w2 W3 := by rw [hW3]; exact (Below.refl _ _).alloc (Nat.le_refl _) _
    obtain ⟨Q, hQ⟩ : ∃ Q, Q = w2.heap.size := ⟨_, rfl⟩
    have HD3 : Hid (DBox W3 Q d) := by show DBox _ _ _; rw [hW3, hQ]; exact dbox_new w2 d
    have HT3 := Lib.hid (HT2.out.keep hb3)
    have HO3 := Lib.hid (HO2.out.on hb3)
    have HB3 := Lib.hid (HB2.out.trans (hb3.mono HB2.out.size))
    rw [← hW3, ← hQ]
    clear hW3 hb3 hQ HT2 HO2 HB2
    have d0 := HD3.out.c0
    have d1 := HD3.out.c1
    have d2 := HD3.out.c2
    cases dr with
    | none =>
      have HR4 : Hid (foldR [] (bs.take (j + 1)) = lr) := by show _ = _; rw [HR2.out]; simp
      simp only [Option.isSome_none]
      go_wp2
      go_roundw
      case rel => exact ⟨j + 1, by go_num, by omega, _, tad2, tlen2, tcap2, ps2, rfl, HT3.out, HP3.out, by rw [HR4.out]; exact HO3.out, HB3.out, HSP2.out⟩
      case measure => simp [intOf]; omega
    | some x =>
      have hxd : x = d := HDD.out
      subst hxd
      have HR4 : Hid (foldR [] (bs.take (j + 1)) = lr ++ [x]) := by show _ = _; rw [HR2.out]; rfl
      simp only [Option.isSome_some]
      have HBA : Hid (Below w.heap.size w (W3.alloc (.cells #[.int .i64 x.prod, .int .i64 x.first, .int .i64 x.last] 58))) := HB3.out.alloc HB3.out.size _
      have HRX : Hid (RowAt drK (W3.alloc (.cells #[.int .i64 x.prod, .int .i64 x.first, .int .i64 x.last] 58)) (some ⟨W3.heap.size, 0, none⟩) 1 1 [x]) := rowAt_lit drK_ok W3 [x] (by simp) _ rfl 1 rfl
      have hwl : w.heap.size + 1 ≤ W3.heap.size := HT3.out.tab.box.lt
      go_wp2_with (at_builtin; refine list_row (by rfl) drK_ok (.tmp 25) (.tmp 27) rfl (w.heap.size + 1) lr [x] _ rfl (HO3.out.alloc _) (by simp; omega) (some ⟨W3.heap.size, 0, none⟩) 1 1 rfl HRX.out (by omega) ?_)
      intro v4 w4 hap
      have HO4 := Lib.hid hap.1
      have hg34 : W3.grownBy w4 u.ownBlock := grow_trans (World.grownBy_alloc W3 _ _) hap.2.1
      have hub : ∀ k, u.ownBlock = some k → w.heap.size < k := fun k hk => by have := (HO3.out.lt k hk).1; omega
      have HB4 : Hid (Below w.heap.size w w4) := HBA.out.grown hap.2.1 HBA.out.size fun k hk => Nat.le_of_lt (hub k hk)
      have HT4 : Hid (TabOk w4 w.heap.size tad2 tlen2 tcap2 ps2) := HT3.out.grown hg34 HSP2.out (fun k hk => by have := hub k hk; omega)
      have HSP4 : Hid (Sep v4 tad2 ps2) := by
       intro k hk
       rcases hap.2.2.2 k hk with h1 | h1
       · exact HSP2.out k h1
       · have h1 : W3.heap.size + 1 ≤ k := by simpa using h1
         exact ⟨fun a ha => by have := (HT3.out.row a ha).2; omega, fun m hm a ha => by have := (HT3.out.ins m hm a ha).2; omega⟩
      clear hap hg34 hub HBA HRX HT3 HO3 HB3
      go_wp2
      go_roundw
      case rel => exact ⟨j + 1, by go_num, by omega, _, tad2, tlen2, tcap2, ps2, rfl, HT4.out, HP3.out, by rw [HR4.out]; exact HO4.out, HB4.out, HSP4.out⟩
      case measure => simp [intOf]; omega
  · have hd : decide (j < len) = false := decide_eq_false hlt
    have htk : bs.take j = bs := List.take_of_length_le (by omega)
    have HPE : Hid (pds ps = foldP [] bs) := by show _ = _; rw [HPS.out, htk]
    have HOE : Hid (OwnRow drK wo (w.heap.size + 1) u (foldR [] bs)) := by have := HO.out; rw [htk] at this; exact this
    clear HPS HO htk
    obtain ⟨dd, dc, hv, hr, _⟩ := HOE.out.at drK_ok
    subst hv
    go_wp2
    go_ret2
    exact ⟨w.heap.size, tad, tlen, tcap, ps, dd, _, dc, rfl, HT.out, HPE.out, hr, Nat.le_refl _, HB.out⟩
end Go.Proofs.YtgohekjkbgfeeaaGreat
namespace Go.ProdMath
open Go.SeqMath
open Go.BatMath
set_option linter.unusedVariables false

theorem asc_nil : Asc [] := List.Pairwise.nil
end Go.ProdMath
namespace Go.Proofs.YtgohekjkbgfeeaaGreat
open Go.RowKit
open Go.SeqMath
open Go.ProdMath
open Go.BatMath hiding AllB take_all
set_option linter.unusedVariables false

def GivesTcFold (w : World) (bs : List Bat) (e : Ending) (w' : World) : Prop :=
 ∃ kt km ps, e = .returned (.pointer (some ⟨kt, 0, none⟩)) ∧ TcOk w' kt km ps ∧ pds ps = foldP [] bs ∧ w.heap.size ≤ kt ∧ w.heap.size ≤ km ∧ Below w.heap.size w w'
set_option maxRecDepth 100000 in
set_option maxHeartbeats 4000000 in
theorem tcFold_any (w : World) (ad : Option Addr) (len cap : Nat) (ms : List BM) (h : BatsAt w ad len cap ms) (hL : len ≤ 100000) (hok : BatsOk (bats ms)) :
 Calls Tryz.prog 18 #[.slice ad len cap] w (GivesTcFold w (bats ms)) := by
 have H := Lib.hid h
 have hlen := h.row.length
 obtain ⟨bs, hbs⟩ : ∃ bs, bs = bats ms := ⟨_, rfl⟩
 have hbl : bs.length = len := by rw [hbs]; unfold bats; rw [List.length_map]; exact hlen
 have HGET : Hid (∀ (i : Nat) m, ms[i]? = some m → bs[i]? = some m.b) := by
  intro i m hm
  rw [hbs]; unfold bats
  rw [List.getElem?_map, hm]; rfl
 rw [← hbs] at hok
 rw [← hbs]
 have HOK := Lib.hid hok
 have HBL := Lib.hid hbl
 clear h hbs hlen hok hbl
 go_enter Tryz.func18, Tryz.ntmps18
 go_wp2_with fail
 refine (tcNew_any w).mono ?_
 rintro e w1 ⟨kt, km, rfl, ht1, hb1, hk1, hk2⟩
 have HT1 := Lib.hid ht1
 have HB1 := Lib.hid hb1
 have HKT : Hid (w.heap.size ≤ kt ∧ w.heap.size ≤ km) := ⟨hk1, hk2⟩
 clear ht1 hb1 hk1 hk2
 go_wp2
 go_loopw [9] (fun v9 wr => ∃ j ps, v9 = .int .i64 ((j : Nat) : Int) ∧ j ≤ len ∧ Hid (TcOk wr kt km ps) ∧ Hid (pds ps = foldP [] (bs.take j)) ∧ Hid (Below w.heap.size w wr)) (fun v9 _ => len - (intOf v9).toNat)
 case atStart => exact ⟨0, [], rfl, Nat.zero_le _, HT1.out, rfl, HB1.out⟩
 case round =>
  obtain ⟨j, ps, rfl, hj, HT, HPS, HB⟩ := hrel
  clear HT1 HB1
  obtain ⟨wo, hwo⟩ : ∃ wo : World, wo = wr := ⟨_, rfl⟩
  subst hwo
  by_cases hlt : j < len
  · have hd : decide (j < len) = true := decide_eq_true hlt
    have hjl : (j : Int) < (len : Int) := by omega
    obtain ⟨bk, off, m, rfl, hbk, hm, hrec, c0, c1, c2, c3, c4, c5, c6⟩ := (H.out.keep HB.out).get hlt
    have hbm := HGET.out j m hm
    have htk : bs.take (j + 1) = bs.take j ++ [m.b] := by
     rw [List.take_add_one, hbm]; rfl
    have HTK := Lib.hid htk
    obtain ⟨hk1, hk2, hk3⟩ := HOK.out m.b (List.mem_of_getElem? hbm)
    have HK1 := Lib.hid hk1
    have HFEW : Hid (fewP (pds ps)) := by show fewP _; rw [HPS.out]; exact foldP_few _ (fun p hp => by cases hp)
    have HASC : Hid (Asc (pds ps)) := by show Asc _; rw [HPS.out]; exact fold_asc _ asc_nil
    have HRC := Lib.hid hrec
    clear hbm htk hk1 hm hrec hbk
    go_upto_region 5 with fail
    obtain ⟨W1, hW1⟩ : ∃ W1, W1 = wo.alloc (.cells #[.int .i64 m.b.base, .int .i64 m.b.prod, .int .i64 m.b.epoch, .int .i64 m.b.seq, .bool m.b.txn, .int .i64 m.b.marker, .slice m.ad m.b.recs.length m.cap] 56) := ⟨_, rfl⟩
    have hb1 : Below wo.heap.size wo W1 := by rw [hW1]; exact (Below.refl _ _).alloc (Nat.le_refl _) _
    obtain ⟨K, hK⟩ : ∃ K, K = wo.heap.size := ⟨_, rfl⟩
    have HX1 : Hid (BoxAt W1 K m.b.base m.b.prod m.b.epoch m.b.seq m.b.txn m.b.marker (.slice m.ad m.b.recs.length m.cap)) := by show BoxAt _ _ _ _ _ _ _ _ _; rw [hW1, hK]; exact boxAt_new wo _ _ _ _ _ _ _
    have HT1 := Lib.hid (HT.out.keep hb1)
    have HB1 := Lib.hid (HB.out.trans (hb1.mono HB.out.size))
    have HRC1 := Lib.hid (HRC.out.keep hb1)
    rw [← hW1, ← hK]
    clear hW1 hb1 hK c0 c1 c2 c3 c4 c5 c6
    have p0 := HX1.out.c0
    have p1 := HX1.out.c1
    have p2 := HX1.out.c2
    have p3 := HX1.out.c3
    have p4 := HX1.out.c4
    have p5 := HX1.out.c5
    have p6 := HX1.out.c6
    obtain ⟨l', hl'⟩ : ∃ l', tapplyD (pds ps) m.b = l' := ⟨_, rfl⟩
    obtain ⟨dr, hdr⟩ : ∃ dr, tdropD (pds ps) m.b = dr := ⟨_, rfl⟩
    have CA := tcApply_any W1 kt km ps HT1.out HASC.out HFEW.out m.b m.ad m.b.recs.length m.cap HRC1.out HK1.out hk3 hk2
    rw [hl', hdr] at CA
    have CAH := Lib.hid CA
    have HP2 : Hid (l' = foldP [] (bs.take (j + 1))) := by show _ = _; rw [HTK.out, foldP_snoc, ← HPS.out, hl']
    clear CA hl' hdr HPS HTK HFEW HASC HK1
    go_wp2_with fail
    refine CAH.out.mono ?_
    rintro e w2 ⟨d, ps2, rfl, hdd, ht2, hp2, hg2⟩
    have HT2 := Lib.hid ht2
    have HP3 : Hid (pds ps2 = foldP [] (bs.take (j + 1))) := by show _ = _; rw [hp2, HP2.out]
    have HB2 : Hid (Below w.heap.size w w2) := HB1.out.trans (below_grown hg2 HKT.out.2 HB1.out.size)
    clear ht2 hp2 hg2 CAH p0 p1 p2 p3 p4 p5 p6 HT1 HX1 HP2 hdd HT HB HRC
    go_wp2
    go_roundw
    case rel => exact ⟨j + 1, ps2, rfl, by omega, HT2.out, HP3.out, HB2.out⟩
    case measure => simp [intOf]; omega
  · have hd : decide (j < len) = false := decide_eq_false hlt
    have hjl : j = len := by omega
    have HFIN : Hid (pds ps = foldP [] bs) := by
     show _ = _
     rw [HPS.out, hjl, ← HBL.out, List.take_length]
    clear HPS hjl
    go_wp2
    go_ret
    exact ⟨kt, km, ps, rfl, HT.out, HFIN.out, HKT.out.1, HKT.out.2, HB.out⟩
end Go.Proofs.YtgohekjkbgfeeaaGreat
namespace Go.Proofs
open Go.Shelf
def Tryz.keysA_ren : Go.Shelf.Ren := ⟨fun | 7 => 49 | 10 => 84 | n => n, fun | 23 => 103 | 26 => 2 | 3 => 78 | 28 => 111 | 0 => 0 | 27 => 110 | 33 => 134 | 4 => 4 | n => n, fun | n => n⟩
theorem Tryz.keysA : Go.Proofs.SlLaysZI.n7 Tryz.prog Tryz.keysA_ren := {
  mixed := by kernel_rfl
  f7 := ⟨Tryz.f49.name, by decide, Tryz.func49.trans (congrArg some (by kernel_rfl))⟩
  f10 := ⟨Tryz.f84.name, by decide, Tryz.func84.trans (congrArg some (by kernel_rfl))⟩
  t0 := Tryz.underlying0
  a0 := Tryz.isAgg0
  z0 := Tryz.sizeOf0
  v0 := Tryz.zeroValue0
  t4 := Tryz.underlying4
  a4 := Tryz.isAgg4
  z4 := Tryz.sizeOf4
  v4 := Tryz.zeroValue4
  t23 := Tryz.underlying103
  a23 := Tryz.isAgg103
  z23 := Tryz.sizeOf103
  v23 := Tryz.zeroValue103
  t26 := Tryz.underlying2
  a26 := Tryz.isAgg2
  z26 := Tryz.sizeOf2
  v26 := Tryz.zeroValue2
  t27 := Tryz.underlying110
  a27 := Tryz.isAgg110
  z27 := Tryz.sizeOf110
  v27 := Tryz.zeroValue110
  t28 := Tryz.underlying111
  a28 := Tryz.isAgg111
  z28 := Tryz.sizeOf111
  v28 := Tryz.zeroValue111
  t33 := Tryz.underlying134
  a33 := Tryz.isAgg134
  z33 := Tryz.sizeOf134
  v33 := Tryz.zeroValue134 }
def Tryz.sortedA_ren : Go.Shelf.Ren := ⟨fun | 6 => 48 | 8 => 83 | 9 => 68 | 11 => 115 | 13 => 103 | 12 => 102 | 23 => 138 | 24 => 139 | 14 => 129 | 15 => 130 | 16 => 131 | 17 => 132 | 18 => 133 | 19 => 134 | 20 => 135 | 21 => 136 | 22 => 137 | 25 => 151 | 26 => 152 | 27 => 153 | 28 => 154 | 29 => 155 | 30 => 156 | 31 => 164 | n => n, fun | 26 => 2 | 28 => 111 | 24 => 42 | 0 => 0 | 3 => 3 | 37 => 36 | 48 => 82 | 50 => 119 | 4 => 4 | 40 => 170 | 39 => 169 | 45 => 116 | 5 => 5 | 9 => 9 | 51 => 180 | 55 => 184 | 57 => 189 | 58 => 190 | 33 => 134 | n => n, fun | n => n⟩
theorem Tryz.sortedA : Go.Proofs.SlLaysZI.n6 Tryz.prog Tryz.sortedA_ren := {
  mixed := by kernel_rfl
  f6 := ⟨Tryz.f48.name, by decide, Tryz.func48.trans (congrArg some (by kernel_rfl))⟩
  f8 := ⟨Tryz.f83.name, by decide, Tryz.func83.trans (congrArg some (by kernel_rfl))⟩
  f11 := ⟨Tryz.f115.name, by decide, Tryz.func115.trans (congrArg some (by kernel_rfl))⟩
  t0 := Tryz.underlying0
  a0 := Tryz.isAgg0
  z0 := Tryz.sizeOf0
  v0 := Tryz.zeroValue0
  t24 := Tryz.underlying42
  a24 := Tryz.isAgg42
  z24 := Tryz.sizeOf42
  v24 := Tryz.zeroValue42
  t26 := Tryz.underlying2
  a26 := Tryz.isAgg2
  z26 := Tryz.sizeOf2
  v26 := Tryz.zeroValue2
  t28 := Tryz.underlying111
  a28 := Tryz.isAgg111
  z28 := Tryz.sizeOf111
  v28 := Tryz.zeroValue111
  i26 := by kernel_rfl }
def Tryz.sortA_ren : Go.Shelf.Ren := ⟨fun | 5 => 68 | 8 => 103 | 7 => 102 | 19 => 138 | 20 => 139 | 10 => 129 | 11 => 130 | 12 => 131 | 13 => 132 | 14 => 133 | 15 => 134 | 16 => 135 | 17 => 136 | 18 => 137 | 30 => 151 | 31 => 152 | 32 => 153 | 33 => 154 | 34 => 155 | 35 => 156 | 40 => 164 | n => n, fun | 23 => 42 | 25 => 2 | 3 => 3 | 32 => 36 | 22 => 42 | 0 => 0 | 44 => 82 | 46 => 119 | 4 => 4 | 36 => 170 | 35 => 169 | 41 => 116 | 5 => 5 | 9 => 9 | 53 => 180 | 57 => 184 | 63 => 189 | 64 => 190 | n => n, fun | n => n⟩
theorem Tryz.sortA : Go.Proofs.SlLaysM.n5 Tryz.prog Tryz.sortA_ren := {
  mixed := by kernel_rfl
  f5 := ⟨Tryz.f68.name, by decide, Tryz.func68.trans (congrArg some (by kernel_rfl))⟩
  f7 := ⟨Tryz.f102.name, by decide, Tryz.func102.trans (congrArg some (by kernel_rfl))⟩
  f8 := Tryz.func103.trans (congrArg some (by kernel_rfl))
  f10 := ⟨Tryz.f129.name, by decide, Tryz.func129.trans (congrArg some (by kernel_rfl))⟩
  f11 := ⟨Tryz.f130.name, by decide, Tryz.func130.trans (congrArg some (by kernel_rfl))⟩
  f12 := ⟨Tryz.f131.name, by decide, Tryz.func131.trans (congrArg some (by kernel_rfl))⟩
  f13 := ⟨Tryz.f132.name, by decide, Tryz.func132.trans (congrArg some (by kernel_rfl))⟩
  f14 := ⟨Tryz.f133.name, by decide, Tryz.func133.trans (congrArg some (by kernel_rfl))⟩
  f15 := ⟨Tryz.f134.name, by decide, Tryz.func134.trans (congrArg some (by kernel_rfl))⟩
  f16 := ⟨Tryz.f135.name, by decide, Tryz.func135.trans (congrArg some (by kernel_rfl))⟩
  f17 := ⟨Tryz.f136.name, by decide, Tryz.func136.trans (congrArg some (by kernel_rfl))⟩
  f18 := ⟨Tryz.f137.name, by decide, Tryz.func137.trans (congrArg some (by kernel_rfl))⟩
  f19 := Tryz.func138.trans (congrArg some (by kernel_rfl))
  f20 := Tryz.func139.trans (congrArg some (by kernel_rfl))
  f30 := ⟨Tryz.f151.name, by decide, Tryz.func151.trans (congrArg some (by kernel_rfl))⟩
  f31 := Tryz.func152.trans (congrArg some (by kernel_rfl))
  f32 := Tryz.func153.trans (congrArg some (by kernel_rfl))
  f33 := ⟨Tryz.f154.name, by decide, Tryz.func154.trans (congrArg some (by kernel_rfl))⟩
  f34 := ⟨Tryz.f155.name, by decide, Tryz.func155.trans (congrArg some (by kernel_rfl))⟩
  f35 := ⟨Tryz.f156.name, by decide, Tryz.func156.trans (congrArg some (by kernel_rfl))⟩
  f40 := ⟨Tryz.f164.name, by decide, Tryz.func164.trans (congrArg some (by kernel_rfl))⟩
  t0 := Tryz.underlying0
  a0 := Tryz.isAgg0
  z0 := Tryz.sizeOf0
  v0 := Tryz.zeroValue0
  t3 := Tryz.underlying3
  a3 := Tryz.isAgg3
  z3 := Tryz.sizeOf3
  v3 := Tryz.zeroValue3
  t4 := Tryz.underlying4
  a4 := Tryz.isAgg4
  z4 := Tryz.sizeOf4
  v4 := Tryz.zeroValue4
  t5 := Tryz.underlying5
  a5 := Tryz.isAgg5
  z5 := Tryz.sizeOf5
  v5 := Tryz.zeroValue5
  t9 := Tryz.underlying9
  a9 := Tryz.isAgg9
  z9 := Tryz.sizeOf9
  v9 := Tryz.zeroValue9
  t22 := Tryz.underlying42
  a22 := Tryz.isAgg42
  z22 := Tryz.sizeOf42
  v22 := Tryz.zeroValue42
  t23 := Tryz.underlying42
  a23 := Tryz.isAgg42
  z23 := Tryz.sizeOf42
  v23 := Tryz.zeroValue42
  t25 := Tryz.underlying2
  a25 := Tryz.isAgg2
  z25 := Tryz.sizeOf2
  v25 := Tryz.zeroValue2
  t32 := Tryz.underlying36
  a32 := Tryz.isAgg36
  z32 := Tryz.sizeOf36
  v32 := Tryz.zeroValue36
  t35 := Tryz.underlying169
  a35 := Tryz.isAgg169
  z35 := Tryz.sizeOf169
  v35 := Tryz.zeroValue169
  t36 := Tryz.underlying170
  a36 := Tryz.isAgg170
  z36 := Tryz.sizeOf170
  v36 := Tryz.zeroValue170
  t41 := Tryz.underlying116
  a41 := Tryz.isAgg116
  z41 := Tryz.sizeOf116
  v41 := Tryz.zeroValue116
  t44 := Tryz.underlying82
  a44 := Tryz.isAgg82
  z44 := Tryz.sizeOf82
  v44 := Tryz.zeroValue82
  t46 := Tryz.underlying119
  a46 := Tryz.isAgg119
  z46 := Tryz.sizeOf119
  v46 := Tryz.zeroValue119
  t53 := Tryz.underlying180
  a53 := Tryz.isAgg180
  z53 := Tryz.sizeOf180
  v53 := Tryz.zeroValue180
  t57 := Tryz.underlying184
  a57 := Tryz.isAgg184
  z57 := Tryz.sizeOf184
  v57 := Tryz.zeroValue184
  t63 := Tryz.underlying189
  a63 := Tryz.isAgg189
  z63 := Tryz.sizeOf189
  v63 := Tryz.zeroValue189
  t64 := Tryz.underlying190
  a64 := Tryz.isAgg190
  z64 := Tryz.sizeOf190
  v64 := Tryz.zeroValue190 }
end Go.Proofs
namespace Go.Proofs.YtgohekjkbgfeeaaGreat
open Go.RowKit
open Go.SeqMath
open Go.ProdMath
open Go.WideElems (Fit rd rg rd_mk rg_of)
open Go.BatMath hiding AllB take_all
set_option linter.unusedVariables false

/-- Each state is read as the same datum: nothing is asked of the states here. -/
def stR : Value → Option (DataW Unit × List MemPlace) := fun _ => some (.lit (.bool true), [])
def keyInt (e : Value × Value) : Int := match e.1 with | .int _ n => n | _ => 0
theorem rd_st {x : MapEntry} {n : Int} (hx : x.key = .int .i64 n) (h : (Lit.int .i64 n).wf = true) : rd Tryz.prog 2 stR x = some (.int .i64 n, .lit (.bool true)) := by
 unfold rd
 rw [hx, Maps.keyOf_int_mk Tryz.underlying2 h]
 rfl
theorem wf_of_key {n : Int} (h : ∃ l, keyOf Tryz.prog 2 (.int .i64 n) = some l) : (Lit.int .i64 n).wf = true := by
 obtain ⟨l, hl⟩ := h
 obtain ⟨x, hx, _, hw⟩ := Maps.keyOf_int_inv Tryz.underlying2 hl
 have e : n = x := by simpa using hx
 rw [e]
 exact hw
theorem ids_of {P : Program} {k : TypeId} {R : Value → Option (DataW Unit × List MemPlace)} (es : List MapEntry) (hrd : ∀ x ∈ es, rd P k R x = some (.int .i64 (keyInt (entryP x)), .lit (.bool true))) :
 es.map ((fun p : Lit × DataW Unit => Go.intOf p.1) ∘ rg P k R) = (es.map entryP).map keyInt := by
 rw [List.map_map]
 refine List.map_congr_left fun x hx => ?_
 show Go.intOf (rg P k R x).1 = keyInt (entryP x)
 rw [rg_of (hrd x hx)]
 rfl
/-- A table's map as the library's contracts have it. -/
theorem tc_owns {w : World} {km : Nat} {ms : List PM} (h : TcMap w km ms) (hL : ms.length ≤ 1000000) : ∃ D0 : DataW Unit, w.ownsMap Tryz.prog 2 stR km ms.length D0 ∧ (intKeys D0).Perm (ms.map (·.p.id)) ∧ Maps.size D0 = ms.length := by
 obtain ⟨es, clock, hb, hs, hq, hz⟩ := h
 have hlen : es.size = ms.length := by have := hq.length_eq; simpa using this
 have hes : ∀ x ∈ es.toList, ∃ n : Int, x.key = .int .i64 n ∧ (Lit.int .i64 n).wf = true := fun x hx => by
  obtain ⟨m, hm, e⟩ := List.mem_map.1 (hq.mem_iff.1 (List.mem_map.2 ⟨x, hx, rfl⟩))
  have e1 : x.key = .int .i64 m.p.id := (congrArg Prod.fst e).symm
  exact ⟨m.p.id, e1, wf_of_key (hz m hm)⟩
 have hrd : ∀ x ∈ es.toList, rd Tryz.prog 2 stR x = some (.int .i64 (keyInt (entryP x)), .lit (.bool true)) := fun x hx => by
  obtain ⟨n, hn, hw⟩ := hes x hx
  have e : keyInt (entryP x) = n := by unfold keyInt entryP; rw [hn]
  rw [e]
  exact rd_st hn hw
 refine ⟨_, ⟨es, clock, hb, ⟨by rw [hlen]; unfold maxLen; omega, hs, fun x hx => ⟨_, hrd x hx⟩⟩, Nat.le_of_eq hlen, rfl⟩, ?_, ?_⟩
 · show (((es.toList.map (rg Tryz.prog 2 stR)).foldr DataW.insert []).map fun p => Go.intOf p.1).Perm _
   refine ((Go.WideShapes.sorted_perm _).map _).trans ?_
   rw [List.map_map]
   have e1 := ids_of es.toList hrd
   rw [e1]
   exact (hq.map keyInt).trans (by rw [List.map_map]; exact List.Perm.refl _)
 · show ((es.toList.map (rg Tryz.prog 2 stR)).foldr DataW.insert []).length = ms.length
   rw [DataW.length_sorted]
   simpa using hlen
theorem Tryz.sortsA (m : Nat) : AnyZI.SortsIn Tryz.prog Tryz.sortedA_ren Fence.wide m :=
 ⟨fun blk off cap ss W hH hblk hsz => callsIn_wide.2 (AnyM.slices_Sort_int Tryz.sortA blk off cap ss W hH hblk hsz),
  fun p cap W => callsIn_wide.2 (AnyM.slices_Sort_int_none Tryz.sortA p cap W)⟩
/-- maps.Keys. -/
theorem tcKeys_any (mb : Option Nat) (W : World) : Calls Tryz.prog 49 #[.map mb] W fun e w' => e = .returned (.func (.func 84) #[] #[.pointer (some ⟨W.heap.size, 0, none⟩)]) ∧ w' = W.alloc (.cells #[.map mb] 103) :=
 (callsIn_wide (n := 6)).1 (AnyZI.keys_in Tryz.keysA Fence.wide 6 trivial rfl mb W)
theorem sort_ids {l : List Pd} (ha : Asc l) : (l.map (·.id)).mergeSort (fun x y => decide (x ≤ y)) = l.map (·.id) := by
 refine List.mergeSort_of_pairwise ?_
 rw [List.pairwise_map]
 exact ha.imp fun h => by simp; omega
/-- What slices.Sorted gives of them. -/
def GivesIds (w : World) (ids : List Int) (e : Ending) (w' : World) : Prop := ∃ v, e = .returned v ∧ w'.ownsRow w.heap.size 2 1 v ids.length (ids.map (Value.int .i64)) ∧ Below w.heap.size w w'
theorem tcSorted_any (w : World) (km Bm : Nat) (ms : List PM) (h : TcMap w km ms) (hL : ms.length ≤ 1000000) (ha : Asc (pds ms)) (hBm : Bm < w.heap.size) (hm : w.cell? ⟨Bm, 0, none⟩ = some (.map (some km))) :
 Calls Tryz.prog 48 #[.func (.func 84) #[] #[.pointer (some ⟨Bm, 0, none⟩)]] w (GivesIds w ((pds ms).map (·.id))) := by
 obtain ⟨D0, hown, hperm, hsize⟩ := tc_owns h hL
 have hseq : SeqGives Fence.wide 3 Tryz.prog 84 #[.pointer (some ⟨Bm, 0, none⟩)] encZ (fun ss => ss.Perm (intKeys D0)) (Maps.size D0) w :=
  AnyZI.keys_gives (ρ := Tryz.keysA_ren) { Tryz.keysA with } Fence.wide _ trivial rfl (by omega) Bm km ms.length D0 w hBm hm hown
 have cS := AnyZI.sorted_in Tryz.sortedA Fence.wide 6 trivial trivial trivial trivial rfl (by omega) (Tryz.sortsA _) (enters_of Tryz.func68 (by kernel_rfl) rfl) 84 #[.pointer (some ⟨Bm, 0, none⟩)] trivial (enters_of Tryz.func84 (by kernel_rfl) rfl) _ _ (by rw [hsize]; unfold maxLen; omega) (by rw [hsize]; omega) _ hseq
 change CallsIn _ _ Tryz.prog 48 _ _ _ at cS
 refine ((callsIn_wide (n := 6)).1 cS).mono ?_
 rintro e w' ⟨v, ss, rfl, hS, hrow, _, hb⟩
 have hp : ss.Perm ((pds ms).map (·.id)) := hS.trans (by
  refine hperm.trans ?_
  unfold pds
  rw [List.map_map]
  exact List.Perm.refl _)
 have e1 : ss.mergeSort (fun x y => decide (x ≤ y)) = (pds ms).map (·.id) := (mergeSort_of_perm_i hp).trans (sort_ids ha)
 refine ⟨v, rfl, ?_, hb⟩
 rw [e1] at hrow
 have e2 : ss.length = ((pds ms).map (·.id)).length := hp.length_eq
 rw [e2] at hrow
 exact hrow
end Go.Proofs.YtgohekjkbgfeeaaGreat
namespace Go.Proofs.YtgohekjkbgfeeaaGreat
open Go.RowKit
open Go.SeqMath
open Go.ProdMath
open Go.BatMath hiding AllB take_all
set_option linter.unusedVariables false

def GivesTcCopy (w : World) (l : List Pd) (e : Ending) (w' : World) : Prop :=
 ∃ kt km ps, e = .returned (.pointer (some ⟨kt, 0, none⟩)) ∧ TcOk w' kt km ps ∧ pds ps = l ∧ w.heap.size ≤ kt ∧ w.heap.size ≤ km ∧ Below w.heap.size w w'
theorem infoId : (Tryz.prog.info? 2).map (fun i => (i.zero, i.size, i.bytes)) = some (some (.int .i64 0), 1, 8) := by kernel_rfl
def idK : Kind Int := ⟨fun n => [.int .i64 n], 1, 2, 42⟩
theorem idK_ok : idK.Ok 8 where
 und := Tryz.underlying42
 info := by
  obtain ⟨i, hi, hz, hs, hb⟩ := info_parts infoId
  exact ⟨i, _, hi, hz, hs, hb, rfl⟩
 len := fun _ => rfl
 pos := by decide
 one := fun r u hu => by
  simp only [idK, List.mem_cons, List.not_mem_nil, or_false] at hu
  rcases hu with rfl <;> rfl
 few := by decide
theorem idK_all : ∀ l : List Int, idK.all l = l.map (Value.int .i64)
 | [] => rfl
 | n :: l => by
   have ih := idK_all l
   show [Value.int .i64 n] ++ idK.all l = _
   rw [ih]
   rfl
theorem ownRow_ids {w : World} {base : Nat} {v : Value} {ids : List Int} (h : w.ownsRow base 2 1 v ids.length (ids.map (Value.int .i64))) : OwnRow idK w base v ids := by
 unfold OwnRow
 rw [idK_all]
 exact h
def GivesTcAll (w : World) (l : List Pd) (e : Ending) (w' : World) : Prop :=
 ∃ ad len cap os, e = .returned (.slice ad len cap) ∧ PdsAt w' ad len cap os ∧ pds os = l ∧ Below w.heap.size w w'
/-- What stands in a round of All: j states have been taken over. -/
structure AllW (l : List Pd) (j base : Nat) (u : Value) (os : List PM) (W : World) : Prop where
 own : OwnRow pdK W base u os
 ins : ∀ m ∈ os, LastAt W m ∧ ∀ a, m.ad = some a → a.block < W.heap.size ∧ u.ownBlock ≠ some a.block
 eq : pds os = l.take j
theorem AllW.on {l : List Pd} {j base : Nat} {u : Value} {os : List PM} {W W' : World} (h : AllW l j base u os W) (hb : Below W.heap.size W W') : AllW l j base u os W' :=
 ⟨h.own.on hb, fun m hm => ⟨(h.ins m hm).1.keep hb, fun a ha => ⟨Nat.lt_of_lt_of_le ((h.ins m hm).2 a ha).1 hb.size, ((h.ins m hm).2 a ha).2⟩⟩, h.eq⟩
set_option maxRecDepth 100000 in
set_option maxHeartbeats 4000000 in
theorem tcAll_any (w : World) (kt km : Nat) (ms : List PM) (h : TcOk w kt km ms) (ha : Asc (pds ms)) (hfew : fewP (pds ms)) (hL : ms.length ≤ 1000000) :
 Calls Tryz.prog 23 #[.pointer (some ⟨kt, 0, none⟩)] w (GivesTcAll w (pds ms)) := by
 have H := Lib.hid h
 have HF := Lib.hid hfew
 have HAS := Lib.hid ha
 have t0 := h.box.c0
 clear h hfew ha
 go_enter Tryz.func23, Tryz.ntmps23
 go_wp2_with fail
 refine (tcKeys_any (some km) w).mono ?_
 rintro e w1 ⟨rfl, hw1⟩
 have hb1 : Below w.heap.size w w1 := by rw [hw1]; exact (Below.refl _ _).alloc (Nat.le_refl _) _
 obtain ⟨Bm, hBm⟩ : ∃ z, z = w.heap.size := ⟨_, rfl⟩
 have HBM : Hid (w1.heap[Bm]? = some (.cells #[.map (some km)] 103 (0, 0))) := by show _ = _; rw [hw1, hBm]; exact heap_alloc_new w _
 have HB1 := Lib.hid hb1
 have H1 := Lib.hid (H.out.keep hb1)
 rw [← hBm]
 clear hw1 hb1 hBm t0
 go_wp2_with fail
 refine (tcSorted_any w1 km Bm ms H1.out.map hL HAS.out (lt_of_block HBM.out) (by rw [cell_of_row _ _ 0 _ _ _ HBM.out]; rfl)).mono ?_
 rintro e w2 ⟨v, rfl, hrow, hb2⟩
 obtain ⟨iad, icap, hv, hir, _⟩ := OwnRow.row (n := ms.length) idK_ok (ownRow_ids hrow) (by unfold pds; rw [List.length_map, List.length_map])
 subst hv
 have HIR := Lib.hid hir
 have HB2 := Lib.hid (HB1.out.trans (hb2.mono HB1.out.size))
 obtain ⟨n, hn⟩ : ∃ n, n = ms.length := ⟨_, rfl⟩
 rw [← hn] at HIR hL
 rw [← hn]
 have HN := Lib.hid hn
 clear hrow hb2 hir hn HBM H1
 go_wp2
 go_loopw [3, 13] (fun v3 v13 wr => ∃ (j : Nat) (u : Value) (os : List PM), u = v3 ∧ v13 = .int .i64 (j : Int) ∧ j ≤ n ∧ Hid (AllW (pds ms) j w2.heap.size u os wr) ∧ Hid (Below w2.heap.size w2 wr)) (fun _ v13 _ => n - (intOf v13).toNat)
 case atStart => exact ⟨0, _, [], rfl, rfl, Nat.zero_le _, ⟨ownRow_nil _ _ _, (fun m hm => by cases hm), rfl⟩, Below.refl _ _⟩
 case round =>
  obtain ⟨j, u, os, rfl, rfl, hj, HAW, HBL⟩ := hrel
  obtain ⟨w4, hw4⟩ : ∃ z : World, z = wr := ⟨_, rfl⟩
  subst hw4
  have HW4 : Hid (Below w.heap.size w w4) := HB2.out.trans (HBL.out.mono HB2.out.size)
  by_cases hlt : j < n
  · have hd : decide (j < n) = true := decide_eq_true hlt
    have hjl : (j : Int) < (n : Int) := by omega
    obtain ⟨bk, off, x, rfl, hbk, hx, hcell⟩ := (HIR.out.keep HBL.out).get hlt
    have hjm : j < ms.length := by have := HN.out; omega
    obtain ⟨m, hm⟩ : ∃ m, ms[j]? = some m := ⟨_, List.getElem?_eq_getElem hjm⟩
    have hxm : x = m.p.id := by
     unfold pds at hx
     rw [List.getElem?_map, List.getElem?_map, hm] at hx
     exact (Option.some.inj hx).symm
    subst hxm
    have c0 := hcell 0 (.int .i64 m.p.id) rfl
    have hmem := List.mem_of_getElem? hm
    have H4 := Lib.hid (H.out.keep HW4.out)
    have hlk := mapAs_some tcMapT keyI H4.out.map m hmem false
    simp only [pmE] at hlk
    have hp5 := HF.out m.p (List.mem_map.2 ⟨m, hmem, rfl⟩)
    have HLA := Lib.hid (H4.out.ins m hmem)
    have htk : (pds ms).take (j + 1) = (pds ms).take j ++ [m.p] := by
     have : (pds ms)[j]? = some m.p := by unfold pds; rw [List.getElem?_map, hm]; rfl
     rw [List.take_add_one, this]; rfl
    have HTK := Lib.hid htk
    have t0 := H4.out.box.c0
    rw [show idK.size = 1 from rfl, Nat.mul_one, Nat.add_zero] at c0
    obtain ⟨⟨pid, pep, pl, po⟩, pd, pc⟩ := m
    simp only [Bool.false_eq_true, if_false] at hlk hp5 HLA HTK c0
    obtain ⟨pn, hpn⟩ : ∃ n, n = pl.length := ⟨_, rfl⟩
    have HLA2 : Hid (RowAt trK w4 pd pl.length pc pl) := HLA
    clear HLA
    have HLA := HLA2
    clear HLA2
    rw [← hpn] at hlk hp5 HLA
    have HPN := Lib.hid hpn
    clear hx hcell htk hm hmem hpn hjm hbk HAS
    go_wp2_with fail
    refine (tcCopied_any w4 pid pep po pl pd pn pc HLA.out (by omega)).mono ?_
    rintro e w5 ⟨ad2, cap2, rfl, ho, hb⟩
    simp only at ho
    obtain ⟨ad3, cap3, e3, hrow2, hown2⟩ := OwnRow.row trK_ok ho rfl
    injection e3 with e31 e32 e33
    subst e31 e33
    have HROW := Lib.hid hrow2
    have HOWN2 : Hid (∀ a, ad2 = some a → w4.heap.size ≤ a.block ∧ a.block < w5.heap.size) := fun a ha => ⟨by have := (hown2 a ha).1; omega, (hown2 a ha).2⟩
    have HAW5 := Lib.hid (HAW.out.on hb)
    have HB5 := Lib.hid (HBL.out.trans (hb.mono HBL.out.size))
    have HU5 : Hid (∀ k, u.ownBlock = some k → k < w4.heap.size) := fun k hk => (HAW.out.own.lt k hk).2
    clear ho hb hrow2 hown2 e32 hlk t0 c0 HLA H4 HAW HBL
    simp only
    obtain ⟨c, hc⟩ : ∃ c : PM, c = ⟨⟨pid, pep, pl, po⟩, ad2, cap2⟩ := ⟨_, rfl⟩
    obtain ⟨W6, hW6⟩ : ∃ z, z = w5.alloc (.cells #[.int .i64 pid, .int .i64 pep, .slice ad2 pl.length cap2, .int .i64 po] 78) := ⟨_, rfl⟩
    have hb6 : Below w5.heap.size w5 W6 := by rw [hW6]; exact (Below.refl _ _).alloc (Nat.le_refl _) _
    have HLIT : Hid (RowAt pdK W6 (some ⟨w5.heap.size, 0, none⟩) 1 1 [c]) := by
     show RowAt _ _ _ _ _ _
     rw [hW6]
     exact rowAt_lit pdK_ok w5 [c] (by simp) _ (by rw [hc]; rfl) 1 rfl
    have HAW6 := Lib.hid (HAW5.out.on hb6)
    have HB6 := Lib.hid (HB5.out.trans (hb6.mono HB5.out.size))
    have hosl : os.length ≤ 1000000 := by
     have h1 := congrArg List.length HAW6.out.eq
     unfold pds at h1
     rw [List.length_take, List.length_map, List.length_map] at h1
     have := HN.out
     omega
    have HW6 := Lib.hid hW6
    have HC := Lib.hid hc
    have HROW6 := Lib.hid (HROW.out.keep hb6)
    have HS6 : Hid (w5.heap.size ≤ W6.heap.size) := hb6.size
    clear hb6 hc hW6
    go_wp2_with (at_builtin; rw [← HW6.out]; refine list_row (by rfl) pdK_ok (.tmp 17) (.tmp 25) rfl w2.heap.size os [c] u rfl HAW6.out.own HB6.out.size (some ⟨w5.heap.size, 0, none⟩) 1 1 rfl HLIT.out (by omega) ?_)
    intro v7 w7 hap
    have HAW7 : Hid (AllW (pds ms) (j + 1) w2.heap.size v7 (os ++ [c]) w7) := by
     refine ⟨hap.1, fun m hm => ?_, ?_⟩
     · rcases List.mem_append.1 hm with hm | hm
       · obtain ⟨h1, h2⟩ := HAW6.out.ins m hm
         refine ⟨h1.grown hap.2.1 fun a ha e => (h2 a ha).2 e.symm, fun a ha => ⟨Nat.lt_of_lt_of_le (h2 a ha).1 hap.2.1.size, fun e => ?_⟩⟩
         rcases hap.2.2.2 _ e with h3 | h3
         · exact (h2 a ha).2 h3
         · have := (h2 a ha).1; omega
       · rw [List.mem_singleton.1 hm]
         have h4 : ∀ a, c.ad = some a → w4.heap.size ≤ a.block ∧ a.block < w5.heap.size := by rw [HC.out]; exact HOWN2.out
         refine ⟨?_, fun a ha => ⟨Nat.lt_of_lt_of_le (Nat.lt_of_lt_of_le (h4 a ha).2 HS6.out) hap.2.1.size, fun e => ?_⟩⟩
         · have h5 : LastAt W6 c := by rw [HC.out]; exact HROW6.out
           refine h5.grown hap.2.1 fun a ha e => ?_
           have h6 := HU5.out _ e.symm
           have := (h4 a ha).1
           omega
         · rcases hap.2.2.2 _ e with h3 | h3
           · have h6 := HU5.out _ h3
             have := (h4 a ha).1
             omega
           · have := (h4 a ha).2
             have := HS6.out
             omega
     · unfold pds
       rw [List.map_append]
       have h7 := HAW6.out.eq
       unfold pds at h7 HTK
       rw [h7, HTK.out, HC.out]
       rfl
    have HB7 : Hid (Below w2.heap.size w2 w7) := HB6.out.grown hap.2.1 HB6.out.size fun k hk => (HAW6.out.own.lt k hk).1
    clear hap HAW5 HAW6 HB5 HB6 HLIT HW6 HROW HROW6
    go_wp2
    go_roundw
    case rel => exact ⟨j + 1, v7, _, rfl, rfl, by omega, HAW7.out, HB7.out⟩
    case measure => simp [intOf]; omega
  · have hd : decide (j < n) = false := decide_eq_false hlt
    have hjn : j = n := by omega
    have HFIN : Hid (pds os = pds ms) := by
     show _ = _
     rw [HAW.out.eq, hjn, HN.out, List.take_of_length_le (by unfold pds; rw [List.length_map]; exact Nat.le_refl _)]
    clear hjn
    go_wp2
    go_ret
    obtain ⟨ad, cap, hv, hr, _⟩ := OwnRow.row pdK_ok HAW.out.own rfl
    exact ⟨ad, os.length, cap, os, congrArg Ending.returned hv, ⟨hr, fun m hm => (HAW.out.ins m hm).1⟩, HFIN.out, HW4.out⟩
end Go.Proofs.YtgohekjkbgfeeaaGreat
namespace Go.Proofs.YtgohekjkbgfeeaaGreat
open Go.RowKit
open Go.SeqMath
open Go.ProdMath
open Go.BatMath hiding AllB take_all
set_option linter.unusedVariables false

theorem pd_fresh {l : List Pd} {j : Nat} {p : Pd} (h : Asc l) (hp : l[j]? = some p) : ∀ q ∈ l.take j, q.id ≠ p.id := fun q hq e => by
 have hl : l = l.take j ++ p :: l.drop (j + 1) := by
  obtain ⟨hj, rfl⟩ := List.getElem?_eq_some_iff.1 hp
  rw [← List.drop_eq_getElem_cons hj, List.take_append_drop]
 unfold Asc at h
 rw [hl, List.pairwise_append] at h
 have := h.2.2 q hq p (by simp)
 omega
set_option maxRecDepth 100000 in
set_option maxHeartbeats 4000000 in
theorem tcOf_any (w : World) (ad : Option Addr) (len cap : Nat) (os : List PM) (h : PdsAt w ad len cap os) (hL : len ≤ 1000000) (hasc : Asc (pds os)) (hfew : fewP (pds os)) (hin : ∀ p ∈ pds os, In64 p.id) :
 Calls Tryz.prog 75 #[.slice ad len cap] w (GivesTcCopy w (pds os)) := by
 have H := Lib.hid h
 have HF := Lib.hid hfew
 have HAS := Lib.hid hasc
 have HIN := Lib.hid hin
 have hlo : os.length = len := h.row.length
 obtain ⟨l, hl⟩ : ∃ l, l = pds os := ⟨_, rfl⟩
 have HLL : Hid (l.length = len) := by show _ = _; rw [hl]; unfold pds; rw [List.length_map]; exact hlo
 have HGET : Hid (∀ (i : Nat) m, os[i]? = some m → l[i]? = some m.p) := by
  intro i m hm
  rw [hl]; unfold pds
  rw [List.getElem?_map, hm]; rfl
 rw [← hl] at HF HAS HIN ⊢
 clear h hfew hasc hin hlo hl
 go_enter Tryz.func75, Tryz.ntmps75
 go_wp2_with fail
 refine (tcNew_any w).mono ?_
 rintro e w1 ⟨k2, m2, rfl, ht1, hb1, hk1, hk2⟩
 have HT1 := Lib.hid ht1
 have HB1 := Lib.hid hb1
 have HK2 : Hid (w.heap.size ≤ k2 ∧ w.heap.size ≤ m2) := ⟨hk1, hk2⟩
 clear ht1 hb1 hk1 hk2
 go_wp2
 go_loopw [9] (fun v9 wr => ∃ (j : Nat) (cs : List PM), v9 = .int .i64 (j : Int) ∧ j ≤ len ∧ Hid (TcOk wr k2 m2 cs) ∧ Hid (pds cs = l.take j) ∧ Hid (Below w.heap.size w wr)) (fun v9 _ => len - (intOf v9).toNat)
 case atStart => exact ⟨0, [], rfl, Nat.zero_le _, HT1.out, rfl, HB1.out⟩
 case round =>
  obtain ⟨j, cs, rfl, hj, HTC, HPC, HBL⟩ := hrel
  clear HT1 HB1
  obtain ⟨w5, hw5⟩ : ∃ z : World, z = wr := ⟨_, rfl⟩
  subst hw5
  by_cases hlt : j < len
  · have hd : decide (j < len) = true := decide_eq_true hlt
    have hjl : (j : Int) < (len : Int) := by omega
    obtain ⟨bk, off, m, rfl, hbk, hm, hla, c0, c1, c2, c3⟩ := (H.out.keep HBL.out).get hlt
    have hlm := HGET.out j m hm
    have hmem := List.mem_of_getElem? hlm
    have HFR := Lib.hid (pd_fresh HAS.out hlm)
    have hp5 := HF.out m.p hmem
    have hid := HIN.out m.p hmem
    have HKEY : Hid (∃ l, keyOf Tryz.prog 2 (.int .i64 m.p.id) = some l) := key_int (by have := hid.1; omega) (by have := hid.2; omega)
    have HTK : Hid (l.take (j + 1) = l.take j ++ [m.p]) := by show _ = _; rw [List.take_add_one, hlm]; rfl
    have HLA := Lib.hid (((H.out.keep HBL.out).ins m (List.mem_of_getElem? hm)))
    obtain ⟨⟨pid, pep, pl, po⟩, pd, pc⟩ := m
    simp only at c0 c1 c2 c3 hp5 HFR HKEY HTK
    have HLA2 : Hid (RowAt trK w5 pd pl.length pc pl) := HLA
    clear HLA
    have HLA := HLA2
    clear HLA2
    obtain ⟨pn, hpn⟩ : ∃ n, n = pl.length := ⟨_, rfl⟩
    rw [← hpn] at c2 hp5 HLA
    have HPN := Lib.hid hpn
    clear hlm hmem hm hla hbk hid hpn
    go_upto_region 5 with fail
    obtain ⟨W6, hW6⟩ : ∃ z, z = w5.alloc (.cells #[.int .i64 pid, .int .i64 pep, .slice pd pn pc, .int .i64 po] 78) := ⟨_, rfl⟩
    have hb : Below w5.heap.size w5 W6 := by rw [hW6]; exact (Below.refl _ _).alloc (Nat.le_refl _) _
    obtain ⟨P, hP⟩ : ∃ P, P = w5.heap.size := ⟨_, rfl⟩
    have HP6 : Hid (PBox W6 P pid pep (.slice pd pn pc) po) := by show PBox _ _ _ _ _ _; rw [hW6, hP]; exact pbox_new w5 _ _ _ _
    have HB6 := Lib.hid (HBL.out.trans (hb.mono HBL.out.size))
    have HTC6 := Lib.hid (HTC.out.keep hb)
    have HLA6 := Lib.hid (HLA.out.keep hb)
    rw [← hW6, ← hP]
    clear hW6 hP hb c0 c1 c2 c3 HLA HTC HBL
    have KS : Hid (∀ V, Below W6.heap.size W6 V → (fun (V : World) => V.cell? ⟨k2, 0, none⟩ = some (.map (some m2)) ∧ V.cell? ⟨P, 0, none⟩ = some (.int .i64 pid) ∧ V.cell? ⟨P, 1, none⟩ = some (.int .i64 pep) ∧ V.cell? ⟨P, 2, none⟩ = some (.slice pd pn pc) ∧ V.cell? ⟨P, 3, none⟩ = some (.int .i64 po)) V) := fun V hV => ⟨(HTC6.out.keep hV).box.c0, (HP6.out.on hV).c0, (HP6.out.on hV).c1, (HP6.out.on hV).c2, (HP6.out.on hV).c3⟩
    have hdrw : Below W6.heap.size W6 W6.drew := (Below.refl _ W6).drew
    refine wp_region_noPanic ?_
    refine wp_region_z [8] (fun (V : World) => V.cell? ⟨k2, 0, none⟩ = some (.map (some m2)) ∧ V.cell? ⟨P, 0, none⟩ = some (.int .i64 pid) ∧ V.cell? ⟨P, 1, none⟩ = some (.int .i64 pep) ∧ V.cell? ⟨P, 2, none⟩ = some (.slice pd pn pc) ∧ V.cell? ⟨P, 3, none⟩ = some (.int .i64 po)) (by kernel_rfl) ?_
    have hHeld := KS.out _ hdrw
    obtain ⟨u3, hu3⟩ : ∃ u, u = W6.drew := ⟨_, rfl⟩
    rw [← hu3] at hHeld hdrw
    rw [← hu3]
    clear hu3
    have HU3 := Lib.hid hdrw
    clear hdrw
    refine zt 0 ?_
    refine zt 1 ?_
    refine zt 2 ?_
    refine zt 3 ?_
    refine zt 4 ?_
    refine zt 5 ?_
    refine zt 6 ?_
    refine zr 7 (fun C hC => ?_)
    go_simp
    refine (tcCopied_any u3 pid pep po pl pd pn pc (HLA6.out.keep HU3.out) (by omega)).mono ?_
    rintro e u4 ⟨xd, xc, rfl, hxo, hb4⟩
    simp only at hxo
    obtain ⟨ad3, cap3, e3, hxr, hxk⟩ := OwnRow.row trK_ok hxo rfl
    injection e3 with e31 e32 e33
    subst e31 e33
    have HU4 := Lib.hid (HU3.out.trans (hb4.mono HU3.out.size))
    have HXR4 := Lib.hid hxr
    have hpn4 := HPN.out
    simp only
    rw [← hpn4]
    clear hb4 hxr hxk hxo e32
    have hHeld := KS.out _ HU4.out
    refine zc hC hHeld ?_
    clear hC C
    obtain ⟨c, hc⟩ : ∃ c : PM, c = ⟨⟨pid, pep, pl, po⟩, xd, xc⟩ := ⟨_, rfl⟩
    have hT4 := HTC6.out.keep HU4.out
    have hfr : ∀ q ∈ cs, (pmE q).1 ≠ (pmE c).1 := fun q hq e => by
     have h1 : q.p ∈ l.take j := by rw [← HPC.out]; exact List.mem_map.2 ⟨q, hq, rfl⟩
     have h3 : (pmE q).1 = .int .i64 pid := by rw [e, hc]; rfl
     have h4 : Value.int .i64 q.p.id = .int .i64 pid := h3
     injection h4 with _ h5
     exact HFR.out q.p h1 h5
    obtain ⟨u5, hput, hmap5, hg5, hs5⟩ := mapAs_put tcMapT keyI hT4.map c (by rw [hc]; exact HKEY.out) hfr
    have hput2 : (Instr.mapUpdate 103 (.map (some m2)) (.int .i64 pid) (.agg #[.int .i64 pid, .int .i64 pep, .slice xd pn xc, .int .i64 po])).run Tryz.prog u4 = .ok () u5 := by
     rw [hc] at hput
     rw [HPN.out]
     exact hput
    have HTZ : Hid (TcOk u5 k2 m2 (cs ++ [c])) := by
     refine ⟨hT4.box.past_map hg5 hT4.map.is, hmap5.perm (List.perm_append_singleton _ _).symm, fun m hm => ?_⟩
     rcases List.mem_append.1 hm with hm | hm
     · exact (hT4.ins m hm).past_map hg5 hT4.map.is
     · rw [List.mem_singleton.1 hm, hc]
       exact RowAt.past_map HXR4.out hg5 hT4.map.is
    have HPZ : Hid (pds (cs ++ [c]) = l.take (j + 1)) := by
     show _ = _
     have h1 := HPC.out
     rw [HTK.out, ← h1, hc]
     unfold pds
     rw [List.map_append]
     rfl
    have HBZ : Hid (Below w.heap.size w u5) := (HB6.out.trans (HU4.out.mono HB6.out.size)).trans (below_grown hg5 HK2.out.2 (HB6.out.trans (HU4.out.mono HB6.out.size)).size)
    clear hT4 hfr hput hmap5 hg5 hs5 hc hpn4
    refine zr 8 (fun C hC => ?_)
    go_simp
    refine hC.out _ _ (zfree_no (by kernel_rfl)) (fun _ => ?_)
    clear hC C
    (try simp only [Act.put, List.setIfInBounds_toArray, List.set_cons_zero, List.set_cons_succ])
    refine wpAnyZ_done (by kernel_rfl) ?_ _
    refine NoPanic.normal ?_
    clear hHeld KS hput2
    go_wp2
    go_roundw
    case rel => exact ⟨j + 1, cs ++ [c], rfl, by omega, HTZ.out, HPZ.out, HBZ.out⟩
    case measure => simp [intOf]; omega
  · have hd : decide (j < len) = false := decide_eq_false hlt
    have hjn : j = len := by omega
    have HFIN : Hid (pds cs = l) := by
     show _ = _
     rw [HPC.out, hjn, ← HLL.out, List.take_length]
    clear hjn HPC
    go_wp2
    go_ret
    exact ⟨k2, m2, cs, rfl, HTC.out, HFIN.out, HK2.out.1, HK2.out.2, HBL.out⟩
end Go.Proofs.YtgohekjkbgfeeaaGreat
namespace Go.Proofs.YtgohekjkbgfeeaaGreat
open Go.RowKit
open Go.SnapMath
open Go.VarMath hiding AllB
set_option linter.unusedVariables false

/-- A block that is one reader. -/
def RBox (w : World) (k : Nat) (v : Value) (b : Bool) : Prop := w.heap[k]? = some (.cells #[v, .bool b] 122 (0, 0))
section
variable {w w' : World} {k : Nat} {v : Value} {b : Bool}
theorem RBox.c0 (h : RBox w k v b) : w.cell? ⟨k, 0, none⟩ = some v := by rw [cell_of_row _ _ 0 _ _ _ h]; rfl
theorem RBox.c1 (h : RBox w k v b) : w.cell? ⟨k, 1, none⟩ = some (.bool b) := by rw [cell_of_row _ _ 1 _ _ _ h]; rfl
theorem RBox.free (h : RBox w k v b) (j : Nat) : w.frozen? ⟨k, j, none⟩ = false := frozen_of_row w k j _ _ h
theorem RBox.lt (h : RBox w k v b) : k < w.heap.size := lt_of_block h
theorem RBox.on (h : RBox w k v b) (hb : Below w.heap.size w w') : RBox w' k v b := by
 have hlt := h.lt
 unfold RBox at *
 rw [hb.block k hlt]
 exact h
theorem RBox.s0 (h : RBox w k v b) (u : Value) : RBox (w.setCell ⟨k, 0, none⟩ u) k u b := box_set h 0 _
theorem RBox.s1 (h : RBox w k v b) (c : Bool) : RBox (w.setCell ⟨k, 1, none⟩ (.bool c)) k v c := box_set h 1 _
theorem rbox_new (w : World) (v : Value) (b : Bool) : RBox (w.alloc (.cells #[v, .bool b] 122)) w.heap.size v b := heap_alloc_new w _
end
/-- A reader that stands before bs; the bytes are those of w0, that is older than it. -/
structure RdAt (w0 w : World) (k : Nat) (bs : List Nat) (fell : Bool) : Prop where
 old : w0.heap.size ≤ k
 below : Below w0.heap.size w0 w
 box : ∃ ad len cap, RBox w k (.slice ad len cap) fell ∧ Byt w0 ad len cap bs
theorem RdAt.on {w0 w w' : World} {k : Nat} {bs : List Nat} {fell : Bool} (h : RdAt w0 w k bs fell) (hb : Below w.heap.size w w') : RdAt w0 w' k bs fell := by
 obtain ⟨ad, len, cap, h1, h2⟩ := h.box
 exact ⟨h.old, h.below.trans (hb.mono h.below.size), ad, len, cap, h1.on hb, h2⟩
theorem RdAt.off {w0 w : World} {k P j : Nat} {bs : List Nat} {fell : Bool} (h : RdAt w0 w k bs fell) (hP : P ≠ k) (hP0 : w0.heap.size ≤ P) (u : Value) : RdAt w0 (w.setCell ⟨P, j, none⟩ u) k bs fell := by
 obtain ⟨ad, len, cap, h1, h2⟩ := h.box
 exact ⟨h.old, h.below.setCell hP0 _, ad, len, cap, box_off h1 hP u, h2⟩
theorem RdAt.grown {w0 w w' : World} {k : Nat} {bs : List Nat} {fell : Bool} {r : Option Nat} (h : RdAt w0 w k bs fell) (hg : w.grownBy w' r) (hr : ∀ j, r = some j → k < j) : RdAt w0 w' k bs fell := by
 obtain ⟨ad, len, cap, h1, h2⟩ := h.box
 refine ⟨h.old, h.below.grown hg h.below.size (fun j hj => Nat.le_trans h.old (Nat.le_of_lt (hr j hj))), ad, len, cap, ?_, h2⟩
 have hlt := h1.lt
 unfold RBox at *
 rw [hg.block k hlt (fun e => Nat.lt_irrefl _ (hr k e.symm))]
 exact h1
theorem RdAt.lt {w0 w : World} {k : Nat} {bs : List Nat} {fell : Bool} (h : RdAt w0 w k bs fell) : k < w.heap.size := by
 obtain ⟨ad, len, cap, h1, h2⟩ := h.box
 exact h1.lt
theorem RdAt.c1 {w0 w : World} {k : Nat} {bs : List Nat} {fell : Bool} (h : RdAt w0 w k bs fell) : w.cell? ⟨k, 1, none⟩ = some (.bool fell) := by
 obtain ⟨ad, len, cap, h1, h2⟩ := h.box
 exact h1.c1
def GivesNum (w0 w : World) (k : Nat) (bs : List Nat) (fell : Bool) (e : Ending) (w' : World) : Prop :=
 e = .returned (.int .i64 (rdN bs fell).1) ∧ RdAt w0 w' k (rdN bs fell).2.1 (rdN bs fell).2.2 ∧ w.grownBy w' (some k)
theorem gives_num {w0 w w1 : World} {k j : Nat} {bs bs' : List Nat} {fell fell' : Bool} {n : Int} {u : Value} {ad : Option Addr} {len cap : Nat} (e : rdN bs fell = (n, bs', fell')) (ho : w0.heap.size ≤ k) (hg : w.grownBy w1 (some k)) (hb : Below w0.heap.size w0 w1)
 (hx : RBox (w1.setCell ⟨k, j, none⟩ u) k (.slice ad len cap) fell') (hy : Byt w0 ad len cap bs') : GivesNum w0 w k bs fell (.returned (.int .i64 n)) (w1.setCell ⟨k, j, none⟩ u) := by
 unfold GivesNum
 rw [e]
 exact ⟨rfl, ⟨ho, hb.setCell ho _, ad, len, cap, hx, hy⟩, grow_set hg j u⟩
set_option maxHeartbeats 2000000 in
set_option maxRecDepth 100000 in
theorem num_any (w0 w : World) (k : Nat) (bs : List Nat) (fell : Bool) (h : RdAt w0 w k bs fell) (hL : bs.length ≤ 140737488355328) :
 Calls Tryz.prog 61 #[.pointer (some ⟨k, 0, none⟩)] w (GivesNum w0 w k bs fell) := by
 obtain ⟨hold, hbel, ad, len, cap, hbox, hbyt⟩ := h
 have HO := Lib.hid hold
 have HBL := Lib.hid hbel
 have HX := Lib.hid hbox
 have HY := Lib.hid hbyt
 have hlen : len ≤ 140737488355328 := by rw [← hbyt.length]; exact hL
 clear hold hbel hbox hbyt hL
 have r0 := HX.out.c0
 go_enter Tryz.func61, Tryz.ntmps61
 go_wp2_with fail
 refine (refGet_any w ad len cap bs (HY.out.keep HBL.out (Nat.le_refl _)) hlen).mono ?_
 rintro e w1 ⟨rfl, hb⟩
 have HG : Hid (w.grownBy w1 (some k)) := grow_below (grow_refl w (some k)) hb
 replace HX := Lib.hid (HX.out.on hb)
 replace HBL := Lib.hid (HBL.out.trans (hb.mono HBL.out.size))
 clear hb r0
 obtain ⟨n, hn⟩ : ∃ n, n = (getB bs).1 := ⟨_, rfl⟩
 obtain ⟨j, hj⟩ : ∃ j, j = (getB bs).2 := ⟨_, rfl⟩
 have hg : getB bs = (n, j) := by rw [hn, hj]
 have hjl : j ≤ len := by have := (getB_bounds bs).2.1; rw [HY.out.length] at this; omega
 rw [← hn, ← hj]
 have HGB := Lib.hid hg
 clear hn hj hg
 have r0 := HX.out.c0
 have r1 := HX.out.c1
 have f0 := HX.out.free 0
 have f1 := HX.out.free 1
 cases fell with
 | true =>
   go_wp2
   go_ret
   exact gives_num (rdN_no (Or.inl rfl)) HO.out HG.out HBL.out (HX.out.s1 true) HY.out
 | false =>
   by_cases hj0 : j = 0
   · subst hj0
     have hd : ((0 : Int) == 0) = true := rfl
     go_wp2
     go_ret
     exact gives_num (rdN_no (Or.inr (by rw [HGB.out]))) HO.out HG.out HBL.out (HX.out.s1 true) HY.out
   · have hd : ((j : Int) == 0) = false := by
      rw [beq_eq_false_iff_ne]
      omega
     obtain ⟨b, off, rfl, hcell⟩ : ∃ b off, ad = some ⟨b, off, none⟩ ∧ True := by
      rcases HY.out.cells with h0 | ⟨b, off, e, _⟩
      · omega
      · exact ⟨b, off, e, trivial⟩
     obtain ⟨o, c, hsl, hby⟩ := from_lit HY.out j (j : Int) rfl hjl
     have HZ := Lib.hid hby
     clear hby
     go_wp2
     go_ret
     exact gives_num (rdN_yes HGB.out hj0) HO.out HG.out HBL.out (HX.out.s0 _) HZ.out
set_option maxHeartbeats 2000000 in
set_option maxRecDepth 100000 in
theorem done_any (w0 w : World) (k : Nat) (bs : List Nat) (fell : Bool) (h : RdAt w0 w k bs fell) :
 Calls Tryz.prog 63 #[.pointer (some ⟨k, 0, none⟩)] w fun e w' => e = .returned (.bool (!fell && bs.isEmpty)) ∧ Below w.heap.size w w' := by
 obtain ⟨hold, hbel, ad, len, cap, hbox, hbyt⟩ := h
 have r0 := hbox.c0
 have r1 := hbox.c1
 have hq : ((len : Int) == 0) = bs.isEmpty := by
  have h1 := hbyt.length
  cases bs with
  | nil => subst h1; rfl
  | cons a r =>
    rw [List.length_cons] at h1
    show _ = false
    rw [beq_eq_false_iff_ne]
    omega
 obtain ⟨q, hq2⟩ : ∃ q, q = bs.isEmpty := ⟨_, rfl⟩
 rw [← hq2] at hq ⊢
 clear hold hbel hbox hbyt hq2
 go_enter Tryz.func63, Tryz.ntmps63
 cases fell with
 | true =>
   go_wp2
   go_ret
   exact ⟨rfl, Below.refl _ _⟩
 | false =>
   go_wp2
   go_ret
   exact ⟨rfl, Below.refl _ _⟩
end Go.Proofs.YtgohekjkbgfeeaaGreat
