/- Parts of a proof, merged: TcApply, TcFold, FcRec. -/
import Derived.Test.YtipaebflkebdjaaKa3
import Derived.Test.YtipaebflkebdjaaKa8
import Derived.Test.YtipaebflkebdjaaKa6
import Derived.Test.YtipaebflkebdjaaKa1
namespace Go.Proofs.Ytipaebflkebdjaa
open Go.RowKit
open Go.SeqMath
open Go.ProdMath
open Go.BatMath hiding AllB getD_lt take_all
set_option linter.unusedVariables false

theorem insM_mem : ∀ (ms : List PM) (x q : PM), q ∈ insM ms x → q = x ∨ q ∈ ms
 | [], x, q, h => .inl (by simpa [insM] using h)
 | m :: ms, x, q, h => by
   unfold insM at h
   split at h
   · rcases List.mem_cons.1 h with h | h
     · exact .inr (by simp [h])
     · rcases insM_mem ms x q h with h | h
       · exact .inl h
       · exact .inr (by simp [h])
   · split at h
     · rcases List.mem_cons.1 h with h | h
       · exact .inl h
       · exact .inr (by simp [h])
     · rcases List.mem_cons.1 h with h | h
       · exact .inl h
       · exact .inr h
/-- 't.states[id] = x'. -/
theorem tc_put {w : World} {km : Nat} {ms : List PM} (h : TcMap w km ms) (ha : Asc (pds ms)) (mx : PM) (k : Int) (hk : mx.p.id = k) (h0 : -9223372036854775808 ≤ k) (h1 : k ≤ 9223372036854775807) :
 ∃ w', (Instr.mapUpdate 104 (.map (some km)) (.int .i64 k) (.agg #[.int .i64 mx.p.id, .int .i64 mx.p.epoch, .slice mx.ad mx.p.last.length mx.cap, .int .i64 mx.p.opn])).run Try.prog w = .ok () w' ∧ TcMap w' km (insM ms mx) ∧ w.grownBy w' (some km) ∧ w'.heap.size = w.heap.size := by
 subst hk
 cases hm : lookM ms mx.p.id with
 | none =>
   have hn := lookM_none hm
   obtain ⟨w', hrun, hmap, hg, hs⟩ := mapAs_put tcMapT keyI h mx (key_int h0 h1) (fun q hq e => hn q hq (by simpa [pmE] using e))
   exact ⟨w', hrun, hmap.perm (insM_new ms mx hn).symm, hg, hs⟩
 | some m0 =>
   obtain ⟨hmem, hid⟩ := lookM_some hm
   obtain ⟨rest, r1, r2⟩ := insM_old ms mx m0 ha hmem hid
   obtain ⟨w', hrun, hmap, hg, hs⟩ := mapAs_set tcMapT keyI (h.perm r1) mx (by show Value.int .i64 m0.p.id = .int .i64 mx.p.id; rw [hid])
   exact ⟨w', hrun, hmap.perm r2.symm, hg, hs⟩
theorem set_other {W : World} {D km j : Nat} (hne : D ≠ km) (u : Value) : (W.setCell ⟨D, j, none⟩ u).heap[km]? = W.heap[km]? := by
 show (W.heap.modify D _)[km]? = _
 rw [Array.getElem?_modify, if_neg hne]
/-- What stands behind the table's Apply. -/
def GivesTcApply (w : World) (kt km : Nat) (l' : List Pd) (r : Option Dr) (e : Ending) (w' : World) : Prop :=
 ∃ d ms, e = .returned (.tuple #[.agg #[.int .i64 d.prod, .int .i64 d.first, .int .i64 d.last], .bool r.isSome]) ∧ r.getD Dr.zero = d ∧ TcOk w' kt km ms ∧ pds ms = l' ∧ w.grownBy w' (some km)
/-- With it: the lists of latest batches are those that were there, or new memory. -/
def TcNew (w : World) (ms0 ms : List PM) : Prop := ∀ m ∈ ms, m ∈ ms0 ∨ ∀ a, m.ad = some a → w.heap.size ≤ a.block
def GivesTcApply2 (w : World) (kt km : Nat) (ms0 : List PM) (l' : List Pd) (r : Option Dr) (e : Ending) (w' : World) : Prop :=
 ∃ d ms, e = .returned (.tuple #[.agg #[.int .i64 d.prod, .int .i64 d.first, .int .i64 d.last], .bool r.isSome]) ∧ r.getD Dr.zero = d ∧ TcOk w' kt km ms ∧ pds ms = l' ∧ w.grownBy w' (some km) ∧ TcNew w ms0 ms
theorem GivesTcApply2.less {w : World} {kt km : Nat} {ms0 : List PM} {l' : List Pd} {r : Option Dr} {e : Ending} {w' : World} (h : GivesTcApply2 w kt km ms0 l' r e w') : GivesTcApply w kt km l' r e w' := by
 obtain ⟨d, ms, h1, h2, h3, h4, h5, _⟩ := h
 exact ⟨d, ms, h1, h2, h3, h4, h5⟩
theorem resultsTcApply {tmps : Array Value} {B : Nat} {W : World} {d : Dr} {x : Value} (h : DBox W B d) (ht : tmps.getD 4 undef = .pointer (some ⟨B, 0, none⟩)) (hx : tmps.getD 5 undef = x) :
 (results Try.f55 tmps).run Try.prog W = .ok (.tuple #[.agg #[.int .i64 d.prod, .int .i64 d.first, .int .i64 d.last], x]) W := by
 rw [results_cell_tmp (p := 4) (u := 5) (ty := 79) Try.results55, ht]
 have hl := run_loadVar_row (P := Try.prog) W B 79 79 _ (0, 0) _ h Try.underlying79 rfl (by kernel_rfl)
 simp only [asAddr, Sem.run_pure, Result.andThen, hl, hx]
/-- What stands ahead of the end. -/
structure TcW (w : World) (km D : Nat) (ms0 ms : List PM) (W : World) : Prop where
 map : TcMap W km ms
 ins : ∀ m ∈ ms, m ∈ ms0 ∨ (LastAt W m ∧ ∀ a, m.ad = some a → a.block ≠ D ∧ w.heap.size ≤ a.block)
 gr : w.grownBy W (some km)
theorem TcW.on {w W W' : World} {km D : Nat} {ms0 ms : List PM} (h : TcW w km D ms0 ms W) (hb : Below W.heap.size W W') : TcW w km D ms0 ms W' :=
 ⟨h.map.on hb, fun m hm => (h.ins m hm).imp_right fun h2 => ⟨h2.1.keep hb, h2.2⟩, grow_below h.gr hb⟩
theorem gives_tcapply {w W : World} {kt km D : Nat} {ms0 ms : List PM} {l' : List Pd} {r : Option Dr} {d : Dr} {u0 u1 u2 : Value} {ok : Bool} (ht : TcOk w kt km ms0) (hW : TcW w km D ms0 ms W) (hD : w.heap.size ≤ D) (hl : pds ms = l') (hok : r.isSome = ok) (hd : r.getD Dr.zero = d) :
 GivesTcApply2 w kt km ms0 l' r (.returned (.tuple #[.agg #[.int .i64 d.prod, .int .i64 d.first, .int .i64 d.last], .bool ok])) (((W.setCell ⟨D, 0, none⟩ u0).setCell ⟨D, 1, none⟩ u1).setCell ⟨D, 2, none⟩ u2) := by
 subst hok
 have hkm := ht.map.lt
 have hne : D ≠ km := by omega
 have hg : w.grownBy (((W.setCell ⟨D, 0, none⟩ u0).setCell ⟨D, 1, none⟩ u1).setCell ⟨D, 2, none⟩ u2) (some km) := grow_new (grow_new (grow_new hW.gr hD _) hD _) hD _
 refine ⟨d, ms, rfl, hd, ⟨ht.box.past_map hg ht.map.is, hW.map.same ?_, fun m hm => ?_⟩, hl, hg, fun m hm => (hW.ins m hm).imp_right fun h a ha => (h.2 a ha).2⟩
 · rw [set_other hne, set_other hne, set_other hne]
 · rcases hW.ins m hm with h | ⟨h, h3⟩
   · exact (ht.ins m h).past_map hg ht.map.is
   · have h2 : ∀ a, m.ad = some a → a.block ≠ D := fun a ha => (h3 a ha).1
     exact ((h.off h2 _ _).off h2 _ _).off h2 _ _
set_option maxRecDepth 100000 in
set_option maxHeartbeats 8000000 in
theorem tcApply2_any (w : World) (kt km : Nat) (ms : List PM) (h : TcOk w kt km ms) (hasc : Asc (pds ms)) (hfew : fewP (pds ms)) (b : Bat) (rd : Option Addr) (rn rc : Nat) (hr : RecsAt w rd rn rc b.recs) (ht : TextsOk b.recs) (hrn : rn ≤ 140737488355328) (hwf : b.prod ≤ 9223372036854775807) :
 Calls Try.prog 55 #[.pointer (some ⟨kt, 0, none⟩), .agg #[.int .i64 b.base, .int .i64 b.prod, .int .i64 b.epoch, .int .i64 b.seq, .bool b.txn, .int .i64 b.marker, .slice rd rn rc]] w (GivesTcApply2 w kt km ms (tapplyD (pds ms) b) (tdropD (pds ms) b)) := by
 obtain ⟨b0, b1, b2, b3, b4, b5, recs⟩ := b
 simp only at hr ht hwf
 simp only
 have HT := Lib.hid h
 obtain ⟨W0, hW0⟩ : ∃ W0, W0 = ((w.alloc (.cells #[.int .i64 b0, .int .i64 b1, .int .i64 b2, .int .i64 b3, .bool b4, .int .i64 b5, .slice rd rn rc] 52)).alloc (.cells #[.int .i64 0, .int .i64 0, .int .i64 0] 79)) := ⟨_, rfl⟩
 have HB0 : Hid (Below w.heap.size w W0) := by show Below _ _ _; rw [hW0]; exact ((Below.refl _ _).alloc (Nat.le_refl _) _).alloc (by simp) _
 have HX0 : Hid (BoxAt W0 w.heap.size b0 b1 b2 b3 b4 b5 (.slice rd rn rc)) := by
  show BoxAt _ _ _ _ _ _ _ _ _
  rw [hW0]
  exact (boxAt_new w b0 b1 b2 b3 b4 b5 (.slice rd rn rc)).keep ((Below.refl _ _).alloc (Nat.le_refl _) _) (by simp)
 have HD0 : Hid (DBox W0 (w.heap.size + 1) Dr.zero) := by
  show DBox _ _ _
  rw [hW0]
  have := dbox_new (w.alloc (.cells #[.int .i64 b0, .int .i64 b1, .int .i64 b2, .int .i64 b3, .bool b4, .int .i64 b5, .slice rd rn rc] 52)) Dr.zero
  rw [show (w.alloc (.cells #[.int .i64 b0, .int .i64 b1, .int .i64 b2, .int .i64 b3, .bool b4, .int .i64 b5, .slice rd rn rc] 52)).heap.size = w.heap.size + 1 by simp] at this
  exact this
 have HT0 := Lib.hid (h.keep HB0.out)
 have HRE0 := Lib.hid (hr.keep HB0.out)
 have hrl := hr.length
 have HF := Lib.hid hfew
 have HAS := Lib.hid hasc
 have HTX := Lib.hid ht
 have HW0 := Lib.hid hW0
 clear h hr hfew hW0 ht hasc
 obtain ⟨B, hB⟩ : ∃ B, B = w.heap.size := ⟨_, rfl⟩
 obtain ⟨D, hD⟩ : ∃ D, D = w.heap.size + 1 := ⟨_, rfl⟩
 have HBD : Hid (w.heap.size ≤ B ∧ w.heap.size ≤ D ∧ D ≠ B) := by show _ ∧ _ ∧ _; omega
 rw [← hB] at HX0
 rw [← hD] at HD0
 obtain ⟨l, hl⟩ : ∃ l, l = pds ms := ⟨_, rfl⟩
 obtain ⟨r, hre⟩ : ∃ r, rightE ⟨b0, b1, b2, b3, b4, b5, recs⟩ = r := ⟨_, rfl⟩
 have HRE := Lib.hid hre
 obtain ⟨l', hl'⟩ : ∃ l', tapplyD (pds ms) ⟨b0, b1, b2, b3, b4, b5, recs⟩ = l' := ⟨_, rfl⟩
 obtain ⟨dr, hdr⟩ : ∃ dr, tdropD (pds ms) ⟨b0, b1, b2, b3, b4, b5, recs⟩ = dr := ⟨_, rfl⟩
 rw [hl', hdr]
 have HLP := Lib.hid hl'
 have HDR := Lib.hid hdr
 clear hl' hdr hre
 go_enter Try.func55, Try.ntmps55
 go_upto_region 1 with fail
 rw [← HW0.out, ← hD, ← hB]
 clear hB hD HW0
 have p0 := HX0.out.c0
 have p1 := HX0.out.c1
 have p2 := HX0.out.c2
 have p3 := HX0.out.c3
 have p4 := HX0.out.c4
 have p5 := HX0.out.c5
 have p6 := HX0.out.c6
 go_wp2_with fail
 have CR := batRight_any W0 ⟨b0, b1, b2, b3, b4, b5, recs⟩ rd rn rc HRE0.out HTX.out hrn
 rw [HRE.out] at CR
 refine CR.mono ?_
 clear CR
 rintro e w1 ⟨rfl, hb1⟩
 have HB1 := Lib.hid (HB0.out.trans (hb1.mono HB0.out.size))
 have HX1 := Lib.hid (HX0.out.on hb1)
 have HD1 := Lib.hid (HD0.out.on hb1)
 have HT1 := Lib.hid (HT0.out.keep hb1)
 clear hb1 HX0 HD0 HT0 p0 p1 p2 p3 p4 p5 p6
 have p1 := HX1.out.c1
 by_cases hz : r = 0 ∧ b1 ≠ -1
 · obtain ⟨hz1, hz2⟩ := hz
   have hd : (r != 0) = false := by rw [hz1]; rfl
   have hd2 : (b1 == -1) = false := beq_false_of_ne hz2
   have HRR : Hid (rightE ⟨b0, b1, b2, b3, b4, b5, recs⟩ = 0) := by show _ = _; rw [HRE.out, hz1]
   have hn0 : 0 ≤ b1 := by
    rcases right_prod HRR.out with h | h
    · exact absurd h hz2
    · exact h
   obtain ⟨p, kn, pd, pn, pc, hp, hk, hn5, hlk, _, hrow⟩ := tc_look ms b1 (by omega) hwf HF.out
   have HLQ : Hid (l' = insD (pds ms) (applyD p kn ⟨b0, b1, b2, b3, b4, b5, recs⟩)) := by
    show _ = _
    rw [← HLP.out, tapply_ins HAS.out _ HRR.out hn0, ← hp, ← hk]
   have HDQ : Hid (dr = if (kn && (decide (b5 = 2) && decide (0 ≤ p.opn))) = true then some ⟨b1, p.opn, b0⟩ else none) := by
    show _ = _
    have h3 := has_look HAS.out b1
    rw [← HDR.out]
    unfold tdropD
    rw [if_neg (by rw [HRR.out]; show ¬ (0 ≠ 0 ∨ b1 < 0); omega)]
    unfold dropsB
    show (if (hasD (pds ms) b1 && (decide (b5 = 2) && decide (0 ≤ (getD (pds ms) b1).opn))) = true then some (⟨b1, (getD (pds ms) b1).opn, b0⟩ : Dr) else none) = _
    rw [h3.1, h3.2, hp, hk]
   have HLK := Lib.hid hlk
   have HRO := Lib.hid hrow
   have KS : Hid (∀ V, Below w1.heap.size w1 V → (fun (V : World) => V.cell? ⟨kt, 0, none⟩ = some (.map (some km)) ∧ V.cell? ⟨B, 1, none⟩ = some (.int .i64 b1) ∧ TcMap V km ms) V) := fun V hV => ⟨(HT1.out.keep hV).box.c0, (HX1.out.on hV).c1, (HT1.out.keep hV).map⟩
   have hdrw : Below w1.heap.size w1 w1.drew := (Below.refl _ w1).drew
   clear hz1 hz2 hp hk hlk hrow HLP HDR
   obtain ⟨pid, pep, pl, po⟩ := p
   simp only at HLQ HDQ HLK HRO
   go_upto_region 3 with fail
   clear p1
   refine wp_region_noPanic ?_
   refine wp_region_z [] (fun (V : World) => V.cell? ⟨kt, 0, none⟩ = some (.map (some km)) ∧ V.cell? ⟨B, 1, none⟩ = some (.int .i64 b1) ∧ TcMap V km ms) (by kernel_rfl) ?_
   have hHeld := KS.out _ hdrw
   obtain ⟨u0, hu0⟩ : ∃ u, u = w1.drew := ⟨_, rfl⟩
   rw [← hu0] at hHeld hdrw
   rw [← hu0]
   clear hu0
   have HU0 := Lib.hid hdrw
   clear hdrw
   refine zt 0 ?_
   refine zt 1 ?_
   refine zt 2 ?_
   refine zt 3 ?_
   refine zt 4 ?_
   refine zt 5 ?_
   refine wpAnyZ_take (i := 6) (oi := ⟨_, _, _, _, _, _⟩) (v := ?_) rfl (by kernel_rfl) (by kernel_rfl) (by kernel_rfl) (by kernel_rfl) (by kernel_rfl) (fun _ _ _ h => h) (Or.inl ⟨by rfl, ?_⟩) (by assumption) ?_
   rotate_left
   · intro W hSw
     (try dsimp only at hSw)
     have hlk := HLK.out W km hSw.2.2
     go_simp
     (try with_reducible rfl)
   (try simp only [Act.put, List.setIfInBounds_toArray, List.set_cons_zero, List.set_cons_succ])
   refine zt 7 ?_
   refine zt 8 ?_
   refine zt 9 ?_
   refine zr 10 (fun C hC => ?_)
   go_simp
   obtain ⟨u1, hu1⟩ : ∃ z, z = u0.alloc (.cells #[.int .i64 0, .int .i64 0, .slice none 0 0, .int .i64 0] 48) := ⟨_, rfl⟩
   obtain ⟨P, hP⟩ : ∃ z, z = u0.heap.size := ⟨_, rfl⟩
   have HP1 : Hid (PBox u1 P 0 0 (.slice none 0 0) 0) := by show PBox _ _ _ _ _ _; rw [hu1, hP]; exact pbox_new u0 _ _ _ _
   have HU1 : Hid (Below w1.heap.size w1 u1) := by show Below _ _ _; rw [hu1]; exact HU0.out.trans ((Below.refl _ _).alloc HU0.out.size _)
   have HPW : Hid (w1.heap.size ≤ P) := by show _ ≤ _; rw [hP]; exact HU0.out.size
   try rw [← hu1, ← hP]
   clear hu1 hP
   have hHeld := KS.out _ HU1.out
   refine zc hC hHeld ?_
   clear hC C
   have r0 := HP1.out.c0
   have r1 := HP1.out.c1
   have r2 := HP1.out.c2
   have r3 := HP1.out.c3
   have f0 := HP1.out.free 0
   have f1 := HP1.out.free 1
   have f2 := HP1.out.free 2
   have f3 := HP1.out.free 3
   refine zr 11 (fun C hC => ?_)
   go_simp
   obtain ⟨u2, hu2⟩ : ∃ z, z = (((u1.setCell ⟨P, 0, none⟩ (.int .i64 pid)).setCell ⟨P, 1, none⟩ (.int .i64 pep)).setCell ⟨P, 2, none⟩ (.slice pd pn pc)).setCell ⟨P, 3, none⟩ (.int .i64 po) := ⟨_, rfl⟩
   have HP2 : Hid (PBox u2 P pid pep (.slice pd pn pc) po) := by show PBox _ _ _ _ _ _; rw [hu2]; exact (((HP1.out.s0 pid).s1 pep).s2 (.slice pd pn pc)).s3 po
   have HU2 : Hid (Below w1.heap.size w1 u2) := by show Below _ _ _; rw [hu2]; exact (((HU1.out.setCell HPW.out _).setCell HPW.out _).setCell HPW.out _).setCell HPW.out _
   try rw [← hu2]
   clear hu2 r0 r1 r2 r3 f0 f1 f2 f3 HP1
   have hHeld := KS.out _ HU2.out
   refine zc hC hHeld ?_
   clear hC C
   refine zt 12 ?_
   refine wpAnyZ_done (by kernel_rfl) ?_ _
   refine NoPanic.normal ?_
   clear hHeld KS HU0 HU1
   have HB2 := Lib.hid (HB1.out.trans (HU2.out.mono HB1.out.size))
   have HX2 := Lib.hid (HX1.out.on HU2.out)
   have HD2 := Lib.hid (HD1.out.on HU2.out)
   have HT2 := Lib.hid (HT1.out.keep HU2.out)
   have HRW2 := Lib.hid (HRO.out u2 HT2.out.ins)
   have HPB : Hid (w.heap.size ≤ P) := Nat.le_trans HB1.out.size HPW.out
   have HPD : Hid (P ≠ D ∧ P ≠ B) := by
    have h1 := HD1.out.lt
    have h2 := HX1.out.lt
    have h3 := HPW.out
    show _ ∧ _
    omega
   obtain ⟨x, hx⟩ : ∃ x, applyD ⟨pid, pep, pl, po⟩ kn ⟨b0, b1, b2, b3, b4, b5, recs⟩ = x := ⟨_, rfl⟩
   have HAP := Lib.hid hx
   have hxid : x.id = b1 := by rw [← hx, apply_id]
   have HXI := Lib.hid hxid
   clear hx hxid HX1 HD1 HT1 HU2 HPW HRO HLK
   have KS : Hid (∀ V, Below u2.heap.size u2 V → (fun (V : World) => V.cell? ⟨kt, 0, none⟩ = some (.map (some km)) ∧ V.cell? ⟨P, 0, none⟩ = some (.int .i64 pid) ∧ V.cell? ⟨P, 1, none⟩ = some (.int .i64 pep) ∧ V.cell? ⟨P, 2, none⟩ = some (.slice pd pn pc) ∧ V.cell? ⟨P, 3, none⟩ = some (.int .i64 po) ∧ V.cell? ⟨B, 0, none⟩ = some (.int .i64 b0) ∧ V.cell? ⟨B, 1, none⟩ = some (.int .i64 b1) ∧ V.cell? ⟨B, 2, none⟩ = some (.int .i64 b2) ∧ V.cell? ⟨B, 3, none⟩ = some (.int .i64 b3) ∧ V.cell? ⟨B, 4, none⟩ = some (.bool b4) ∧ V.cell? ⟨B, 5, none⟩ = some (.int .i64 b5) ∧ V.cell? ⟨B, 6, none⟩ = some (.slice rd rn rc)) V) := fun V hV => ⟨(HT2.out.keep hV).box.c0, (HP2.out.on hV).c0, (HP2.out.on hV).c1, (HP2.out.on hV).c2, (HP2.out.on hV).c3, (HX2.out.on hV).c0, (HX2.out.on hV).c1, (HX2.out.on hV).c2, (HX2.out.on hV).c3, (HX2.out.on hV).c4, (HX2.out.on hV).c5, (HX2.out.on hV).c6⟩
   have hdrw : Below u2.heap.size u2 u2.drew := (Below.refl _ u2).drew
   go_upto_region 4 with fail
   refine wp_region_noPanic ?_
   refine wp_region_z [10] (fun (V : World) => V.cell? ⟨kt, 0, none⟩ = some (.map (some km)) ∧ V.cell? ⟨P, 0, none⟩ = some (.int .i64 pid) ∧ V.cell? ⟨P, 1, none⟩ = some (.int .i64 pep) ∧ V.cell? ⟨P, 2, none⟩ = some (.slice pd pn pc) ∧ V.cell? ⟨P, 3, none⟩ = some (.int .i64 po) ∧ V.cell? ⟨B, 0, none⟩ = some (.int .i64 b0) ∧ V.cell? ⟨B, 1, none⟩ = some (.int .i64 b1) ∧ V.cell? ⟨B, 2, none⟩ = some (.int .i64 b2) ∧ V.cell? ⟨B, 3, none⟩ = some (.int .i64 b3) ∧ V.cell? ⟨B, 4, none⟩ = some (.bool b4) ∧ V.cell? ⟨B, 5, none⟩ = some (.int .i64 b5) ∧ V.cell? ⟨B, 6, none⟩ = some (.slice rd rn rc)) (by kernel_rfl) ?_
   have hHeld := KS.out _ hdrw
   obtain ⟨u3, hu3⟩ : ∃ u, u = u2.drew := ⟨_, rfl⟩
   rw [← hu3] at hHeld hdrw
   rw [← hu3]
   clear hu3
   have HU3 := Lib.hid hdrw
   clear hdrw
   refine zt 0 ?_
   refine zt 1 ?_
   refine zt 2 ?_
   refine zt 3 ?_
   refine zt 4 ?_
   refine zt 5 ?_
   refine zt 6 ?_
   refine zt 7 ?_
   refine zt 8 ?_
   refine zr 9 (fun C hC => ?_)
   go_simp
   refine (prApply_any u3 pid pep po pl pd pn pc (HRW2.out.keep HU3.out) (by omega) kn b0 b1 b2 b3 b4 b5 recs rd rn rc hrl hrn x HAP.out).mono ?_
   rintro e u4 ⟨xd, xn, xc, rfl, hxr, hxk, hb4⟩
   have hxn := hxr.length
   have HU4 := Lib.hid (HU3.out.trans (hb4.mono HU3.out.size))
   have HXR4 := Lib.hid hxr
   have HXK : Hid (∀ a, xd = some a → u2.heap.size ≤ a.block) := fun a ha => Nat.le_trans HU3.out.size (hxk a ha).1
   clear hb4 hxr hxk
   have hHeld := KS.out _ HU4.out
   refine zc hC hHeld ?_
   clear hC C
   have hT4 := HT2.out.keep HU4.out
   obtain ⟨u5, hput, hmap5, hg5, hs5⟩ := tc_put hT4.map HAS.out ⟨x, xd, xc⟩ b1 HXI.out (by omega) hwf
   simp only at hput
   rw [hxn] at hput
   have HXN := Lib.hid hxn
   have hkm := HT.out.map.lt
   have HKM : Hid (km ≠ D ∧ km ≠ B ∧ km ≠ P) := by
    have h1 := HBD.out
    have h2 := HPB.out
    show _ ∧ _ ∧ _
    omega
   have HD5 : Hid (DBox u5 D Dr.zero) := (HD2.out.on HU4.out).grown hg5 fun e => HKM.out.1 (Option.some.inj e)
   have HX5 : Hid (BoxAt u5 B b0 b1 b2 b3 b4 b5 (.slice rd rn rc)) := (HX2.out.on HU4.out).grows hg5 fun e => HKM.out.2.1 (Option.some.inj e)
   have HP5 : Hid (PBox u5 P pid pep (.slice pd pn pc) po) := (HP2.out.on HU4.out).grown hg5 fun e => HKM.out.2.2 (Option.some.inj e)
   have HW5 : Hid (TcW w km D ms (insM ms ⟨x, xd, xc⟩) u5) := by
    refine ⟨hmap5, fun m hm => ?_, grow_trans (grow_below (grow_refl w _) (HB2.out.trans (HU4.out.mono HB2.out.size))) hg5⟩
    rcases insM_mem _ _ _ hm with rfl | hm
    · refine .inr ⟨?_, fun a ha => ?_⟩
      · have h1 := HXR4.out.past_map hg5 hT4.map.is
        show RowAt trK u5 xd x.last.length xc x.last
        rw [HXN.out]
        exact h1
      · have h1 := HXK.out a ha
        have h2 := HD2.out.lt
        have h3 := HB2.out.size
        exact ⟨by omega, by omega⟩
    · exact .inl hm
   have HPL : Hid (pds (insM ms ⟨x, xd, xc⟩) = l') := by show _ = _; rw [insM_pds, HLQ.out, HAP.out]
   clear hT4 hmap5 hg5 hs5 hxn hkm
   refine zr 10 (fun C hC => ?_)
   go_simp
   refine hC.out _ _ (zfree_no (by kernel_rfl)) (fun _ => ?_)
   clear hC C
   (try simp only [Act.put, List.setIfInBounds_toArray, List.set_cons_zero, List.set_cons_succ])
   refine wpAnyZ_done (by kernel_rfl) ?_ _
   refine NoPanic.normal ?_
   clear hHeld KS hput
   clear HT2 HRW2 HF HAS HRE0 HTX HB0 HB1 HB2 HX2 HD2 HP2
   have r0 := HD5.out.c0
   have r1 := HD5.out.c1
   have r2 := HD5.out.c2
   have f0 := HD5.out.free 0
   have f1 := HD5.out.free 1
   have f2 := HD5.out.free 2
   have p5 := HX5.out.c5
   have hDw : w.heap.size ≤ D := HBD.out.2.1
   by_cases hm : b5 = 2
   · have hd5 : (b5 != 2) = false := by rw [hm]; rfl
     cases kn
     · have HDN : Hid (dr = none) := by show _ = _; rw [HDQ.out]; rfl
       clear HDQ HLQ hm
       go_wp2
       exact bodyPost_ret (v := .tuple #[.agg #[.int .i64 0, .int .i64 0, .int .i64 0], .bool false]) (resultsTcApply (HD5.out.s 0 0 0) rfl rfl) rfl (gives_tcapply (d := ⟨0, 0, 0⟩) HT.out HW5.out hDw HPL.out (by rw [HDN.out]; rfl) (by rw [HDN.out]; rfl))
     · have q0 := HP5.out.c0
       have q1 := HP5.out.c1
       have q2 := HP5.out.c2
       have q3 := HP5.out.c3
       by_cases ho : 0 ≤ po
       · have HDN : Hid (dr = some ⟨b1, po, b0⟩) := by show _ = _; rw [HDQ.out, if_pos (by simp [hm, ho])]
         have HO : Hid (decide (0 ≤ po) = true) := decide_eq_true ho
         clear HDQ HLQ hm ho
         go_wp2_with fail
         refine (tcOpen_any u5 pid pep po pd pn pc true HO.out).mono ?_
         rintro e w6 ⟨rfl, hb6⟩
         have HD6 := Lib.hid (HD5.out.on hb6)
         have HX6 := Lib.hid (HX5.out.on hb6)
         have HP6 := Lib.hid (HP5.out.on hb6)
         have HW6 := Lib.hid (HW5.out.on hb6)
         clear hb6 HD5 HX5 HP5 HW5 r0 r1 r2 f0 f1 f2 p5 q0 q1 q2 q3
         have r0 := HD6.out.c0
         have r1 := HD6.out.c1
         have r2 := HD6.out.c2
         have f0 := HD6.out.free 0
         have f1 := HD6.out.free 1
         have f2 := HD6.out.free 2
         have p0 := HX6.out.c0
         have p1 := HX6.out.c1
         have q3 := HP6.out.c3
         go_wp2
         exact bodyPost_ret (v := .tuple #[.agg #[.int .i64 b1, .int .i64 po, .int .i64 b0], .bool true]) (resultsTcApply (HD6.out.s b1 po b0) rfl rfl) rfl (gives_tcapply (d := ⟨b1, po, b0⟩) HT.out HW6.out hDw HPL.out (by rw [HDN.out]; rfl) (by rw [HDN.out]; rfl))
       · have HDN : Hid (dr = none) := by show _ = _; rw [HDQ.out, if_neg (by simp [ho])]
         have HO : Hid (decide (0 ≤ po) = false) := decide_eq_false ho
         clear HDQ HLQ hm ho
         go_wp2_with fail
         refine (tcOpen_any u5 pid pep po pd pn pc false HO.out).mono ?_
         rintro e w6 ⟨rfl, hb6⟩
         have HD6 := Lib.hid (HD5.out.on hb6)
         have HW6 := Lib.hid (HW5.out.on hb6)
         clear hb6 HD5 HX5 HP5 HW5 r0 r1 r2 f0 f1 f2 p5 q0 q1 q2 q3
         have r0 := HD6.out.c0
         have r1 := HD6.out.c1
         have r2 := HD6.out.c2
         have f0 := HD6.out.free 0
         have f1 := HD6.out.free 1
         have f2 := HD6.out.free 2
         go_wp2
         exact bodyPost_ret (v := .tuple #[.agg #[.int .i64 0, .int .i64 0, .int .i64 0], .bool false]) (resultsTcApply (HD6.out.s 0 0 0) rfl rfl) rfl (gives_tcapply (d := ⟨0, 0, 0⟩) HT.out HW6.out hDw HPL.out (by rw [HDN.out]; rfl) (by rw [HDN.out]; rfl))
   · have hd5 : (b5 != 2) = true := by simp [hm]
     have HDN : Hid (dr = none) := by show _ = _; rw [HDQ.out, if_neg (by simp [hm])]
     clear HDQ HLQ hm
     go_wp2
     exact bodyPost_ret (v := .tuple #[.agg #[.int .i64 0, .int .i64 0, .int .i64 0], .bool false]) (resultsTcApply (HD5.out.s 0 0 0) rfl rfl) rfl (gives_tcapply (d := ⟨0, 0, 0⟩) HT.out HW5.out hDw HPL.out (by rw [HDN.out]; rfl) (by rw [HDN.out]; rfl))
 · have hor : rightE ⟨b0, b1, b2, b3, b4, b5, recs⟩ ≠ 0 ∨ (⟨b0, b1, b2, b3, b4, b5, recs⟩ : Bat).prod < 0 := by
    rw [HRE.out]
    show r ≠ 0 ∨ b1 < 0
    omega
   have HLN : Hid (pds ms = l') := by show _ = _; rw [← HLP.out, tapply_no hor]
   have HDN : Hid (dr = none) := by
    show _ = _
    rw [← HDR.out]
    unfold tdropD
    rw [if_pos hor]
   have HW1 : Hid (TcW w km D ms ms w1) := ⟨HT1.out.map, fun m hm => .inl hm, grow_below (grow_refl w _) HB1.out⟩
   have r0 := HD1.out.c0
   have r1 := HD1.out.c1
   have r2 := HD1.out.c2
   have f0 := HD1.out.free 0
   have f1 := HD1.out.free 1
   have f2 := HD1.out.free 2
   have hDw : w.heap.size ≤ D := HBD.out.2.1
   clear hor
   by_cases hz1 : r = 0
   · have hd : (r != 0) = false := by rw [hz1]; rfl
     have hn : b1 = -1 := Classical.byContradiction fun h => hz ⟨hz1, h⟩
     have hd2 : (b1 == -1) = true := by rw [hn]; rfl
     clear hz hz1 hn
     go_wp2
     exact bodyPost_ret (v := .tuple #[.agg #[.int .i64 0, .int .i64 0, .int .i64 0], .bool false]) (resultsTcApply (HD1.out.s 0 0 0) rfl rfl) rfl (gives_tcapply (d := ⟨0, 0, 0⟩) HT.out HW1.out hDw HLN.out (by rw [HDN.out]; rfl) (by rw [HDN.out]; rfl))
   · have hd : (r != 0) = true := by simp [hz1]
     clear hz hz1
     go_wp2
     exact bodyPost_ret (v := .tuple #[.agg #[.int .i64 0, .int .i64 0, .int .i64 0], .bool false]) (resultsTcApply (HD1.out.s 0 0 0) rfl rfl) rfl (gives_tcapply (d := ⟨0, 0, 0⟩) HT.out HW1.out hDw HLN.out (by rw [HDN.out]; rfl) (by rw [HDN.out]; rfl))
theorem tcApply_any (w : World) (kt km : Nat) (ms : List PM) (h : TcOk w kt km ms) (hasc : Asc (pds ms)) (hfew : fewP (pds ms)) (b : Bat) (rd : Option Addr) (rn rc : Nat) (hr : RecsAt w rd rn rc b.recs) (ht : TextsOk b.recs) (hrn : rn ≤ 140737488355328) (hwf : b.prod ≤ 9223372036854775807) :
 Calls Try.prog 55 #[.pointer (some ⟨kt, 0, none⟩), .agg #[.int .i64 b.base, .int .i64 b.prod, .int .i64 b.epoch, .int .i64 b.seq, .bool b.txn, .int .i64 b.marker, .slice rd rn rc]] w (GivesTcApply w kt km (tapplyD (pds ms) b) (tdropD (pds ms) b)) := (tcApply2_any w kt km ms h hasc hfew b rd rn rc hr ht hrn hwf).mono fun e w' h => h.less
end Go.Proofs.Ytipaebflkebdjaa
namespace Go.Proofs.Ytipaebflkebdjaa
open Go.RowKit
open Go.SeqMath
open Go.ProdMath
open Go.BatMath hiding AllB getD_lt take_all
set_option linter.unusedVariables false

def GivesTcFold (w : World) (bs : List Bat) (e : Ending) (w' : World) : Prop :=
 ∃ kt km ps, e = .returned (.pointer (some ⟨kt, 0, none⟩)) ∧ TcOk w' kt km ps ∧ pds ps = foldP [] bs ∧ w.heap.size ≤ kt ∧ w.heap.size ≤ km ∧ Below w.heap.size w w'
set_option maxRecDepth 100000 in
set_option maxHeartbeats 4000000 in
theorem tcFold_any (w : World) (ad : Option Addr) (len cap : Nat) (ms : List BM) (h : BatsAt w ad len cap ms) (hL : len ≤ 100000) (hok : BatsOk (bats ms)) :
 Calls Try.prog 36 #[.slice ad len cap] w (GivesTcFold w (bats ms)) := by
 have H := Lib.hid h
 have hlen := h.row.length
 obtain ⟨bs, hbs⟩ : ∃ bs, bs = bats ms := ⟨_, rfl⟩
 have hbl : bs.length = len := by rw [hbs]; unfold bats; rw [List.length_map]; exact hlen
 have HGET : Hid (∀ (i : Nat) m, ms[i]? = some m → bs[i]? = some m.b) := by
  intro i m hm
  rw [hbs]; unfold bats
  rw [List.getElem?_map, hm]; rfl
 rw [← hbs] at hok
 rw [← hbs]
 have HOK := Lib.hid hok
 have HBL := Lib.hid hbl
 clear h hbs hlen hok hbl
 go_enter Try.func36, Try.ntmps36
 go_wp2_with fail
 refine (tcNew_any w).mono ?_
 rintro e w1 ⟨kt, km, rfl, ht1, hb1, hk1, hk2⟩
 have HT1 := Lib.hid ht1
 have HB1 := Lib.hid hb1
 have HKT : Hid (w.heap.size ≤ kt ∧ w.heap.size ≤ km) := ⟨hk1, hk2⟩
 clear ht1 hb1 hk1 hk2
 go_wp2
 go_loopw [9] (fun v9 wr => ∃ j ps, v9 = .int .i64 ((j : Nat) : Int) ∧ j ≤ len ∧ Hid (TcOk wr kt km ps) ∧ Hid (pds ps = foldP [] (bs.take j)) ∧ Hid (Below w.heap.size w wr)) (fun v9 _ => len - (intOf v9).toNat)
 case atStart => exact ⟨0, [], rfl, Nat.zero_le _, HT1.out, rfl, HB1.out⟩
 case round =>
  obtain ⟨j, ps, rfl, hj, HT, HPS, HB⟩ := hrel
  clear HT1 HB1
  obtain ⟨wo, hwo⟩ : ∃ wo : World, wo = wr := ⟨_, rfl⟩
  subst hwo
  by_cases hlt : j < len
  · have hd : decide (j < len) = true := decide_eq_true hlt
    have hjl : (j : Int) < (len : Int) := by omega
    obtain ⟨bk, off, m, rfl, hbk, hm, hrec, c0, c1, c2, c3, c4, c5, c6⟩ := (H.out.keep HB.out).get hlt
    have hbm := HGET.out j m hm
    have htk : bs.take (j + 1) = bs.take j ++ [m.b] := by
     rw [List.take_add_one, hbm]; rfl
    have HTK := Lib.hid htk
    obtain ⟨hk1, hk2, hk3⟩ := HOK.out m.b (List.mem_of_getElem? hbm)
    have HK1 := Lib.hid hk1
    have HFEW : Hid (fewP (pds ps)) := by show fewP _; rw [HPS.out]; exact foldP_few _ (fun p hp => by cases hp)
    have HASC : Hid (Asc (pds ps)) := by show Asc _; rw [HPS.out]; exact fold_asc _ asc_nil
    have HRC := Lib.hid hrec
    clear hbm htk hk1 hm hrec hbk
    go_upto_region 5 with fail
    obtain ⟨W1, hW1⟩ : ∃ W1, W1 = wo.alloc (.cells #[.int .i64 m.b.base, .int .i64 m.b.prod, .int .i64 m.b.epoch, .int .i64 m.b.seq, .bool m.b.txn, .int .i64 m.b.marker, .slice m.ad m.b.recs.length m.cap] 52) := ⟨_, rfl⟩
    have hb1 : Below wo.heap.size wo W1 := by rw [hW1]; exact (Below.refl _ _).alloc (Nat.le_refl _) _
    obtain ⟨K, hK⟩ : ∃ K, K = wo.heap.size := ⟨_, rfl⟩
    have HX1 : Hid (BoxAt W1 K m.b.base m.b.prod m.b.epoch m.b.seq m.b.txn m.b.marker (.slice m.ad m.b.recs.length m.cap)) := by show BoxAt _ _ _ _ _ _ _ _ _; rw [hW1, hK]; exact boxAt_new wo _ _ _ _ _ _ _
    have HT1 := Lib.hid (HT.out.keep hb1)
    have HB1 := Lib.hid (HB.out.trans (hb1.mono HB.out.size))
    have HRC1 := Lib.hid (HRC.out.keep hb1)
    rw [← hW1, ← hK]
    clear hW1 hb1 hK c0 c1 c2 c3 c4 c5 c6
    have p0 := HX1.out.c0
    have p1 := HX1.out.c1
    have p2 := HX1.out.c2
    have p3 := HX1.out.c3
    have p4 := HX1.out.c4
    have p5 := HX1.out.c5
    have p6 := HX1.out.c6
    obtain ⟨l', hl'⟩ : ∃ l', tapplyD (pds ps) m.b = l' := ⟨_, rfl⟩
    obtain ⟨dr, hdr⟩ : ∃ dr, tdropD (pds ps) m.b = dr := ⟨_, rfl⟩
    have CA := tcApply_any W1 kt km ps HT1.out HASC.out HFEW.out m.b m.ad m.b.recs.length m.cap HRC1.out HK1.out hk3 hk2
    rw [hl', hdr] at CA
    have CAH := Lib.hid CA
    have HP2 : Hid (l' = foldP [] (bs.take (j + 1))) := by show _ = _; rw [HTK.out, foldP_snoc, ← HPS.out, hl']
    clear CA hl' hdr HPS HTK HFEW HASC HK1
    go_wp2_with fail
    refine CAH.out.mono ?_
    rintro e w2 ⟨d, ps2, rfl, hdd, ht2, hp2, hg2⟩
    have HT2 := Lib.hid ht2
    have HP3 : Hid (pds ps2 = foldP [] (bs.take (j + 1))) := by show _ = _; rw [hp2, HP2.out]
    have HB2 : Hid (Below w.heap.size w w2) := HB1.out.trans (below_grown hg2 HKT.out.2 HB1.out.size)
    clear ht2 hp2 hg2 CAH p0 p1 p2 p3 p4 p5 p6 HT1 HX1 HP2 hdd HT HB HRC
    go_wp2
    go_roundw
    case rel => exact ⟨j + 1, ps2, rfl, by omega, HT2.out, HP3.out, HB2.out⟩
    case measure => simp [intOf]; omega
  · have hd : decide (j < len) = false := decide_eq_false hlt
    have hjl : j = len := by omega
    have HFIN : Hid (pds ps = foldP [] bs) := by
     show _ = _
     rw [HPS.out, hjl, ← HBL.out, List.take_length]
    clear HPS hjl
    go_wp2
    go_ret
    exact ⟨kt, km, ps, rfl, HT.out, HFIN.out, HKT.out.1, HKT.out.2, HB.out⟩
def GivesTcOpen (w : World) (l : List Pd) (e : Ending) (w' : World) : Prop := ∃ v, IsLeast l v ∧ e = .returned (.tuple #[.int .i64 v, .bool (v != -1)]) ∧ Below w.heap.size w w'
set_option maxRecDepth 100000 in
set_option maxHeartbeats 4000000 in
theorem tcOpens_any (w : World) (kt km : Nat) (ms : List PM) (h : TcOk w kt km ms) :
 Calls Try.prog 37 #[.pointer (some ⟨kt, 0, none⟩)] w (GivesTcOpen w (pds ms)) := by
 have H := Lib.hid h
 have t0 := h.box.c0
 obtain ⟨w2, hrange, hrg, hb2, hs2⟩ := mapAs_range (P := Try.prog) tcMapT h.map
 obtain ⟨rr, hrr⟩ : ∃ z, z = w.heap.size := ⟨_, rfl⟩
 rw [← hrr] at hrange hrg
 have HRR : Hid (rr = w.heap.size) := hrr
 have HRG2 := Lib.hid hrg
 have HB2 := Lib.hid hb2
 clear h hrg hb2 hs2 hrr
 go_enter Try.func37, Try.ntmps37
 go_wp2_with fail
 clear hrange t0
 go_loopw [4] (fun v4 wr => ∃ v dn lf, v4 = .int .i64 v ∧ Hid (RangeAs Try.prog 2 pmE wr km rr ms dn lf) ∧ Hid (IsLeast (pds dn) v) ∧ Hid (Below w.heap.size w wr)) (fun _ wr => wr.rangeLeft km rr)
 case atStart => exact ⟨-1, [], ms, rfl, HRG2.out, least_nil, HB2.out⟩
 case round =>
  obtain ⟨v, dn, lf, rfl, HRG, HLE, HBL⟩ := hrel
  obtain ⟨w4, hw4⟩ : ∃ z : World, z = wr := ⟨_, rfl⟩
  subst hw4
  clear HRG2 HB2
  rcases mapAs_next (P := Try.prog) HRG.out 0 with ⟨hl0, hnext⟩ | ⟨p, lf', w5, hlp, hpm, hnext, hrg5, hg5, hs5, hen⟩
  · have HLF : Hid (lf = []) := hl0
    clear hl0
    go_wp2
    go_ret2
    have h1 := HRG.out.all
    rw [HLF.out, List.append_nil] at h1
    exact ⟨v, least_perm HLE.out (h1.symm.map _), rfl, HBL.out⟩
  · simp only [pmE] at hnext hen
    have HRG5 := Lib.hid hrg5
    have HCNT := Lib.hid HRG.out.count
    have HCNTN := Lib.hid hlp.length_eq
    have HB5 : Hid (Below w.heap.size w w5) := HBL.out.trans (below_grown hg5 (Nat.le_of_eq HRR.out.symm) HBL.out.size)
    obtain ⟨⟨pid, pep, pl, po⟩, pd, pc⟩ := p
    simp only at hnext hen
    obtain ⟨pn, hpn⟩ : ∃ n, n = pl.length := ⟨_, rfl⟩
    rw [← hpn] at hnext hen
    clear hlp hrg5 hg5 hs5 hpm hpn HBL HRG
    go_upto_region 5 with fail
    obtain ⟨W6, hW6⟩ : ∃ z, z = w5.alloc (.cells #[.int .i64 pid, .int .i64 pep, .slice pd pn pc, .int .i64 po] 48) := ⟨_, rfl⟩
    have hb : Below w5.heap.size w5 W6 := by rw [hW6]; exact (Below.refl _ _).alloc (Nat.le_refl _) _
    obtain ⟨P, hP⟩ : ∃ P, P = w5.heap.size := ⟨_, rfl⟩
    have HP6 : Hid (PBox W6 P pid pep (.slice pd pn pc) po) := by show PBox _ _ _ _ _ _; rw [hW6, hP]; exact pbox_new w5 _ _ _ _
    have HR6 := Lib.hid (HRG5.out.on hb)
    have HB6 := Lib.hid (HB5.out.trans (hb.mono HB5.out.size))
    rw [← hW6, ← hP]
    clear hW6 hP hb hnext hen HRG5 HB5
    have q0 := HP6.out.c0
    have q1 := HP6.out.c1
    have q2 := HP6.out.c2
    have q3 := HP6.out.c3
    by_cases ho : 0 ≤ po
    · have HO : Hid (decide (0 ≤ po) = true) := decide_eq_true ho
      have HOO := Lib.hid ho
      clear ho
      go_wp2_with fail
      refine (tcOpen_any W6 pid pep po pd pn pc true HO.out).mono ?_
      rintro e w7 ⟨rfl, hb7⟩
      have HP7 := Lib.hid (HP6.out.on hb7)
      have HR7 := Lib.hid (HR6.out.on hb7)
      have HB7 := Lib.hid (HB6.out.trans (hb7.mono HB6.out.size))
      clear hb7 q0 q1 q2 q3 HP6 HR6 HB6
      have q3 := HP7.out.c3
      by_cases hv : v = -1
      · have hd : (v == -1) = true := by rw [hv]; rfl
        have HL2 : Hid (IsLeast (pds (dn ++ [⟨⟨pid, pep, pl, po⟩, pd, pc⟩])) po) := by
         show IsLeast _ _
         have := least_take (p := ⟨pid, pep, pl, po⟩) HLE.out HOO.out (.inl hv)
         unfold pds at this ⊢
         rw [List.map_append]
         exact this
        clear hv
        go_wp2
        go_roundw
        case rel => exact ⟨po, _, lf', rfl, HR7.out, HL2.out, HB7.out⟩
        case measure =>
         rw [HR7.out.count, HCNT.out, HCNTN.out]
         simp
      · have hd : (v == -1) = false := beq_false_of_ne hv
        by_cases hlt : po < v
        · have hd2 : decide (po < v) = true := decide_eq_true hlt
          have HL2 : Hid (IsLeast (pds (dn ++ [⟨⟨pid, pep, pl, po⟩, pd, pc⟩])) po) := by
           show IsLeast _ _
           have := least_take (p := ⟨pid, pep, pl, po⟩) HLE.out HOO.out (.inr (Int.le_of_lt hlt))
           unfold pds at this ⊢
           rw [List.map_append]
           exact this
          clear hv hlt
          go_wp2
          go_roundw
          case rel => exact ⟨po, _, lf', rfl, HR7.out, HL2.out, HB7.out⟩
          case measure =>
           rw [HR7.out.count, HCNT.out, HCNTN.out]
           simp
        · have hd2 : decide (po < v) = false := decide_eq_false hlt
          have HL2 : Hid (IsLeast (pds (dn ++ [⟨⟨pid, pep, pl, po⟩, pd, pc⟩])) v) := by
           show IsLeast _ _
           have := least_skip (p := ⟨pid, pep, pl, po⟩) HLE.out (.inr ⟨hv, by show v ≤ po; omega⟩)
           unfold pds at this ⊢
           rw [List.map_append]
           exact this
          clear hv hlt
          go_wp2
          go_roundw
          case rel => exact ⟨v, _, lf', rfl, HR7.out, HL2.out, HB7.out⟩
          case measure =>
           rw [HR7.out.count, HCNT.out, HCNTN.out]
           simp
    · have HO : Hid (decide (0 ≤ po) = false) := decide_eq_false ho
      have HL2 : Hid (IsLeast (pds (dn ++ [⟨⟨pid, pep, pl, po⟩, pd, pc⟩])) v) := by
       show IsLeast _ _
       have := least_skip (p := ⟨pid, pep, pl, po⟩) HLE.out (.inl (by show po < 0; omega))
       unfold pds at this ⊢
       rw [List.map_append]
       exact this
      clear ho
      go_wp2_with fail
      refine (tcOpen_any W6 pid pep po pd pn pc false HO.out).mono ?_
      rintro e w7 ⟨rfl, hb7⟩
      have HR7 := Lib.hid (HR6.out.on hb7)
      have HB7 := Lib.hid (HB6.out.trans (hb7.mono HB6.out.size))
      clear hb7 q0 q1 q2 q3 HP6 HR6 HB6
      go_wp2
      go_roundw
      case rel => exact ⟨v, _, lf', rfl, HR7.out, HL2.out, HB7.out⟩
      case measure =>
       rw [HR7.out.count, HCNT.out, HCNTN.out]
       simp
end Go.Proofs.Ytipaebflkebdjaa
namespace Go.Proofs.Ytipaebflkebdjaa
open Go.RowKit
open Go.FoMath
open Go.ProdMath
open Go.BatMath hiding AllB getD_lt take_all
set_option linter.unusedVariables false

set_option maxRecDepth 100000 in
theorem fcEnd_any (w : World) (start : Int) (ad : Option Addr) (len cap : Nat) (ms : List BM) (h : BatsAt w ad len cap ms) (hL : len ≤ 100000) (hok : RowOk (bats ms)) (v : Int) (hv : endD start (bats ms) = v) :
 Calls Try.prog 19 #[.int .i64 start, .slice ad len cap] w (GivesI w v) := by
 have H := Lib.hid h
 have HOK := Lib.hid hok
 have HLL : Hid (len ≤ 100000) := hL
 have HV := Lib.hid hv
 clear h hok hL hv
 go_enter Try.func19, Try.ntmps19
 go_wp2_with fail
 refine (segNext_any w ad len cap ms H.out HLL.out HOK.out start v HV.out).mono ?_
 rintro e w1 ⟨rfl, hb⟩
 have HB1 := Lib.hid hb
 clear hb
 go_wp2
 go_ret
 exact ⟨rfl, HB1.out⟩
set_option maxRecDepth 100000 in
theorem fcStable_any (w : World) (start : Int) (ad : Option Addr) (len cap : Nat) (ms : List BM) (h : BatsAt w ad len cap ms) (hL : len ≤ 5000) (hr : FoRow start (bats ms)) :
 Calls Try.prog 18 #[.int .i64 start, .slice ad len cap] w (GivesI w (stableD start (bats ms))) := by
 have H := Lib.hid h
 have HR := Lib.hid hr
 have HLL : Hid (len ≤ 5000) := hL
 clear h hr hL
 go_enter Try.func18, Try.ntmps18
 go_wp2_with fail
 refine (tcFold_any w ad len cap ms H.out (Nat.le_trans HLL.out (by decide)) (batsOk_of HR.out.ok)).mono ?_
 rintro e w1 ⟨kt, km, ps, rfl, htab, hps, -, -, hb⟩
 have HT := Lib.hid htab
 have HPS := Lib.hid hps
 have HB1 := Lib.hid hb
 clear htab hps hb
 go_wp2_with fail
 refine (tcOpens_any w1 kt km ps HT.out).mono ?_
 rintro e w2 ⟨v, hv, rfl, hb⟩
 have HB2 := Lib.hid (HB1.out.trans (hb.mono HB1.out.size))
 rw [HPS.out] at hv
 have hvf : v = firstOpen (bats ms) := least_one hv HR.out.least
 subst hvf
 obtain ⟨f, hf⟩ : ∃ f, f = firstOpen (bats ms) := ⟨_, rfl⟩
 rw [← hf]
 have HF := Lib.hid hf
 clear hv hb hf
 by_cases h0 : f = -1
 · have hd : (f != -1) = false := by rw [h0]; rfl
   have HS : Hid (stableD start (bats ms) = endD start (bats ms)) := by
    show stableD _ _ = _
    unfold stableD
    rw [← HF.out, if_pos h0]
   rw [hd]
   clear h0 hd
   go_wp2_with fail
   refine (fcEnd_any w2 start ad len cap ms (H.out.keep HB2.out) (Nat.le_trans HLL.out (by decide)) HR.out.ok _ rfl).mono ?_
   rintro e w3 ⟨rfl, hb⟩
   have HB3 := Lib.hid (HB2.out.trans (hb.mono HB2.out.size))
   clear hb
   go_wp2
   go_ret
   exact ⟨by rw [HS.out]; rfl, HB3.out⟩
 · have hd : (f != -1) = true := by simp [h0]
   have HS : Hid (stableD start (bats ms) = f) := by
    show stableD _ _ = _
    unfold stableD
    rw [← HF.out, if_neg h0]
   rw [hd]
   clear h0 hd
   go_wp2
   go_ret
   exact ⟨by rw [HS.out]; rfl, HB2.out⟩
set_option maxRecDepth 100000 in
set_option maxHeartbeats 8000000 in
theorem fcRecords_any (w : World) (start : Int) (ad : Option Addr) (len cap : Nat) (ms : List BM) (h : BatsAt w ad len cap ms) (hL : len ≤ 5000) (hok : GotsOk (bats ms)) (fr t0 : Int) :
 Calls Try.prog 32 #[.int .i64 start, .slice ad len cap, .int .i64 fr, .int .i64 t0] w (GivesGots w (recordsD (bats ms) fr t0)) := by
 have H := Lib.hid h
 have hlen := h.row.length
 obtain ⟨bs, hbs⟩ : ∃ bs, bs = bats ms := ⟨_, rfl⟩
 have hbl : bs.length = len := by rw [hbs]; unfold bats; rw [List.length_map]; exact hlen
 have HGET : Hid (∀ (i : Nat) m, ms[i]? = some m → bs[i]? = some m.b) := by
  intro i m hm
  rw [hbs]; unfold bats
  rw [List.getElem?_map, hm]; rfl
 rw [← hbs] at hok ⊢
 have HOK := Lib.hid hok
 have HBL := Lib.hid hbl
 clear h hbs hlen hok hbl
 go_enter Try.func32, Try.ntmps32
 go_wp2
 go_loopw [9, 17] (fun v9 v17 wr => ∃ (j : Nat) (u : Value), u = v9 ∧ v17 = .int .i64 (j : Int) ∧ j ≤ len ∧ Hid (OwnRow gtK wr w.heap.size u (recordsD (bs.take j) fr t0)) ∧ Hid (Below w.heap.size w wr)) (fun _ v17 _ => len - (intOf v17).toNat)
 case atStart => exact ⟨0, _, rfl, rfl, Nat.zero_le _, ownRow_nil _ _ _, Below.refl _ _⟩
 case round =>
  obtain ⟨j, u, rfl, rfl, hj, HO, HB⟩ := hrel
  obtain ⟨wo, hwo⟩ : ∃ wo : World, wo = wr := ⟨_, rfl⟩
  subst hwo
  by_cases hlt : j < len
  · have hd : decide (j < len) = true := decide_eq_true hlt
    have hjl : (j : Int) < (len : Int) := by omega
    obtain ⟨bk, off, m, rfl, hbk, hm, hrec, c0, c1, c2, c3, c4, c5, c6⟩ := (H.out.keep HB.out).get hlt
    have hbm := HGET.out j m hm
    obtain ⟨hb0, hb1, hrl⟩ := HOK.out m.b (List.mem_of_getElem? hbm)
    have HTK : Hid (recordsD (bs.take (j + 1)) fr t0 = recordsD (bs.take j) fr t0 ++ batG m.b fr t0) := by show _ = _; rw [List.take_add_one, hbm, Option.toList_some, recordsD_snoc]
    have HACC : Hid ((recordsD (bs.take j) fr t0).length ≤ 80000) := by
     show _ ≤ _
     have h1 := recordsD_few (a := fr) (z := t0) (l := bs.take j) (fun b hb => (HOK.out b (List.mem_of_mem_take hb)).2.2)
     rw [List.length_take] at h1
     omega
    have HRC : Hid (RecsAt w m.ad m.b.recs.length m.cap m.b.recs) := H.out.ins m (List.mem_of_getElem? hm)
    obtain ⟨⟨b0, b1, b2, b3, b4, b5, recs⟩, rd, rc⟩ := m
    simp only at c0 c1 c2 c3 c4 c5 c6 hb0 hb1 hrl HTK HRC
    obtain ⟨rn, hrn⟩ : ∃ n, recs.length = n := ⟨_, rfl⟩
    rw [hrn] at c6 hrl HRC
    have HRN := Lib.hid hrn
    clear hbm hm hrec hbk hrn
    go_upto_region 5 with fail
    obtain ⟨W1, hW1⟩ : ∃ W1, W1 = wo.alloc (.cells #[.int .i64 b0, .int .i64 b1, .int .i64 b2, .int .i64 b3, .bool b4, .int .i64 b5, .slice rd rn rc] 52) := ⟨_, rfl⟩
    have hb1' : Below wo.heap.size wo W1 := by rw [hW1]; exact (Below.refl _ _).alloc (Nat.le_refl _) _
    obtain ⟨K, hK⟩ : ∃ K, K = wo.heap.size := ⟨_, rfl⟩
    have HX1 : Hid (BoxAt W1 K b0 b1 b2 b3 b4 b5 (.slice rd rn rc)) := by show BoxAt _ _ _ _ _ _ _ _ _; rw [hW1, hK]; exact boxAt_new wo _ _ _ _ _ _ _
    have HO1 := Lib.hid (HO.out.on hb1')
    have HB1 := Lib.hid (HB.out.trans (hb1'.mono HB.out.size))
    have HKW : Hid (w.heap.size ≤ K) := by show _ ≤ _; rw [hK]; exact HB.out.size
    have HUK : Hid (∀ q, u.ownBlock = some q → q < K) := fun q hq => by have := (HO.out.lt q hq).2; rw [hK]; exact this
    have HKK : Hid (K < W1.heap.size) := HX1.out.lt
    rw [← hW1, ← hK]
    clear hW1 hb1' hK c0 c1 c2 c3 c4 c5 c6
    have x5 := HX1.out.c5
    by_cases hmk : b5 ≠ 0
    · have hd5 : (b5 != 0) = true := by simp [hmk]
      have HNO : Hid (batG ⟨b0, b1, b2, b3, b4, b5, recs⟩ fr t0 = []) := by
       show batG _ _ _ = []
       unfold batG
       rw [if_neg hmk]
      have HO2 : Hid (OwnRow gtK W1 w.heap.size u (recordsD (bs.take (j + 1)) fr t0)) := by
       have h1 := HO1.out
       rw [← List.append_nil (recordsD (bs.take j) fr t0), ← HNO.out, ← HTK.out] at h1
       exact h1
      clear hmk
      go_wp2
      go_roundw
      case rel => exact ⟨j + 1, u, rfl, rfl, hlt, HO2.out, HB1.out⟩
      case measure => simp [intOf]; omega
    have hm0 : b5 = 0 := Classical.byContradiction hmk
    have HM0 := Lib.hid hm0
    have hd5 : (b5 != 0) = false := by rw [hm0]; rfl
    clear hmk hm0
    have x6 := HX1.out.c6
    go_wp2
    clear x6 x5 hd5
    go_loopw [9, 27] (fun v9 v27 wr => ∃ (i : Nat) (v : Value), v = v9 ∧ v27 = .int .i64 (i : Int) ∧ i ≤ rn ∧ Hid (OwnRow gtK wr w.heap.size v (recordsD (bs.take j) fr t0 ++ partG ⟨b0, b1, b2, b3, b4, b5, recs⟩ i fr t0)) ∧ Hid (∀ q, v.ownBlock = some q → q ≠ K) ∧ Hid (BoxAt wr K b0 b1 b2 b3 b4 b5 (.slice rd rn rc)) ∧ Hid (Below w.heap.size w wr)) (fun _ v27 _ => rn - (intOf v27).toNat)
    case atStart =>
     refine ⟨0, _, rfl, rfl, Nat.zero_le _, ?_, ?_, HX1.out, HB1.out⟩
     · show OwnRow _ _ _ _ _
       rw [partG_zero, List.append_nil]
       exact HO1.out
     · exact fun q hq => Nat.ne_of_lt (HUK.out q hq)
    case round =>
     obtain ⟨i, v, rfl, rfl, hi, HV, HNK, HX, HBB⟩ := hrel
     clear HO1 HX1 HB1
     obtain ⟨wi, hwi⟩ : ∃ wi : World, wi = wr := ⟨_, rfl⟩
     subst hwi
     by_cases hit : i < rn
     · have hdi : decide (i < rn) = true := decide_eq_true hit
       have hil : (i : Int) < (rn : Int) := by omega
       obtain ⟨rb, ro, r, el, hrb, hri, k0, k1⟩ := rc_get (HRC.out.keep HBB.out) hit
       subst el
       have HRI := Lib.hid hri
       obtain ⟨n, hn⟩ : ∃ n : Int, n = b0 + (i : Int) := ⟨_, rfl⟩
       have HN := Lib.hid hn
       clear hri hn
       obtain ⟨rk, rv⟩ := r
       simp only at k0 k1
       go_upto_region 9 with fail
       obtain ⟨W2, hW2⟩ : ∃ y, y = wi.alloc (.cells #[.string rk, .string rv] 59) := ⟨_, rfl⟩
       obtain ⟨Q, hQ⟩ : ∃ y, y = wi.heap.size := ⟨_, rfl⟩
       have hb2 : Below wi.heap.size wi W2 := by rw [hW2]; exact (Below.refl _ _).alloc (Nat.le_refl _) _
       have HRX : Hid (W2.heap[Q]? = some (.cells #[.string rk, .string rv] 59 (0, 0))) := by show _ = _; rw [hW2, hQ]; exact heap_alloc_new wi _
       have HX2 := Lib.hid (HX.out.on hb2)
       have HV2 := Lib.hid (HV.out.on hb2)
       have HB2 := Lib.hid (HBB.out.trans (hb2.mono HBB.out.size))
       (try rw [← hW2, ← hQ])
       clear hW2 hQ hb2 k0 k1 HX HV HBB hrb
       have x0 := HX2.out.c0
       have x1 := HX2.out.c1
       have s0 : W2.cell? ⟨Q, 0, none⟩ = some (.string rk) := by rw [cell_of_row _ _ 0 _ _ _ HRX.out]; rfl
       have s1 : W2.cell? ⟨Q, 1, none⟩ = some (.string rv) := by rw [cell_of_row _ _ 1 _ _ _ HRX.out]; rfl
       go_upto_region 10 with fail
       rw [← HN.out]
       have hcs : (¬ fr ≤ n) ∨ (fr ≤ n ∧ ¬ n < t0) ∨ (fr ≤ n ∧ n < t0) := by omega
       have h5 := HM0.out
       rcases hcs with h6 | ⟨h6, h7⟩ | ⟨h6, h7⟩
       · have hd6 : decide (fr ≤ n) = false := decide_eq_false h6
         have HP : Hid (partG ⟨b0, b1, b2, b3, b4, b5, recs⟩ (i + 1) fr t0 = partG ⟨b0, b1, b2, b3, b4, b5, recs⟩ i fr t0) := partG_no HRI.out (.inr (.inl (by have := HN.out; simp only; omega)))
         clear h5 h6
         go_wp2
         go_roundw
         case rel => exact ⟨i + 1, v, rfl, rfl, hit, by rw [HP.out]; exact HV2.out, HNK.out, HX2.out, HB2.out⟩
         case measure => simp [intOf]; omega
       · have hd6 : decide (fr ≤ n) = true := decide_eq_true h6
         have hd7 : decide (n < t0) = false := decide_eq_false h7
         have HP : Hid (partG ⟨b0, b1, b2, b3, b4, b5, recs⟩ (i + 1) fr t0 = partG ⟨b0, b1, b2, b3, b4, b5, recs⟩ i fr t0) := partG_no HRI.out (.inr (.inr (by have := HN.out; simp only; omega)))
         clear h5 h6 h7
         go_wp2
         go_roundw
         case rel => exact ⟨i + 1, v, rfl, rfl, hit, by rw [HP.out]; exact HV2.out, HNK.out, HX2.out, HB2.out⟩
         case measure => simp [intOf]; omega
       · have hd6 : decide (fr ≤ n) = true := decide_eq_true h6
         have hd7 : decide (n < t0) = true := decide_eq_true h7
         have HP : Hid (partG ⟨b0, b1, b2, b3, b4, b5, recs⟩ (i + 1) fr t0 = partG ⟨b0, b1, b2, b3, b4, b5, recs⟩ i fr t0 ++ [⟨n, b1, ⟨rk, rv⟩⟩]) := by
          show _ = _
          rw [HN.out]
          exact partG_yes HRI.out h5 (by have := HN.out; simp only; omega) (by have := HN.out; simp only; omega)
         have HPL : Hid ((recordsD (bs.take j) fr t0 ++ partG ⟨b0, b1, b2, b3, b4, b5, recs⟩ i fr t0).length ≤ 90000) := by
          show _ ≤ _
          have h1 := partG_len ⟨b0, b1, b2, b3, b4, b5, recs⟩ i fr t0
          have h2 := HACC.out
          rw [List.length_append]
          omega
         clear h5 h6 h7
         obtain ⟨W3, hW3⟩ : ∃ y, y = W2.alloc (.cells #[.int .i64 n, .int .i64 b1, .string rk, .string rv] 61) := ⟨_, rfl⟩
         have hb3 : Below W2.heap.size W2 W3 := by rw [hW3]; exact (Below.refl _ _).alloc (Nat.le_refl _) _
         have HLIT : Hid (RowAt gtK W3 (some ⟨W2.heap.size, 0, none⟩) 1 1 [⟨n, b1, ⟨rk, rv⟩⟩]) := by
          show RowAt _ _ _ _ _ _
          rw [hW3]
          exact rowAt_lit gtK_ok W2 [⟨n, b1, ⟨rk, rv⟩⟩] (by simp) _ rfl 1 rfl
         have HX3 := Lib.hid (HX2.out.on hb3)
         have HV3 := Lib.hid (HV2.out.on hb3)
         have HB3 := Lib.hid (HB2.out.trans (hb3.mono HB2.out.size))
         have HW3 := Lib.hid hW3
         clear hb3 hW3
         go_wp2_with (at_builtin; rw [← HW3.out]; refine list_row (by rfl) gtK_ok (.tmp 44) (.tmp 50) rfl w.heap.size (recordsD (bs.take j) fr t0 ++ partG ⟨b0, b1, b2, b3, b4, b5, recs⟩ i fr t0) [⟨n, b1, ⟨rk, rv⟩⟩] v rfl HV3.out HB3.out.size (some ⟨W2.heap.size, 0, none⟩) 1 1 rfl HLIT.out (by have := HPL.out; omega) ?_)
         intro v4 w4 hap
         have HV4 : Hid (OwnRow gtK w4 w.heap.size v4 (recordsD (bs.take j) fr t0 ++ partG ⟨b0, b1, b2, b3, b4, b5, recs⟩ (i + 1) fr t0)) := by
          show OwnRow _ _ _ _ _
          rw [HP.out]
          exact hap.1
         have HX4 : Hid (BoxAt w4 K b0 b1 b2 b3 b4 b5 (.slice (some ⟨rb, ro, none⟩) rn rc)) := (hap.2.1.block K HX3.out.lt (fun e => HNK.out K e.symm rfl)).trans HX3.out
         have HN4 : Hid (∀ q, v4.ownBlock = some q → q ≠ K) := fun q hq => by
          rcases hap.2.2.2 q hq with h1 | h1
          · exact HNK.out q h1
          · have := HX3.out.lt; omega
         have HB4 : Hid (Below w.heap.size w w4) := HB3.out.grown hap.2.1 HB3.out.size (fun q hq => (HV3.out.lt q hq).1)
         clear hap HV3 HX3 HB3 HLIT HW3 HV2 HX2 HB2 HRX x0 x1 s0 s1
         go_wp2
         go_roundw
         case rel => exact ⟨i + 1, v4, rfl, rfl, hit, HV4.out, HN4.out, HX4.out, HB4.out⟩
         case measure => simp [intOf]; omega
     · have hdi : decide (i < rn) = false := decide_eq_false hit
       have hir : i = rn := by omega
       have HO2 : Hid (OwnRow gtK wi w.heap.size v (recordsD (bs.take (j + 1)) fr t0)) := by
        have h1 := HV.out
        rw [hir, ← HRN.out, partG_all, ← HTK.out] at h1
        exact h1
       clear hir
       go_wp2
       go_roundw
       case rel => exact ⟨j + 1, v, rfl, rfl, hlt, HO2.out, HBB.out⟩
       case measure => simp [intOf]; omega
  · have hd : decide (j < len) = false := decide_eq_false hlt
    have hjl : j = len := by omega
    have HFIN : Hid (OwnRow gtK wo w.heap.size u (recordsD bs fr t0)) := by
     have h1 := HO.out
     rw [hjl, ← HBL.out, List.take_length] at h1
     exact h1
    clear hjl
    go_wp2
    go_ret
    obtain ⟨ad, cap, hv, hr, hk⟩ := OwnRow.at gtK_ok HFIN.out
    exact ⟨ad, _, cap, congrArg Ending.returned hv, hr, hk, HB.out⟩
end Go.Proofs.Ytipaebflkebdjaa
