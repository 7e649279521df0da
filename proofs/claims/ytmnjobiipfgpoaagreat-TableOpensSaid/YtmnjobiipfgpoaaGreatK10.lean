/- Parts of a proof, merged: TcApply, ProdFold, TabOpen, TcFold, PrRight, PrRefRight, PrSame, PrRefSame. -/
import Derived.Deep.QuietTactic
import Derived.BigQuiet
import Derived.Test.YtmnjobiipfgpoaaGreatK9
import Derived.Test.YtmnjobiipfgpoaaGreatK7
import Derived.Test.YtmnjobiipfgpoaaGreatK8
import Derived.Test.YtmnjobiipfgpoaaGreatK4
namespace Go.Proofs.YtmnjobiipfgpoaaGreat
open Go.RowKit
open Go.SeqMath
open Go.ProdMath
open Go.BatMath hiding AllB getD_lt take_all
set_option linter.unusedVariables false

theorem insM_mem : ∀ (ms : List PM) (x q : PM), q ∈ insM ms x → q = x ∨ q ∈ ms
  | [], x, q, h => .inl (by simpa [insM] using h)
  | m :: ms, x, q, h => by
    unfold insM at h
    split at h
    · rcases List.mem_cons.1 h with h | h
      · exact .inr (by simp [h])
      · rcases insM_mem ms x q h with h | h
        · exact .inl h
        · exact .inr (by simp [h])
    · split at h
      · rcases List.mem_cons.1 h with h | h
        · exact .inl h
        · exact .inr (by simp [h])
      · rcases List.mem_cons.1 h with h | h
        · exact .inl h
        · exact .inr h
/-- 't.states[id] = x'. -/
theorem tc_put {w : World} {km : Nat} {ms : List PM} (h : TcMap w km ms) (ha : Asc (pds ms)) (mx : PM) (k : Int) (hk : mx.p.id = k) (h0 : -9223372036854775808 ≤ k) (h1 : k ≤ 9223372036854775807) :
    ∃ w', (Instr.mapUpdate 70 (.map (some km)) (.int .i64 k) (.agg #[.int .i64 mx.p.id, .int .i64 mx.p.epoch, .slice mx.ad mx.p.last.length mx.cap, .int .i64 mx.p.opn])).run Tryz.prog w = .ok () w' ∧ TcMap w' km (insM ms mx) ∧ w.grownBy w' (some km) ∧ w'.heap.size = w.heap.size := by
  subst hk
  cases hm : lookM ms mx.p.id with
  | none =>
    have hn := lookM_none hm
    obtain ⟨w', hrun, hmap, hg, hs⟩ := mapAs_put tcMapT keyI h mx (key_int h0 h1) (fun q hq e => hn q hq (by simpa [pmE] using e))
    exact ⟨w', hrun, hmap.perm (insM_new ms mx hn).symm, hg, hs⟩
  | some m0 =>
    obtain ⟨hmem, hid⟩ := lookM_some hm
    obtain ⟨rest, r1, r2⟩ := insM_old ms mx m0 ha hmem hid
    obtain ⟨w', hrun, hmap, hg, hs⟩ := mapAs_set tcMapT keyI (h.perm r1) mx (by show Value.int .i64 m0.p.id = .int .i64 mx.p.id; rw [hid])
    exact ⟨w', hrun, hmap.perm r2.symm, hg, hs⟩
theorem set_other {W : World} {D km j : Nat} (hne : D ≠ km) (u : Value) : (W.setCell ⟨D, j, none⟩ u).heap[km]? = W.heap[km]? := by
  show (W.heap.modify D _)[km]? = _
  rw [Array.getElem?_modify, if_neg hne]
/-- What stands behind the table's Apply. -/
def GivesTcApply (w : World) (kt km : Nat) (l' : List Pd) (r : Option Dr) (e : Ending) (w' : World) : Prop :=
  ∃ d ms, e = .returned (.tuple #[.agg #[.int .i64 d.prod, .int .i64 d.first, .int .i64 d.last], .bool r.isSome]) ∧ r.getD Dr.zero = d ∧ TcOk w' kt km ms ∧ pds ms = l' ∧ w.grownBy w' (some km)
theorem resultsTcApply {tmps : Array Value} {B : Nat} {W : World} {d : Dr} {x : Value} (h : DBox W B d) (ht : tmps.getD 4 undef = .pointer (some ⟨B, 0, none⟩)) (hx : tmps.getD 5 undef = x) :
    (results Tryz.f20 tmps).run Tryz.prog W = .ok (.tuple #[.agg #[.int .i64 d.prod, .int .i64 d.first, .int .i64 d.last], x]) W := by
  rw [results_cell_tmp (p := 4) (u := 5) (ty := 55) Tryz.results20, ht]
  have hl := run_loadVar_row (P := Tryz.prog) W B 55 55 _ (0, 0) _ h Tryz.underlying55 rfl (by kernel_rfl)
  simp only [asAddr, Sem.run_pure, Result.andThen, hl, hx]
/-- What stands ahead of the end. -/
structure TcW (w : World) (km D : Nat) (ms0 ms : List PM) (W : World) : Prop where
  map : TcMap W km ms
  ins : ∀ m ∈ ms, m ∈ ms0 ∨ (LastAt W m ∧ ∀ a, m.ad = some a → a.block ≠ D)
  gr : w.grownBy W (some km)
theorem TcW.on {w W W' : World} {km D : Nat} {ms0 ms : List PM} (h : TcW w km D ms0 ms W) (hb : Below W.heap.size W W') : TcW w km D ms0 ms W' :=
  ⟨h.map.on hb, fun m hm => (h.ins m hm).imp_right fun h2 => ⟨h2.1.keep hb, h2.2⟩, grow_below h.gr hb⟩
theorem gives_tcapply {w W : World} {kt km D : Nat} {ms0 ms : List PM} {l' : List Pd} {r : Option Dr} {d : Dr} {u0 u1 u2 : Value} {ok : Bool} (ht : TcOk w kt km ms0) (hW : TcW w km D ms0 ms W) (hD : w.heap.size ≤ D) (hl : pds ms = l') (hok : r.isSome = ok) (hd : r.getD Dr.zero = d) :
    GivesTcApply w kt km l' r (.returned (.tuple #[.agg #[.int .i64 d.prod, .int .i64 d.first, .int .i64 d.last], .bool ok])) (((W.setCell ⟨D, 0, none⟩ u0).setCell ⟨D, 1, none⟩ u1).setCell ⟨D, 2, none⟩ u2) := by
  subst hok
  have hkm := ht.map.lt
  have hne : D ≠ km := by omega
  have hg : w.grownBy (((W.setCell ⟨D, 0, none⟩ u0).setCell ⟨D, 1, none⟩ u1).setCell ⟨D, 2, none⟩ u2) (some km) := grow_new (grow_new (grow_new hW.gr hD _) hD _) hD _
  refine ⟨d, ms, rfl, hd, ⟨ht.box.past_map hg ht.map.is, hW.map.same ?_, fun m hm => ?_⟩, hl, hg⟩
  · rw [set_other hne, set_other hne, set_other hne]
  · rcases hW.ins m hm with h | ⟨h, h2⟩
    · exact (ht.ins m h).past_map hg ht.map.is
    · exact ((h.off h2 _ _).off h2 _ _).off h2 _ _
set_option maxRecDepth 100000 in
set_option maxHeartbeats 8000000 in
theorem tcApply_any (w : World) (kt km : Nat) (ms : List PM) (h : TcOk w kt km ms) (hasc : Asc (pds ms)) (hfew : fewP (pds ms)) (b : Bat) (rd : Option Addr) (rn rc : Nat) (hr : RecsAt w rd rn rc b.recs) (ht : TextsOk b.recs) (hrn : rn ≤ 140737488355328) (hwf : b.prod ≤ 9223372036854775807) :
    Calls Tryz.prog 20 #[.pointer (some ⟨kt, 0, none⟩), .agg #[.int .i64 b.base, .int .i64 b.prod, .int .i64 b.epoch, .int .i64 b.seq, .bool b.txn, .int .i64 b.marker, .slice rd rn rc]] w (GivesTcApply w kt km (tapplyD (pds ms) b) (tdropD (pds ms) b)) := by
  obtain ⟨b0, b1, b2, b3, b4, b5, recs⟩ := b
  simp only at hr ht hwf
  simp only
  have HT := Lib.hid h
  obtain ⟨W0, hW0⟩ : ∃ W0, W0 = ((w.alloc (.cells #[.int .i64 b0, .int .i64 b1, .int .i64 b2, .int .i64 b3, .bool b4, .int .i64 b5, .slice rd rn rc] 30)).alloc (.cells #[.int .i64 0, .int .i64 0, .int .i64 0] 55)) := ⟨_, rfl⟩
  have HB0 : Hid (Below w.heap.size w W0) := by show Below _ _ _; rw [hW0]; exact ((Below.refl _ _).alloc (Nat.le_refl _) _).alloc (by simp) _
  have HX0 : Hid (BoxAt W0 w.heap.size b0 b1 b2 b3 b4 b5 (.slice rd rn rc)) := by
    show BoxAt _ _ _ _ _ _ _ _ _
    rw [hW0]
    exact (boxAt_new w b0 b1 b2 b3 b4 b5 (.slice rd rn rc)).keep ((Below.refl _ _).alloc (Nat.le_refl _) _) (by simp)
  have HD0 : Hid (DBox W0 (w.heap.size + 1) Dr.zero) := by
    show DBox _ _ _
    rw [hW0]
    have := dbox_new (w.alloc (.cells #[.int .i64 b0, .int .i64 b1, .int .i64 b2, .int .i64 b3, .bool b4, .int .i64 b5, .slice rd rn rc] 30)) Dr.zero
    rw [show (w.alloc (.cells #[.int .i64 b0, .int .i64 b1, .int .i64 b2, .int .i64 b3, .bool b4, .int .i64 b5, .slice rd rn rc] 30)).heap.size = w.heap.size + 1 by simp] at this
    exact this
  have HT0 := Lib.hid (h.keep HB0.out)
  have HRE0 := Lib.hid (hr.keep HB0.out)
  have hrl := hr.length
  have HF := Lib.hid hfew
  have HAS := Lib.hid hasc
  have HTX := Lib.hid ht
  have HW0 := Lib.hid hW0
  clear h hr hfew hW0 ht hasc
  obtain ⟨B, hB⟩ : ∃ B, B = w.heap.size := ⟨_, rfl⟩
  obtain ⟨D, hD⟩ : ∃ D, D = w.heap.size + 1 := ⟨_, rfl⟩
  have HBD : Hid (w.heap.size ≤ B ∧ w.heap.size ≤ D ∧ D ≠ B) := by show _ ∧ _ ∧ _; omega
  rw [← hB] at HX0
  rw [← hD] at HD0
  obtain ⟨l, hl⟩ : ∃ l, l = pds ms := ⟨_, rfl⟩
  obtain ⟨r, hre⟩ : ∃ r, rightE ⟨b0, b1, b2, b3, b4, b5, recs⟩ = r := ⟨_, rfl⟩
  have HRE := Lib.hid hre
  obtain ⟨l', hl'⟩ : ∃ l', tapplyD (pds ms) ⟨b0, b1, b2, b3, b4, b5, recs⟩ = l' := ⟨_, rfl⟩
  obtain ⟨dr, hdr⟩ : ∃ dr, tdropD (pds ms) ⟨b0, b1, b2, b3, b4, b5, recs⟩ = dr := ⟨_, rfl⟩
  rw [hl', hdr]
  have HLP := Lib.hid hl'
  have HDR := Lib.hid hdr
  clear hl' hdr hre
  go_enter Tryz.func20, Tryz.ntmps20
  go_upto_region 1 with fail
  rw [← HW0.out, ← hD, ← hB]
  clear hB hD HW0
  have p0 := HX0.out.c0
  have p1 := HX0.out.c1
  have p2 := HX0.out.c2
  have p3 := HX0.out.c3
  have p4 := HX0.out.c4
  have p5 := HX0.out.c5
  have p6 := HX0.out.c6
  go_wp2_with fail
  have CR := batRight_any W0 ⟨b0, b1, b2, b3, b4, b5, recs⟩ rd rn rc HRE0.out HTX.out hrn
  rw [HRE.out] at CR
  refine CR.mono ?_
  clear CR
  rintro e w1 ⟨rfl, hb1⟩
  have HB1 := Lib.hid (HB0.out.trans (hb1.mono HB0.out.size))
  have HX1 := Lib.hid (HX0.out.on hb1)
  have HD1 := Lib.hid (HD0.out.on hb1)
  have HT1 := Lib.hid (HT0.out.keep hb1)
  clear hb1 HX0 HD0 HT0 p0 p1 p2 p3 p4 p5 p6
  have p1 := HX1.out.c1
  by_cases hz : r = 0 ∧ b1 ≠ -1
  · obtain ⟨hz1, hz2⟩ := hz
    have hd : (r != 0) = false := by rw [hz1]; rfl
    have hd2 : (b1 == -1) = false := beq_false_of_ne hz2
    have HRR : Hid (rightE ⟨b0, b1, b2, b3, b4, b5, recs⟩ = 0) := by show _ = _; rw [HRE.out, hz1]
    have hn0 : 0 ≤ b1 := by
      rcases right_prod HRR.out with h | h
      · exact absurd h hz2
      · exact h
    obtain ⟨p, kn, pd, pn, pc, hp, hk, hn5, hlk, _, hrow⟩ := tc_look ms b1 (by omega) hwf HF.out
    have HLQ : Hid (l' = insD (pds ms) (applyD p kn ⟨b0, b1, b2, b3, b4, b5, recs⟩)) := by
      show _ = _
      rw [← HLP.out, tapply_ins HAS.out _ HRR.out hn0, ← hp, ← hk]
    have HDQ : Hid (dr = if (kn && (decide (b5 = 2) && decide (0 ≤ p.opn))) = true then some ⟨b1, p.opn, b0⟩ else none) := by
      show _ = _
      have h3 := has_look HAS.out b1
      rw [← HDR.out]
      unfold tdropD
      rw [if_neg (by rw [HRR.out]; show ¬ (0 ≠ 0 ∨ b1 < 0); omega)]
      unfold dropsB
      show (if (hasD (pds ms) b1 && (decide (b5 = 2) && decide (0 ≤ (getD (pds ms) b1).opn))) = true then some (⟨b1, (getD (pds ms) b1).opn, b0⟩ : Dr) else none) = _
      rw [h3.1, h3.2, hp, hk]
    have HLK := Lib.hid hlk
    have HRO := Lib.hid hrow
    have KS : Hid (∀ V, Below w1.heap.size w1 V → (fun (V : World) => V.cell? ⟨kt, 0, none⟩ = some (.map (some km)) ∧ V.cell? ⟨B, 1, none⟩ = some (.int .i64 b1) ∧ TcMap V km ms) V) := fun V hV => ⟨(HT1.out.keep hV).box.c0, (HX1.out.on hV).c1, (HT1.out.keep hV).map⟩
    have hdrw : Below w1.heap.size w1 w1.drew := (Below.refl _ w1).drew
    clear hz1 hz2 hp hk hlk hrow HLP HDR
    obtain ⟨pid, pep, pl, po⟩ := p
    simp only at HLQ HDQ HLK HRO
    go_upto_region 3 with fail
    clear p1
    refine wp_region_noPanic ?_
    refine wp_region_z [] (fun (V : World) => V.cell? ⟨kt, 0, none⟩ = some (.map (some km)) ∧ V.cell? ⟨B, 1, none⟩ = some (.int .i64 b1) ∧ TcMap V km ms) (by kernel_rfl) ?_
    have hHeld : (fun (V : World) => V.cell? ⟨kt, 0, none⟩ = some (.map (some km)) ∧ V.cell? ⟨B, 1, none⟩ = some (.int .i64 b1) ∧ TcMap V km ms) _ := KS.out _ hdrw
    obtain ⟨u0, hu0⟩ : ∃ u, u = w1.drew := ⟨_, rfl⟩
    rw [← hu0] at hHeld hdrw
    rw [← hu0]
    clear hu0
    have HU0 := Lib.hid hdrw
    clear hdrw
    refine wpAnyZ_take (i := 0) (oi := ⟨_, _, _, _, _, _⟩) (v := ?_) rfl (by kernel_rfl) (by kernel_rfl) (by kernel_rfl) (by kernel_rfl) (by kernel_rfl) (fun _ _ _ h => h) (Or.inl ⟨by rfl, ?_⟩) (by assumption) ?_
    rotate_left
    · intro W hSw
      (try dsimp only at hSw)
      go_simp
      (try with_reducible rfl)
    (try simp only [Act.put, List.setIfInBounds_toArray, List.set_cons_zero, List.set_cons_succ])
    refine wpAnyZ_take (i := 1) (oi := ⟨_, _, _, _, _, _⟩) (v := ?_) rfl (by kernel_rfl) (by kernel_rfl) (by kernel_rfl) (by kernel_rfl) (by kernel_rfl) (fun _ _ _ h => h) (Or.inl ⟨by rfl, ?_⟩) (by assumption) ?_
    rotate_left
    · intro W hSw
      (try dsimp only at hSw)
      go_simp
      (try with_reducible rfl)
    (try simp only [Act.put, List.setIfInBounds_toArray, List.set_cons_zero, List.set_cons_succ])
    refine wpAnyZ_take (i := 2) (oi := ⟨_, _, _, _, _, _⟩) (v := ?_) rfl (by kernel_rfl) (by kernel_rfl) (by kernel_rfl) (by kernel_rfl) (by kernel_rfl) (fun _ _ _ h => h) (Or.inl ⟨by rfl, ?_⟩) (by assumption) ?_
    rotate_left
    · intro W hSw
      (try dsimp only at hSw)
      go_simp
      (try with_reducible rfl)
    (try simp only [Act.put, List.setIfInBounds_toArray, List.set_cons_zero, List.set_cons_succ])
    refine wpAnyZ_take (i := 3) (oi := ⟨_, _, _, _, _, _⟩) (v := ?_) rfl (by kernel_rfl) (by kernel_rfl) (by kernel_rfl) (by kernel_rfl) (by kernel_rfl) (fun _ _ _ h => h) (Or.inl ⟨by rfl, ?_⟩) (by assumption) ?_
    rotate_left
    · intro W hSw
      (try dsimp only at hSw)
      go_simp
      (try with_reducible rfl)
    (try simp only [Act.put, List.setIfInBounds_toArray, List.set_cons_zero, List.set_cons_succ])
    refine wpAnyZ_take (i := 4) (oi := ⟨_, _, _, _, _, _⟩) (v := ?_) rfl (by kernel_rfl) (by kernel_rfl) (by kernel_rfl) (by kernel_rfl) (by kernel_rfl) (fun _ _ _ h => h) (Or.inl ⟨by rfl, ?_⟩) (by assumption) ?_
    rotate_left
    · intro W hSw
      (try dsimp only at hSw)
      go_simp
      (try with_reducible rfl)
    (try simp only [Act.put, List.setIfInBounds_toArray, List.set_cons_zero, List.set_cons_succ])
    refine wpAnyZ_take (i := 5) (oi := ⟨_, _, _, _, _, _⟩) (v := ?_) rfl (by kernel_rfl) (by kernel_rfl) (by kernel_rfl) (by kernel_rfl) (by kernel_rfl) (fun _ _ _ h => h) (Or.inl ⟨by rfl, ?_⟩) (by assumption) ?_
    rotate_left
    · intro W hSw
      (try dsimp only at hSw)
      go_simp
      (try with_reducible rfl)
    (try simp only [Act.put, List.setIfInBounds_toArray, List.set_cons_zero, List.set_cons_succ])
    refine wpAnyZ_take (i := 6) (oi := ⟨_, _, _, _, _, _⟩) (v := ?_) rfl (by kernel_rfl) (by kernel_rfl) (by kernel_rfl) (by kernel_rfl) (by kernel_rfl) (fun _ _ _ h => h) (Or.inl ⟨by rfl, ?_⟩) (by assumption) ?_
    rotate_left
    · intro W hSw
      (try dsimp only at hSw)
      have hlk := HLK.out W km hSw.2.2
      go_simp
      (try with_reducible rfl)
    (try simp only [Act.put, List.setIfInBounds_toArray, List.set_cons_zero, List.set_cons_succ])
    refine wpAnyZ_take (i := 7) (oi := ⟨_, _, _, _, _, _⟩) (v := ?_) rfl (by kernel_rfl) (by kernel_rfl) (by kernel_rfl) (by kernel_rfl) (by kernel_rfl) (fun _ _ _ h => h) (Or.inl ⟨by rfl, ?_⟩) (by assumption) ?_
    rotate_left
    · intro W hSw
      (try dsimp only at hSw)
      go_simp
      (try with_reducible rfl)
    (try simp only [Act.put, List.setIfInBounds_toArray, List.set_cons_zero, List.set_cons_succ])
    refine wpAnyZ_take (i := 8) (oi := ⟨_, _, _, _, _, _⟩) (v := ?_) rfl (by kernel_rfl) (by kernel_rfl) (by kernel_rfl) (by kernel_rfl) (by kernel_rfl) (fun _ _ _ h => h) (Or.inl ⟨by rfl, ?_⟩) (by assumption) ?_
    rotate_left
    · intro W hSw
      (try dsimp only at hSw)
      go_simp
      (try with_reducible rfl)
    (try simp only [Act.put, List.setIfInBounds_toArray, List.set_cons_zero, List.set_cons_succ])
    refine wpAnyZ_take (i := 9) (oi := ⟨_, _, _, _, _, _⟩) (v := ?_) rfl (by kernel_rfl) (by kernel_rfl) (by kernel_rfl) (by kernel_rfl) (by kernel_rfl) (fun _ _ _ h => h) (Or.inl ⟨by rfl, ?_⟩) (by assumption) ?_
    rotate_left
    · intro W hSw
      (try dsimp only at hSw)
      go_simp
      (try with_reducible rfl)
    (try simp only [Act.put, List.setIfInBounds_toArray, List.set_cons_zero, List.set_cons_succ])
    refine wpAnyZ_ready (rs := [10]) (by kernel_rfl) (by simp) ?_
    refine AllReadyZ.cons (o := ⟨_, _, _, _, _, _⟩) rfl (fun C hC => ?_) AllReadyZ.nil
    go_simp
    obtain ⟨u1, hu1⟩ : ∃ z, z = u0.alloc (.cells #[.int .i64 0, .int .i64 0, .slice none 0 0, .int .i64 0] 36) := ⟨_, rfl⟩
    obtain ⟨P, hP⟩ : ∃ z, z = u0.heap.size := ⟨_, rfl⟩
    have HP1 : Hid (PBox u1 P 0 0 (.slice none 0 0) 0) := by show PBox _ _ _ _ _ _; rw [hu1, hP]; exact pbox_new u0 _ _ _ _
    have HU1 : Hid (Below w1.heap.size w1 u1) := by show Below _ _ _; rw [hu1]; exact HU0.out.trans ((Below.refl _ _).alloc HU0.out.size _)
    have HPW : Hid (w1.heap.size ≤ P) := by show _ ≤ _; rw [hP]; exact HU0.out.size
    try rw [← hu1, ← hP]
    clear hu1 hP
    have hHeld : (fun (V : World) => V.cell? ⟨kt, 0, none⟩ = some (.map (some km)) ∧ V.cell? ⟨B, 1, none⟩ = some (.int .i64 b1) ∧ TcMap V km ms) u1 := KS.out _ HU1.out
    refine hC.out _ _ (fun _ => hHeld) (fun _ => ?_)
    clear hC C
    (try simp only [Act.put, List.setIfInBounds_toArray, List.set_cons_zero, List.set_cons_succ])
    have r0 := HP1.out.c0
    have r1 := HP1.out.c1
    have r2 := HP1.out.c2
    have r3 := HP1.out.c3
    have f0 := HP1.out.free 0
    have f1 := HP1.out.free 1
    have f2 := HP1.out.free 2
    have f3 := HP1.out.free 3
    refine wpAnyZ_ready (rs := [11]) (by kernel_rfl) (by simp) ?_
    refine AllReadyZ.cons (o := ⟨_, _, _, _, _, _⟩) rfl (fun C hC => ?_) AllReadyZ.nil
    go_simp
    obtain ⟨u2, hu2⟩ : ∃ z, z = (((u1.setCell ⟨P, 0, none⟩ (.int .i64 pid)).setCell ⟨P, 1, none⟩ (.int .i64 pep)).setCell ⟨P, 2, none⟩ (.slice pd pn pc)).setCell ⟨P, 3, none⟩ (.int .i64 po) := ⟨_, rfl⟩
    have HP2 : Hid (PBox u2 P pid pep (.slice pd pn pc) po) := by show PBox _ _ _ _ _ _; rw [hu2]; exact (((HP1.out.s0 pid).s1 pep).s2 (.slice pd pn pc)).s3 po
    have HU2 : Hid (Below w1.heap.size w1 u2) := by show Below _ _ _; rw [hu2]; exact (((HU1.out.setCell HPW.out _).setCell HPW.out _).setCell HPW.out _).setCell HPW.out _
    try rw [← hu2]
    clear hu2 r0 r1 r2 r3 f0 f1 f2 f3 HP1
    have hHeld : (fun (V : World) => V.cell? ⟨kt, 0, none⟩ = some (.map (some km)) ∧ V.cell? ⟨B, 1, none⟩ = some (.int .i64 b1) ∧ TcMap V km ms) u2 := KS.out _ HU2.out
    refine hC.out _ _ (fun _ => hHeld) (fun _ => ?_)
    clear hC C
    (try simp only [Act.put, List.setIfInBounds_toArray, List.set_cons_zero, List.set_cons_succ])
    refine wpAnyZ_take (i := 12) (oi := ⟨_, _, _, _, _, _⟩) (v := ?_) rfl (by kernel_rfl) (by kernel_rfl) (by kernel_rfl) (by kernel_rfl) (by kernel_rfl) (fun _ _ _ h => h) (Or.inl ⟨by rfl, ?_⟩) (by assumption) ?_
    rotate_left
    · intro W hSw
      (try dsimp only at hSw)
      go_simp
      (try with_reducible rfl)
    (try simp only [Act.put, List.setIfInBounds_toArray, List.set_cons_zero, List.set_cons_succ])
    refine wpAnyZ_done (by kernel_rfl) ?_ _
    refine NoPanic.normal ?_
    clear hHeld KS HU0 HU1
    have HB2 := Lib.hid (HB1.out.trans (HU2.out.mono HB1.out.size))
    have HX2 := Lib.hid (HX1.out.on HU2.out)
    have HD2 := Lib.hid (HD1.out.on HU2.out)
    have HT2 := Lib.hid (HT1.out.keep HU2.out)
    have HRW2 := Lib.hid (HRO.out u2 HT2.out.ins)
    have HPB : Hid (w.heap.size ≤ P) := Nat.le_trans HB1.out.size HPW.out
    have HPD : Hid (P ≠ D ∧ P ≠ B) := by
      have h1 := HD1.out.lt
      have h2 := HX1.out.lt
      have h3 := HPW.out
      show _ ∧ _
      omega
    obtain ⟨x, hx⟩ : ∃ x, applyD ⟨pid, pep, pl, po⟩ kn ⟨b0, b1, b2, b3, b4, b5, recs⟩ = x := ⟨_, rfl⟩
    have HAP := Lib.hid hx
    have hxid : x.id = b1 := by rw [← hx, apply_id]
    have HXI := Lib.hid hxid
    clear hx hxid HX1 HD1 HT1 HU2 HPW HRO HLK
    have KS : Hid (∀ V, Below u2.heap.size u2 V → (fun (V : World) => V.cell? ⟨kt, 0, none⟩ = some (.map (some km)) ∧ V.cell? ⟨P, 0, none⟩ = some (.int .i64 pid) ∧ V.cell? ⟨P, 1, none⟩ = some (.int .i64 pep) ∧ V.cell? ⟨P, 2, none⟩ = some (.slice pd pn pc) ∧ V.cell? ⟨P, 3, none⟩ = some (.int .i64 po) ∧ V.cell? ⟨B, 0, none⟩ = some (.int .i64 b0) ∧ V.cell? ⟨B, 1, none⟩ = some (.int .i64 b1) ∧ V.cell? ⟨B, 2, none⟩ = some (.int .i64 b2) ∧ V.cell? ⟨B, 3, none⟩ = some (.int .i64 b3) ∧ V.cell? ⟨B, 4, none⟩ = some (.bool b4) ∧ V.cell? ⟨B, 5, none⟩ = some (.int .i64 b5) ∧ V.cell? ⟨B, 6, none⟩ = some (.slice rd rn rc)) V) := fun V hV => ⟨(HT2.out.keep hV).box.c0, (HP2.out.on hV).c0, (HP2.out.on hV).c1, (HP2.out.on hV).c2, (HP2.out.on hV).c3, (HX2.out.on hV).c0, (HX2.out.on hV).c1, (HX2.out.on hV).c2, (HX2.out.on hV).c3, (HX2.out.on hV).c4, (HX2.out.on hV).c5, (HX2.out.on hV).c6⟩
    have hdrw : Below u2.heap.size u2 u2.drew := (Below.refl _ u2).drew
    go_upto_region 4 with fail
    refine wp_region_noPanic ?_
    refine wp_region_z [10] (fun (V : World) => V.cell? ⟨kt, 0, none⟩ = some (.map (some km)) ∧ V.cell? ⟨P, 0, none⟩ = some (.int .i64 pid) ∧ V.cell? ⟨P, 1, none⟩ = some (.int .i64 pep) ∧ V.cell? ⟨P, 2, none⟩ = some (.slice pd pn pc) ∧ V.cell? ⟨P, 3, none⟩ = some (.int .i64 po) ∧ V.cell? ⟨B, 0, none⟩ = some (.int .i64 b0) ∧ V.cell? ⟨B, 1, none⟩ = some (.int .i64 b1) ∧ V.cell? ⟨B, 2, none⟩ = some (.int .i64 b2) ∧ V.cell? ⟨B, 3, none⟩ = some (.int .i64 b3) ∧ V.cell? ⟨B, 4, none⟩ = some (.bool b4) ∧ V.cell? ⟨B, 5, none⟩ = some (.int .i64 b5) ∧ V.cell? ⟨B, 6, none⟩ = some (.slice rd rn rc)) (by kernel_rfl) ?_
    have hHeld : (fun (V : World) => V.cell? ⟨kt, 0, none⟩ = some (.map (some km)) ∧ V.cell? ⟨P, 0, none⟩ = some (.int .i64 pid) ∧ V.cell? ⟨P, 1, none⟩ = some (.int .i64 pep) ∧ V.cell? ⟨P, 2, none⟩ = some (.slice pd pn pc) ∧ V.cell? ⟨P, 3, none⟩ = some (.int .i64 po) ∧ V.cell? ⟨B, 0, none⟩ = some (.int .i64 b0) ∧ V.cell? ⟨B, 1, none⟩ = some (.int .i64 b1) ∧ V.cell? ⟨B, 2, none⟩ = some (.int .i64 b2) ∧ V.cell? ⟨B, 3, none⟩ = some (.int .i64 b3) ∧ V.cell? ⟨B, 4, none⟩ = some (.bool b4) ∧ V.cell? ⟨B, 5, none⟩ = some (.int .i64 b5) ∧ V.cell? ⟨B, 6, none⟩ = some (.slice rd rn rc)) _ := KS.out _ hdrw
    obtain ⟨u3, hu3⟩ : ∃ u, u = u2.drew := ⟨_, rfl⟩
    rw [← hu3] at hHeld hdrw
    rw [← hu3]
    clear hu3
    have HU3 := Lib.hid hdrw
    clear hdrw
    refine wpAnyZ_take (i := 0) (oi := ⟨_, _, _, _, _, _⟩) (v := ?_) rfl (by kernel_rfl) (by kernel_rfl) (by kernel_rfl) (by kernel_rfl) (by kernel_rfl) (fun _ _ _ h => h) (Or.inl ⟨by rfl, ?_⟩) (by assumption) ?_
    rotate_left
    · intro W hSw
      (try dsimp only at hSw)
      go_simp
      (try with_reducible rfl)
    (try simp only [Act.put, List.setIfInBounds_toArray, List.set_cons_zero, List.set_cons_succ])
    refine wpAnyZ_take (i := 1) (oi := ⟨_, _, _, _, _, _⟩) (v := ?_) rfl (by kernel_rfl) (by kernel_rfl) (by kernel_rfl) (by kernel_rfl) (by kernel_rfl) (fun _ _ _ h => h) (Or.inl ⟨by rfl, ?_⟩) (by assumption) ?_
    rotate_left
    · intro W hSw
      (try dsimp only at hSw)
      go_simp
      (try with_reducible rfl)
    (try simp only [Act.put, List.setIfInBounds_toArray, List.set_cons_zero, List.set_cons_succ])
    refine wpAnyZ_take (i := 2) (oi := ⟨_, _, _, _, _, _⟩) (v := ?_) rfl (by kernel_rfl) (by kernel_rfl) (by kernel_rfl) (by kernel_rfl) (by kernel_rfl) (fun _ _ _ h => h) (Or.inl ⟨by rfl, ?_⟩) (by assumption) ?_
    rotate_left
    · intro W hSw
      (try dsimp only at hSw)
      go_simp
      (try with_reducible rfl)
    (try simp only [Act.put, List.setIfInBounds_toArray, List.set_cons_zero, List.set_cons_succ])
    refine wpAnyZ_take (i := 3) (oi := ⟨_, _, _, _, _, _⟩) (v := ?_) rfl (by kernel_rfl) (by kernel_rfl) (by kernel_rfl) (by kernel_rfl) (by kernel_rfl) (fun _ _ _ h => h) (Or.inl ⟨by rfl, ?_⟩) (by assumption) ?_
    rotate_left
    · intro W hSw
      (try dsimp only at hSw)
      go_simp
      (try with_reducible rfl)
    (try simp only [Act.put, List.setIfInBounds_toArray, List.set_cons_zero, List.set_cons_succ])
    refine wpAnyZ_take (i := 4) (oi := ⟨_, _, _, _, _, _⟩) (v := ?_) rfl (by kernel_rfl) (by kernel_rfl) (by kernel_rfl) (by kernel_rfl) (by kernel_rfl) (fun _ _ _ h => h) (Or.inl ⟨by rfl, ?_⟩) (by assumption) ?_
    rotate_left
    · intro W hSw
      (try dsimp only at hSw)
      go_simp
      (try with_reducible rfl)
    (try simp only [Act.put, List.setIfInBounds_toArray, List.set_cons_zero, List.set_cons_succ])
    refine wpAnyZ_take (i := 5) (oi := ⟨_, _, _, _, _, _⟩) (v := ?_) rfl (by kernel_rfl) (by kernel_rfl) (by kernel_rfl) (by kernel_rfl) (by kernel_rfl) (fun _ _ _ h => h) (Or.inl ⟨by rfl, ?_⟩) (by assumption) ?_
    rotate_left
    · intro W hSw
      (try dsimp only at hSw)
      go_simp
      (try with_reducible rfl)
    (try simp only [Act.put, List.setIfInBounds_toArray, List.set_cons_zero, List.set_cons_succ])
    refine wpAnyZ_take (i := 6) (oi := ⟨_, _, _, _, _, _⟩) (v := ?_) rfl (by kernel_rfl) (by kernel_rfl) (by kernel_rfl) (by kernel_rfl) (by kernel_rfl) (fun _ _ _ h => h) (Or.inl ⟨by rfl, ?_⟩) (by assumption) ?_
    rotate_left
    · intro W hSw
      (try dsimp only at hSw)
      go_simp
      (try with_reducible rfl)
    (try simp only [Act.put, List.setIfInBounds_toArray, List.set_cons_zero, List.set_cons_succ])
    refine wpAnyZ_take (i := 7) (oi := ⟨_, _, _, _, _, _⟩) (v := ?_) rfl (by kernel_rfl) (by kernel_rfl) (by kernel_rfl) (by kernel_rfl) (by kernel_rfl) (fun _ _ _ h => h) (Or.inl ⟨by rfl, ?_⟩) (by assumption) ?_
    rotate_left
    · intro W hSw
      (try dsimp only at hSw)
      go_simp
      (try with_reducible rfl)
    (try simp only [Act.put, List.setIfInBounds_toArray, List.set_cons_zero, List.set_cons_succ])
    refine wpAnyZ_take (i := 8) (oi := ⟨_, _, _, _, _, _⟩) (v := ?_) rfl (by kernel_rfl) (by kernel_rfl) (by kernel_rfl) (by kernel_rfl) (by kernel_rfl) (fun _ _ _ h => h) (Or.inl ⟨by rfl, ?_⟩) (by assumption) ?_
    rotate_left
    · intro W hSw
      (try dsimp only at hSw)
      go_simp
      (try with_reducible rfl)
    (try simp only [Act.put, List.setIfInBounds_toArray, List.set_cons_zero, List.set_cons_succ])
    refine wpAnyZ_ready (rs := [9]) (by kernel_rfl) (by simp) ?_
    refine AllReadyZ.cons (o := ⟨_, _, _, _, _, _⟩) rfl (fun C hC => ?_) AllReadyZ.nil
    go_simp
    refine (prApply_any u3 pid pep po pl pd pn pc (HRW2.out.keep HU3.out) (by omega) kn b0 b1 b2 b3 b4 b5 recs rd rn rc hrl hrn x HAP.out).mono ?_
    rintro e u4 ⟨xd, xn, xc, rfl, hxr, hxk, hb4⟩
    have hxn := hxr.length
    have HU4 := Lib.hid (HU3.out.trans (hb4.mono HU3.out.size))
    have HXR4 := Lib.hid hxr
    have HXK : Hid (∀ a, xd = some a → u2.heap.size ≤ a.block) := fun a ha => Nat.le_trans HU3.out.size (hxk a ha).1
    clear hb4 hxr hxk
    have hHeld : (fun (V : World) => V.cell? ⟨kt, 0, none⟩ = some (.map (some km)) ∧ V.cell? ⟨P, 0, none⟩ = some (.int .i64 pid) ∧ V.cell? ⟨P, 1, none⟩ = some (.int .i64 pep) ∧ V.cell? ⟨P, 2, none⟩ = some (.slice pd pn pc) ∧ V.cell? ⟨P, 3, none⟩ = some (.int .i64 po) ∧ V.cell? ⟨B, 0, none⟩ = some (.int .i64 b0) ∧ V.cell? ⟨B, 1, none⟩ = some (.int .i64 b1) ∧ V.cell? ⟨B, 2, none⟩ = some (.int .i64 b2) ∧ V.cell? ⟨B, 3, none⟩ = some (.int .i64 b3) ∧ V.cell? ⟨B, 4, none⟩ = some (.bool b4) ∧ V.cell? ⟨B, 5, none⟩ = some (.int .i64 b5) ∧ V.cell? ⟨B, 6, none⟩ = some (.slice rd rn rc)) u4 := KS.out _ HU4.out
    refine hC.out _ _ (fun _ => hHeld) (fun _ => ?_)
    clear hC C
    (try simp only [Act.put, List.setIfInBounds_toArray, List.set_cons_zero, List.set_cons_succ])
    have hT4 := HT2.out.keep HU4.out
    obtain ⟨u5, hput, hmap5, hg5, hs5⟩ := tc_put hT4.map HAS.out ⟨x, xd, xc⟩ b1 HXI.out (by omega) hwf
    simp only at hput
    rw [hxn] at hput
    have HXN := Lib.hid hxn
    have hkm := HT.out.map.lt
    have HKM : Hid (km ≠ D ∧ km ≠ B ∧ km ≠ P) := by
      have h1 := HBD.out
      have h2 := HPB.out
      show _ ∧ _ ∧ _
      omega
    have HD5 : Hid (DBox u5 D Dr.zero) := (HD2.out.on HU4.out).grown hg5 fun e => HKM.out.1 (Option.some.inj e)
    have HX5 : Hid (BoxAt u5 B b0 b1 b2 b3 b4 b5 (.slice rd rn rc)) := (HX2.out.on HU4.out).grows hg5 fun e => HKM.out.2.1 (Option.some.inj e)
    have HP5 : Hid (PBox u5 P pid pep (.slice pd pn pc) po) := (HP2.out.on HU4.out).grown hg5 fun e => HKM.out.2.2 (Option.some.inj e)
    have HW5 : Hid (TcW w km D ms (insM ms ⟨x, xd, xc⟩) u5) := by
      refine ⟨hmap5, fun m hm => ?_, grow_trans (grow_below (grow_refl w _) (HB2.out.trans (HU4.out.mono HB2.out.size))) hg5⟩
      rcases insM_mem _ _ _ hm with rfl | hm
      · refine .inr ⟨?_, fun a ha e => ?_⟩
        · have h1 := HXR4.out.past_map hg5 hT4.map.is
          show RowAt trK u5 xd x.last.length xc x.last
          rw [HXN.out]
          exact h1
        · have h1 := HXK.out a ha
          have h2 := HD2.out.lt
          omega
      · exact .inl hm
    have HPL : Hid (pds (insM ms ⟨x, xd, xc⟩) = l') := by show _ = _; rw [insM_pds, HLQ.out, HAP.out]
    clear hT4 hmap5 hg5 hs5 hxn hkm
    refine wpAnyZ_ready (rs := [10]) (by kernel_rfl) (by simp) ?_
    refine AllReadyZ.cons (o := ⟨_, _, _, _, _, _⟩) rfl (fun C hC => ?_) AllReadyZ.nil
    go_simp
    refine hC.out _ _ (zfree_no (by kernel_rfl)) (fun _ => ?_)
    clear hC C
    (try simp only [Act.put, List.setIfInBounds_toArray, List.set_cons_zero, List.set_cons_succ])
    refine wpAnyZ_done (by kernel_rfl) ?_ _
    refine NoPanic.normal ?_
    clear hHeld KS hput
    clear HT2 HRW2 HF HAS HRE0 HTX HB0 HB1 HB2 HX2 HD2 HP2
    have r0 := HD5.out.c0
    have r1 := HD5.out.c1
    have r2 := HD5.out.c2
    have f0 := HD5.out.free 0
    have f1 := HD5.out.free 1
    have f2 := HD5.out.free 2
    have p5 := HX5.out.c5
    have hDw : w.heap.size ≤ D := HBD.out.2.1
    by_cases hm : b5 = 2
    · have hd5 : (b5 != 2) = false := by rw [hm]; rfl
      cases kn
      · have HDN : Hid (dr = none) := by show _ = _; rw [HDQ.out]; rfl
        clear HDQ HLQ hm
        go_wp2
        exact bodyPost_ret (v := .tuple #[.agg #[.int .i64 0, .int .i64 0, .int .i64 0], .bool false]) (resultsTcApply (HD5.out.s 0 0 0) rfl rfl) rfl (gives_tcapply (d := ⟨0, 0, 0⟩) HT.out HW5.out hDw HPL.out (by rw [HDN.out]; rfl) (by rw [HDN.out]; rfl))
      · have q0 := HP5.out.c0
        have q1 := HP5.out.c1
        have q2 := HP5.out.c2
        have q3 := HP5.out.c3
        by_cases ho : 0 ≤ po
        · have HDN : Hid (dr = some ⟨b1, po, b0⟩) := by show _ = _; rw [HDQ.out, if_pos (by simp [hm, ho])]
          have HO : Hid (decide (0 ≤ po) = true) := decide_eq_true ho
          clear HDQ HLQ hm ho
          go_wp2_with fail
          refine (tcOpen_any u5 pid pep po pd pn pc true HO.out).mono ?_
          rintro e w6 ⟨rfl, hb6⟩
          have HD6 := Lib.hid (HD5.out.on hb6)
          have HX6 := Lib.hid (HX5.out.on hb6)
          have HP6 := Lib.hid (HP5.out.on hb6)
          have HW6 := Lib.hid (HW5.out.on hb6)
          clear hb6 HD5 HX5 HP5 HW5 r0 r1 r2 f0 f1 f2 p5 q0 q1 q2 q3
          have r0 := HD6.out.c0
          have r1 := HD6.out.c1
          have r2 := HD6.out.c2
          have f0 := HD6.out.free 0
          have f1 := HD6.out.free 1
          have f2 := HD6.out.free 2
          have p0 := HX6.out.c0
          have p1 := HX6.out.c1
          have q3 := HP6.out.c3
          go_wp2
          exact bodyPost_ret (v := .tuple #[.agg #[.int .i64 b1, .int .i64 po, .int .i64 b0], .bool true]) (resultsTcApply (HD6.out.s b1 po b0) rfl rfl) rfl (gives_tcapply (d := ⟨b1, po, b0⟩) HT.out HW6.out hDw HPL.out (by rw [HDN.out]; rfl) (by rw [HDN.out]; rfl))
        · have HDN : Hid (dr = none) := by show _ = _; rw [HDQ.out, if_neg (by simp [ho])]
          have HO : Hid (decide (0 ≤ po) = false) := decide_eq_false ho
          clear HDQ HLQ hm ho
          go_wp2_with fail
          refine (tcOpen_any u5 pid pep po pd pn pc false HO.out).mono ?_
          rintro e w6 ⟨rfl, hb6⟩
          have HD6 := Lib.hid (HD5.out.on hb6)
          have HW6 := Lib.hid (HW5.out.on hb6)
          clear hb6 HD5 HX5 HP5 HW5 r0 r1 r2 f0 f1 f2 p5 q0 q1 q2 q3
          have r0 := HD6.out.c0
          have r1 := HD6.out.c1
          have r2 := HD6.out.c2
          have f0 := HD6.out.free 0
          have f1 := HD6.out.free 1
          have f2 := HD6.out.free 2
          go_wp2
          exact bodyPost_ret (v := .tuple #[.agg #[.int .i64 0, .int .i64 0, .int .i64 0], .bool false]) (resultsTcApply (HD6.out.s 0 0 0) rfl rfl) rfl (gives_tcapply (d := ⟨0, 0, 0⟩) HT.out HW6.out hDw HPL.out (by rw [HDN.out]; rfl) (by rw [HDN.out]; rfl))
    · have hd5 : (b5 != 2) = true := by simp [hm]
      have HDN : Hid (dr = none) := by show _ = _; rw [HDQ.out, if_neg (by simp [hm])]
      clear HDQ HLQ hm
      go_wp2
      exact bodyPost_ret (v := .tuple #[.agg #[.int .i64 0, .int .i64 0, .int .i64 0], .bool false]) (resultsTcApply (HD5.out.s 0 0 0) rfl rfl) rfl (gives_tcapply (d := ⟨0, 0, 0⟩) HT.out HW5.out hDw HPL.out (by rw [HDN.out]; rfl) (by rw [HDN.out]; rfl))
  · have hor : rightE ⟨b0, b1, b2, b3, b4, b5, recs⟩ ≠ 0 ∨ (⟨b0, b1, b2, b3, b4, b5, recs⟩ : Bat).prod < 0 := by
      rw [HRE.out]
      show r ≠ 0 ∨ b1 < 0
      omega
    have HLN : Hid (pds ms = l') := by show _ = _; rw [← HLP.out, tapply_no hor]
    have HDN : Hid (dr = none) := by
      show _ = _
      rw [← HDR.out]
      unfold tdropD
      rw [if_pos hor]
    have HW1 : Hid (TcW w km D ms ms w1) := ⟨HT1.out.map, fun m hm => .inl hm, grow_below (grow_refl w _) HB1.out⟩
    have r0 := HD1.out.c0
    have r1 := HD1.out.c1
    have r2 := HD1.out.c2
    have f0 := HD1.out.free 0
    have f1 := HD1.out.free 1
    have f2 := HD1.out.free 2
    have hDw : w.heap.size ≤ D := HBD.out.2.1
    clear hor
    by_cases hz1 : r = 0
    · have hd : (r != 0) = false := by rw [hz1]; rfl
      have hn : b1 = -1 := Classical.byContradiction fun h => hz ⟨hz1, h⟩
      have hd2 : (b1 == -1) = true := by rw [hn]; rfl
      clear hz hz1 hn
      go_wp2
      exact bodyPost_ret (v := .tuple #[.agg #[.int .i64 0, .int .i64 0, .int .i64 0], .bool false]) (resultsTcApply (HD1.out.s 0 0 0) rfl rfl) rfl (gives_tcapply (d := ⟨0, 0, 0⟩) HT.out HW1.out hDw HLN.out (by rw [HDN.out]; rfl) (by rw [HDN.out]; rfl))
    · have hd : (r != 0) = true := by simp [hz1]
      clear hz hz1
      go_wp2
      exact bodyPost_ret (v := .tuple #[.agg #[.int .i64 0, .int .i64 0, .int .i64 0], .bool false]) (resultsTcApply (HD1.out.s 0 0 0) rfl rfl) rfl (gives_tcapply (d := ⟨0, 0, 0⟩) HT.out HW1.out hDw HLN.out (by rw [HDN.out]; rfl) (by rw [HDN.out]; rfl))
end Go.Proofs.YtmnjobiipfgpoaaGreat
namespace Go.Proofs.YtmnjobiipfgpoaaGreat
open Go.RowKit
open Go.SeqMath
open Go.ProdMath
open Go.BatMath hiding AllB getD_lt take_all
set_option linter.unusedVariables false

def bats (ms : List BM) : List Bat := ms.map (·.b)
/-- Batches whose numbers and texts are such. -/
def BatsOk (bs : List Bat) : Prop := ∀ b ∈ bs, TextsOk b.recs ∧ b.prod ≤ 9223372036854775807 ∧ b.recs.length ≤ 140737488355328
def GivesFold (w : World) (bs : List Bat) (e : Ending) (w' : World) : Prop :=
  ∃ kt ad len cap ps dd dn dc, e = .returned (.tuple #[.pointer (some ⟨kt, 0, none⟩), .slice dd dn dc]) ∧ TabOk w' kt ad len cap ps ∧ pds ps = foldP [] bs ∧ RowAt drK w' dd dn dc (foldR [] bs) ∧ w.heap.size ≤ kt ∧ Below w.heap.size w w'
/-- The list under way lies in no block of the table's. -/
def Sep (u : Value) (ad : Option Addr) (ps : List PM) : Prop := ∀ k, u.ownBlock = some k → (∀ a, ad = some a → a.block ≠ k) ∧ ∀ m ∈ ps, ∀ a, m.ad = some a → a.block ≠ k
theorem TabOk.grown {w w' : World} {kt : Nat} {ad : Option Addr} {len cap : Nat} {ms : List PM} {u : Value} (h : TabOk w kt ad len cap ms) (hg : w.grownBy w' u.ownBlock) (hs : Sep u ad ms) (hk : ∀ k, u.ownBlock = some k → k ≠ kt) : TabOk w' kt ad len cap ms := by
  refine ⟨⟨h.tab.box.grown hg fun e => hk _ e rfl, h.tab.pds.row.grown hg fun a ha e => (hs _ e.symm).1 a ha rfl, fun m hm => (h.tab.pds.ins m hm).grown hg fun a ha e => (hs _ e.symm).2 m hm a ha rfl⟩, fun a ha => ⟨(h.row a ha).1, Nat.lt_of_lt_of_le (h.row a ha).2 hg.size⟩, fun m hm a ha => ⟨(h.ins m hm a ha).1, Nat.lt_of_lt_of_le (h.ins m hm a ha).2 hg.size⟩⟩
def FoldLoop (w : World) (bs : List Bat) (j : Nat) (v5 : Value) (wr : World) : Prop :=
  ∃ u ad len cap ps, u = v5 ∧ TabOk wr w.heap.size ad len cap ps ∧ pds ps = foldP [] (bs.take j) ∧ OwnRow drK wr (w.heap.size + 1) u (foldR [] (bs.take j)) ∧ Below w.heap.size w wr ∧ Sep u ad ps
theorem foldR_len : ∀ (l : List Pd) (bs : List Bat), (foldR l bs).length ≤ bs.length
  | l, [] => by simp [foldR]
  | l, b :: bs => by
    have := foldR_len (tapplyD l b) bs
    show ((tdropD l b).toList ++ foldR (tapplyD l b) bs).length ≤ _
    rw [List.length_append, List.length_cons]
    have h2 : (tdropD l b).toList.length ≤ 1 := by cases tdropD l b <;> simp
    omega
set_option maxRecDepth 100000 in
set_option maxHeartbeats 4000000 in
theorem fold_any (w : World) (ad : Option Addr) (len cap : Nat) (ms : List BM) (h : BatsAt w ad len cap ms) (hL : len ≤ 100000) (hok : BatsOk (bats ms)) :
    Calls Tryz.prog 66 #[.slice ad len cap] w (GivesFold w (bats ms)) := by
  have H := Lib.hid h
  have hlen := h.row.length
  obtain ⟨bs, hbs⟩ : ∃ bs, bs = bats ms := ⟨_, rfl⟩
  have hbl : bs.length = len := by rw [hbs]; unfold bats; rw [List.length_map]; exact hlen
  have HGET : Hid (∀ (i : Nat) m, ms[i]? = some m → bs[i]? = some m.b) := by
    intro i m hm
    rw [hbs]; unfold bats
    rw [List.getElem?_map, hm]; rfl
  rw [← hbs] at hok
  rw [← hbs]
  have HOK := Lib.hid hok
  clear h hbs hlen hok
  go_enter Tryz.func66, Tryz.ntmps66
  go_wp2
  go_loopw [5, 14] (fun v5 v14 wr => ∃ j : Nat, v14 = .int .i64 (j : Int) ∧ j ≤ len ∧ FoldLoop w bs j v5 wr) (fun _ v14 _ => len - (intOf v14).toNat)
  case atStart =>
    refine ⟨0, rfl, Nat.zero_le _, _, none, 0, 0, [], rfl, ⟨⟨heap_alloc_new w _, rowAt_nil _, fun m hm => by cases hm⟩, fun a ha => (by cases ha), fun m hm => by cases hm⟩, rfl, ownRow_nil _ _ _, (Below.refl _ _).alloc (Nat.le_refl _) _, fun k hk => by cases hk⟩
  case round =>
    obtain ⟨j, rfl, hj, u, tad, tlen, tcap, ps, rfl, htab, hps, hown, hbel, hsep⟩ := hrel
    have HSP := Lib.hid hsep
    have HT := Lib.hid htab
    have HPS := Lib.hid hps
    have HO := Lib.hid hown
    have HB := Lib.hid hbel
    clear htab hps hown hbel hsep
    obtain ⟨wo, hwo⟩ : ∃ wo : World, wo = wr := ⟨_, rfl⟩
    subst hwo
    by_cases hlt : j < len
    · have hd : decide (j < len) = true := decide_eq_true hlt
      have hjl : (j : Int) < (len : Int) := by omega
      obtain ⟨bk, off, m, rfl, hbk, hm, hrec, c0, c1, c2, c3, c4, c5, c6⟩ := (H.out.keep HB.out).get hlt
      have hbm := HGET.out j m hm
      have htk : bs.take (j + 1) = bs.take j ++ [m.b] := by
        rw [List.take_add_one, hbm]; rfl
      have HTK := Lib.hid htk
      obtain ⟨hk1, hk2, hk3⟩ := HOK.out m.b (List.mem_of_getElem? hbm)
      have HK1 := Lib.hid hk1
      have hpl : tlen ≤ 1000000 := by
        have h1 := foldP_len [] (bs.take j)
        have h2 := HT.out.tab.pds.row.length
        have h3 : (pds ps).length = ps.length := by unfold pds; rw [List.length_map]
        rw [← HPS.out, h3, List.length_take] at h1
        simp at h1
        omega
      have HFEW : Hid (fewP (pds ps)) := by show fewP _; rw [HPS.out]; exact foldP_few _ (fun p hp => by cases hp)
      have HRC := Lib.hid hrec
      clear hbm htk hk1 hm hrec hbk
      go_upto_region 6 with fail
      obtain ⟨W1, hW1⟩ : ∃ W1, W1 = wo.alloc (.cells #[.int .i64 m.b.base, .int .i64 m.b.prod, .int .i64 m.b.epoch, .int .i64 m.b.seq, .bool m.b.txn, .int .i64 m.b.marker, .slice m.ad m.b.recs.length m.cap] 30) := ⟨_, rfl⟩
      have hb1 : Below wo.heap.size wo W1 := by rw [hW1]; exact (Below.refl _ _).alloc (Nat.le_refl _) _
      obtain ⟨K, hK⟩ : ∃ K, K = wo.heap.size := ⟨_, rfl⟩
      have HX1 : Hid (BoxAt W1 K m.b.base m.b.prod m.b.epoch m.b.seq m.b.txn m.b.marker (.slice m.ad m.b.recs.length m.cap)) := by show BoxAt _ _ _ _ _ _ _ _ _; rw [hW1, hK]; exact boxAt_new wo _ _ _ _ _ _ _
      have HT1 := Lib.hid (HT.out.keep hb1)
      have HO1 := Lib.hid (HO.out.on hb1)
      have HB1 := Lib.hid (HB.out.trans (hb1.mono HB.out.size))
      have HRC1 := Lib.hid (HRC.out.keep hb1)
      rw [← hW1, ← hK]
      clear hW1 hb1 hK c0 c1 c2 c3 c4 c5 c6
      have p0 := HX1.out.c0
      have p1 := HX1.out.c1
      have p2 := HX1.out.c2
      have p3 := HX1.out.c3
      have p4 := HX1.out.c4
      have p5 := HX1.out.c5
      have p6 := HX1.out.c6
      obtain ⟨l', hl'⟩ : ∃ l', tapplyD (pds ps) m.b = l' := ⟨_, rfl⟩
      obtain ⟨dr, hdr⟩ : ∃ dr, tdropD (pds ps) m.b = dr := ⟨_, rfl⟩
      have CA := tabApply_any W1 w.heap.size tad tlen tcap ps HT1.out hpl m.b m.ad m.b.recs.length m.cap HRC1.out HK1.out hk3 hk2 HFEW.out
      rw [hl', hdr] at CA
      have CAH := Lib.hid CA
      have HP2 : Hid (l' = foldP [] (bs.take (j + 1))) := by show _ = _; rw [HTK.out, foldP_snoc, ← HPS.out, hl']
      have HR2 : Hid (foldR [] (bs.take (j + 1)) = foldR [] (bs.take j) ++ dr.toList) := by show _ = _; rw [HTK.out, foldR_snoc, ← HPS.out, hdr]
      have hrl : (foldR [] (bs.take j)).length ≤ j := by have := foldR_len [] (bs.take j); rw [List.length_take] at this; omega
      obtain ⟨lr, hlr⟩ : ∃ lr, foldR [] (bs.take j) = lr := ⟨_, rfl⟩
      rw [hlr] at hrl HO1 HR2
      clear CA hl' hdr hlr HPS HTK HFEW HK1
      go_wp2_with fail
      refine CAH.out.mono ?_
      rintro e w2 ⟨d, tad2, tlen2, tcap2, ps2, rfl, hdd, ht2, hp2, hg2, hfa2, hfi2⟩
      have HSP2 : Hid (Sep u tad2 ps2) := by
        intro k hk
        have hkl := (HO1.out.lt k hk).2
        refine ⟨fun a ha => ?_, fun m hm a ha => ?_⟩
        · rcases hfa2 a ha with h1 | h1
          · exact (HSP.out k hk).1 a h1
          · omega
        · rcases hfi2 m hm with h1 | h1
          · exact (HSP.out k hk).2 m h1 a ha
          · have := h1 a ha; omega
      have HT2 := Lib.hid ht2
      have HP3 : Hid (pds ps2 = foldP [] (bs.take (j + 1))) := by show _ = _; rw [hp2, HP2.out]
      have HO2 := Lib.hid (HO1.out.grown hg2 (fun k hk e => by have := (HO1.out.lt k hk).1; cases e; omega))
      have HB2 : Hid (Below w.heap.size w w2) := HB1.out.trans (below_grown hg2 (Nat.le_refl _) HB1.out.size)
      have HDD := Lib.hid hdd
      clear ht2 hp2 hg2 hfa2 hfi2 HSP CAH p0 p1 p2 p3 p4 p5 p6 HT1 HO1 HX1 HP2 hdd
      go_upto_region 7 with fail
      obtain ⟨W3, hW3⟩ : ∃ W3, W3 = w2.alloc (.cells #[.int .i64 d.prod, .int .i64 d.first, .int .i64 d.last] 55) := ⟨_, rfl⟩
      have hb3 : Below w2.heap.size w2 W3 := by rw [hW3]; exact (Below.refl _ _).alloc (Nat.le_refl _) _
      obtain ⟨Q, hQ⟩ : ∃ Q, Q = w2.heap.size := ⟨_, rfl⟩
      have HD3 : Hid (DBox W3 Q d) := by show DBox _ _ _; rw [hW3, hQ]; exact dbox_new w2 d
      have HT3 := Lib.hid (HT2.out.keep hb3)
      have HO3 := Lib.hid (HO2.out.on hb3)
      have HB3 := Lib.hid (HB2.out.trans (hb3.mono HB2.out.size))
      rw [← hW3, ← hQ]
      clear hW3 hb3 hQ HT2 HO2 HB2
      have d0 := HD3.out.c0
      have d1 := HD3.out.c1
      have d2 := HD3.out.c2
      cases dr with
      | none =>
        have HR4 : Hid (foldR [] (bs.take (j + 1)) = lr) := by show _ = _; rw [HR2.out]; simp
        simp only [Option.isSome_none]
        go_wp2
        go_roundw
        case rel => exact ⟨j + 1, by go_num, by omega, _, tad2, tlen2, tcap2, ps2, rfl, HT3.out, HP3.out, by rw [HR4.out]; exact HO3.out, HB3.out, HSP2.out⟩
        case measure => simp [intOf]; omega
      | some x =>
        have hxd : x = d := HDD.out
        subst hxd
        have HR4 : Hid (foldR [] (bs.take (j + 1)) = lr ++ [x]) := by show _ = _; rw [HR2.out]; rfl
        simp only [Option.isSome_some]
        have HBA : Hid (Below w.heap.size w (W3.alloc (.cells #[.int .i64 x.prod, .int .i64 x.first, .int .i64 x.last] 55))) := HB3.out.alloc HB3.out.size _
        have HRX : Hid (RowAt drK (W3.alloc (.cells #[.int .i64 x.prod, .int .i64 x.first, .int .i64 x.last] 55)) (some ⟨W3.heap.size, 0, none⟩) 1 1 [x]) := rowAt_lit drK_ok W3 [x] (by simp) _ rfl 1 rfl
        have hwl : w.heap.size + 1 ≤ W3.heap.size := HT3.out.tab.box.lt
        go_wp2_with (at_builtin; refine list_row (by rfl) drK_ok (.tmp 25) (.tmp 27) rfl (w.heap.size + 1) lr [x] _ rfl (HO3.out.alloc _) (by simp; omega) (some ⟨W3.heap.size, 0, none⟩) 1 1 rfl HRX.out (by omega) ?_)
        intro v4 w4 hap
        have HO4 := Lib.hid hap.1
        have hg34 : W3.grownBy w4 u.ownBlock := grow_trans (World.grownBy_alloc W3 _ _) hap.2.1
        have hub : ∀ k, u.ownBlock = some k → w.heap.size < k := fun k hk => by have := (HO3.out.lt k hk).1; omega
        have HB4 : Hid (Below w.heap.size w w4) := HBA.out.grown hap.2.1 HBA.out.size fun k hk => Nat.le_of_lt (hub k hk)
        have HT4 : Hid (TabOk w4 w.heap.size tad2 tlen2 tcap2 ps2) := HT3.out.grown hg34 HSP2.out (fun k hk => by have := hub k hk; omega)
        have HSP4 : Hid (Sep v4 tad2 ps2) := by
          intro k hk
          rcases hap.2.2.2 k hk with h1 | h1
          · exact HSP2.out k h1
          · have h1 : W3.heap.size + 1 ≤ k := by simpa using h1
            exact ⟨fun a ha => by have := (HT3.out.row a ha).2; omega, fun m hm a ha => by have := (HT3.out.ins m hm a ha).2; omega⟩
        clear hap hg34 hub HBA HRX HT3 HO3 HB3
        go_wp2
        go_roundw
        case rel => exact ⟨j + 1, by go_num, by omega, _, tad2, tlen2, tcap2, ps2, rfl, HT4.out, HP3.out, by rw [HR4.out]; exact HO4.out, HB4.out, HSP4.out⟩
        case measure => simp [intOf]; omega
    · have hd : decide (j < len) = false := decide_eq_false hlt
      have htk : bs.take j = bs := List.take_of_length_le (by omega)
      have HPE : Hid (pds ps = foldP [] bs) := by show _ = _; rw [HPS.out, htk]
      have HOE : Hid (OwnRow drK wo (w.heap.size + 1) u (foldR [] bs)) := by have := HO.out; rw [htk] at this; exact this
      clear HPS HO htk
      obtain ⟨dd, dc, hv, hr, _⟩ := HOE.out.at drK_ok
      subst hv
      go_wp2
      go_ret2
      exact ⟨w.heap.size, tad, tlen, tcap, ps, dd, _, dc, rfl, HT.out, HPE.out, hr, Nat.le_refl _, HB.out⟩
end Go.Proofs.YtmnjobiipfgpoaaGreat
namespace Go.ProdMath
open Go.SeqMath
open Go.BatMath
set_option linter.unusedVariables false

/-- The least Open of those that have one; -1, if none has. -/
def IsLeast (l : List Pd) (v : Int) : Prop := (v = -1 ∧ ∀ p ∈ l, p.opn < 0) ∨ (0 ≤ v ∧ (∃ p ∈ l, p.opn = v) ∧ ∀ p ∈ l, 0 ≤ p.opn → v ≤ p.opn)
theorem least_one {l : List Pd} {v u : Int} (h : IsLeast l v) (h2 : IsLeast l u) : v = u := by
  rcases h with ⟨e, h⟩ | ⟨h0, ⟨p, hp, hv⟩, hm⟩ <;> rcases h2 with ⟨e2, h2⟩ | ⟨g0, ⟨q, hq, hu⟩, gm⟩
  · omega
  · have := h q hq; omega
  · have := h2 p hp; omega
  · have h3 := hm q hq (by omega)
    have h4 := gm p hp (by omega)
    omega
def endsB (k : Int) (l : List Bat) : Bool := l.any fun c => decide (c.marker ≠ 0) && decide (c.prod = k)
def opensB (b : Bat) (l : List Bat) : Bool := b.txn && (decide (b.marker = 0) && !endsB b.prod l)
def firstOpen : List Bat → Int
  | [] => -1
  | b :: l => if opensB b l = true then b.base else firstOpen l
def pOpen (k : Int) : List Bat → Int
  | [] => -1
  | b :: l => if b.prod = k ∧ opensB b l = true then b.base else pOpen k l
def opnS (s : Option Pd) : Int := match s with | some p => p.opn | none => -1
theorem ends_cons (k : Int) (b : Bat) (l : List Bat) : endsB k (b :: l) = ((decide (b.marker ≠ 0) && decide (b.prod = k)) || endsB k l) := rfl
theorem opn_step (s : Option Pd) (b : Bat) : opnS (stepD s b) = if b.marker ≠ 0 then -1 else if b.txn = true ∧ opnS s < 0 then b.base else opnS s := by
  unfold stepD opnS applyD oldOpen
  cases s with
  | none =>
    by_cases h : b.marker ≠ 0
    · simp [h]
    · simp [h]
  | some p =>
    by_cases h : b.marker ≠ 0
    · simp [h]
    · simp [h]
/-- What one producer has open, behind some batches. -/
theorem state_opn (k : Int) (hk : 0 ≤ k) : ∀ (s : Option Pd) (bs : List Bat), -1 ≤ opnS s → (∀ b ∈ bs, rightE b = 0 ∧ 0 ≤ b.base) → opnS (stateD k s bs) = if endsB k bs = false ∧ 0 ≤ opnS s then opnS s else pOpen k bs
  | s, [], hs, _ => by
    show opnS s = if endsB k [] = false ∧ 0 ≤ opnS s then opnS s else -1
    split
    · rfl
    · rename_i h
      by_cases h2 : 0 ≤ opnS s
      · exact absurd ⟨rfl, h2⟩ h
      · omega
  | s, b :: bs, hs0, h => by
    have hb := h b (by simp)
    have ih := fun s hs => state_opn k hk s bs hs fun c hc => h c (by simp [hc])
    rw [ends_cons]
    by_cases hp : b.prod = k
    · have e1 : stateD k s (b :: bs) = stateD k (stepD s b) bs := by
        show stateD k (if rightE b = 0 ∧ 0 ≤ b.prod ∧ b.prod = k then stepD s b else s) bs = _
        rw [if_pos ⟨hb.1, by omega, hp⟩]
      have e2 : pOpen k (b :: bs) = if opensB b bs = true then b.base else pOpen k bs := by
        show (if b.prod = k ∧ opensB b bs = true then b.base else pOpen k bs) = _
        simp [hp]
      have hs := opn_step s b
      have hs1 : -1 ≤ opnS (stepD s b) := by
        rw [hs]
        split
        · omega
        · split
          · have := hb.2; omega
          · exact hs0
      have i1 := ih (stepD s b) hs1
      have hb0 := hb.2
      rw [e1, e2, i1]
      by_cases hm : b.marker = 0
      · have e3 : opensB b bs = (b.txn && !endsB k bs) := by unfold opensB; rw [hp]; simp [hm]
        rw [if_neg (by simp [hm])] at hs
        have e4 : (decide (b.marker ≠ 0) && decide (b.prod = k) || endsB k bs) = endsB k bs := by simp [hm]
        rw [e3, e4]
        cases he : endsB k bs
        · cases ht : b.txn
          · rw [ht, if_neg (by simp)] at hs
            rw [hs]; rfl
          · rw [ht] at hs
            by_cases h0 : opnS s < 0
            · rw [if_pos ⟨rfl, h0⟩] at hs
              rw [hs, if_pos ⟨rfl, hb0⟩, if_neg (by omega)]; rfl
            · rw [if_neg (fun h => h0 h.2)] at hs
              rw [hs]
              rw [if_pos ⟨rfl, by omega⟩, if_pos ⟨rfl, by omega⟩]
        · cases ht : b.txn <;> simp
      · have e3 : opensB b bs = false := by unfold opensB; simp [hm]
        have e4 : (decide (b.marker ≠ 0) && decide (b.prod = k) || endsB k bs) = true := by simp [hm, hp]
        rw [if_pos hm] at hs
        rw [e3, e4, hs]
        rw [if_neg (by omega), if_neg (fun h => by cases h.1), if_neg (by decide)]
    · have e1 : stateD k s (b :: bs) = stateD k s bs := by
        show stateD k (if rightE b = 0 ∧ 0 ≤ b.prod ∧ b.prod = k then stepD s b else s) bs = _
        rw [if_neg (fun h => hp h.2.2)]
      have e2 : pOpen k (b :: bs) = pOpen k bs := by
        show (if b.prod = k ∧ opensB b bs = true then b.base else pOpen k bs) = _
        rw [if_neg (fun h => hp h.1)]
      rw [e1, e2, decide_eq_false hp, Bool.and_false, Bool.false_or]
      exact ih s hs0
/-- Nothing is known of a producer with a number below 0. -/
theorem state_none (k : Int) (hk : k < 0) : ∀ (bs : List Bat), stateD k none bs = none
  | [] => rfl
  | b :: bs => by
    show stateD k (if rightE b = 0 ∧ 0 ≤ b.prod ∧ b.prod = k then stepD none b else none) bs = none
    rw [if_neg (by omega)]
    exact state_none k hk bs
theorem pOpen_bd (k : Int) : ∀ (bs : List Bat), (∀ b ∈ bs, 0 ≤ b.base) → pOpen k bs = -1 ∨ ∃ b ∈ bs, pOpen k bs = b.base
  | [], _ => .inl rfl
  | b :: bs, h => by
    unfold pOpen
    split
    · exact .inr ⟨b, by simp, rfl⟩
    · rcases pOpen_bd k bs fun c hc => h c (by simp [hc]) with e | ⟨c, hc, e⟩
      · exact .inl e
      · exact .inr ⟨c, by simp [hc], e⟩
/-- The first one of all is the least of those of each. -/
theorem first_least : ∀ (bs : List Bat), (bs.Pairwise fun a b => a.base < b.base) → (∀ b ∈ bs, 0 ≤ b.base) → (∀ b ∈ bs, b.txn = true → 0 ≤ b.prod) →
    (firstOpen bs = -1 ∧ ∀ k, pOpen k bs = -1) ∨ (0 ≤ firstOpen bs ∧ (∃ k, 0 ≤ k ∧ pOpen k bs = firstOpen bs) ∧ ∀ k, 0 ≤ pOpen k bs → firstOpen bs ≤ pOpen k bs)
  | [], _, _, _ => .inl ⟨rfl, fun k => rfl⟩
  | b :: bs, hp, h0, ht => by
    have h1 := List.pairwise_cons.1 hp
    by_cases ho : opensB b bs = true
    · have e : firstOpen (b :: bs) = b.base := by unfold firstOpen; rw [if_pos ho]
      have hb := h0 b (by simp)
      have htx : b.txn = true := by unfold opensB at ho; simp at ho; exact ho.1
      refine .inr ⟨by rw [e]; exact hb, ⟨b.prod, ht b (by simp) htx, ?_⟩, fun k hk => ?_⟩
      · rw [e]; unfold pOpen; rw [if_pos ⟨rfl, ho⟩]
      · rw [e]
        unfold pOpen at hk ⊢
        split
        · omega
        · rename_i h2
          rw [if_neg h2] at hk
          rcases pOpen_bd k bs fun c hc => h0 c (by simp [hc]) with e2 | ⟨c, hc, e2⟩
          · omega
          · have := h1.1 c hc; omega
    · have e : firstOpen (b :: bs) = firstOpen bs := by
        show (if opensB b bs = true then b.base else firstOpen bs) = _
        rw [if_neg ho]
      have e2 : ∀ k, pOpen k (b :: bs) = pOpen k bs := fun k => by
        show (if b.prod = k ∧ opensB b bs = true then b.base else pOpen k bs) = _
        rw [if_neg (fun h => ho h.2)]
      rw [e]
      simp only [e2]
      exact first_least bs h1.2 (fun c hc => h0 c (by simp [hc])) (fun c hc => ht c (by simp [hc]))
theorem asc_nil : Asc [] := List.Pairwise.nil
theorem fold_state (bs : List Bat) (k : Int) : lookD (foldP [] bs) k = stateD k none bs := look_fold k bs asc_nil
theorem look_mem {l : List Pd} (h : Asc l) {p : Pd} (hp : p ∈ l) : lookD l p.id = some p := by
  induction l with
  | nil => cases hp
  | cons q l ih =>
    rw [look_cons]
    rcases List.mem_cons.1 hp with e | e
    · rw [e, if_pos rfl]
    · have := asc_head h p e
      rw [if_neg (by omega)]
      exact ih (asc_tail h) e
/-- The first offset that is open, of a row that a partition may have. -/
theorem fold_least (bs : List Bat) (hr : ∀ b ∈ bs, rightE b = 0) (hp : bs.Pairwise fun a b => a.base < b.base) (h0 : ∀ b ∈ bs, 0 ≤ b.base) (ht : ∀ b ∈ bs, b.txn = true → 0 ≤ b.prod) : IsLeast (foldP [] bs) (firstOpen bs) := by
  have hasc := fold_asc bs asc_nil
  have hst : ∀ p ∈ foldP [] bs, 0 ≤ p.id ∧ p.opn = pOpen p.id bs := by
    intro p hp
    have h1 := look_mem hasc hp
    rw [fold_state] at h1
    by_cases hk : 0 ≤ p.id
    · refine ⟨hk, ?_⟩
      have h2 := state_opn p.id hk none bs (by decide) (fun b hb => ⟨hr b hb, h0 b hb⟩)
      rw [h1, if_neg (fun h => by have := h.2; revert this; decide)] at h2
      exact h2
    · rw [state_none _ (by omega)] at h1; cases h1
  rcases first_least bs hp h0 ht with ⟨e, h⟩ | ⟨hv, ⟨k, hk, hke⟩, hm⟩
  · exact .inl ⟨e, fun p hp => by rw [(hst p hp).2, h]; decide⟩
  · refine .inr ⟨hv, ?_, fun p hp hp0 => ?_⟩
    · have h2 := state_opn k hk none bs (by decide) (fun b hb => ⟨hr b hb, h0 b hb⟩)
      rw [if_neg (fun h => by have := h.2; revert this; decide)] at h2
      cases hs : stateD k none bs with
      | none =>
        rw [hs] at h2
        have h3 : pOpen k bs = -1 := h2.symm
        omega
      | some p =>
        rw [hs] at h2
        have h3 : p.opn = pOpen k bs := h2
        have h4 := fold_state bs k
        rw [hs] at h4
        exact ⟨p, (look_id h4).2, by omega⟩
    · rw [(hst p hp).2] at hp0 ⊢
      exact hm _ hp0
end Go.ProdMath
namespace Go.Proofs.YtmnjobiipfgpoaaGreat
open Go.RowKit
open Go.SeqMath
open Go.ProdMath
open Go.BatMath hiding AllB getD_lt take_all
set_option linter.unusedVariables false

def GivesTcFold (w : World) (bs : List Bat) (e : Ending) (w' : World) : Prop :=
  ∃ kt km ps, e = .returned (.pointer (some ⟨kt, 0, none⟩)) ∧ TcOk w' kt km ps ∧ pds ps = foldP [] bs ∧ w.heap.size ≤ kt ∧ w.heap.size ≤ km ∧ Below w.heap.size w w'
set_option maxRecDepth 100000 in
set_option maxHeartbeats 4000000 in
theorem tcFold_any (w : World) (ad : Option Addr) (len cap : Nat) (ms : List BM) (h : BatsAt w ad len cap ms) (hL : len ≤ 100000) (hok : BatsOk (bats ms)) :
    Calls Tryz.prog 11 #[.slice ad len cap] w (GivesTcFold w (bats ms)) := by
  have H := Lib.hid h
  have hlen := h.row.length
  obtain ⟨bs, hbs⟩ : ∃ bs, bs = bats ms := ⟨_, rfl⟩
  have hbl : bs.length = len := by rw [hbs]; unfold bats; rw [List.length_map]; exact hlen
  have HGET : Hid (∀ (i : Nat) m, ms[i]? = some m → bs[i]? = some m.b) := by
    intro i m hm
    rw [hbs]; unfold bats
    rw [List.getElem?_map, hm]; rfl
  rw [← hbs] at hok
  rw [← hbs]
  have HOK := Lib.hid hok
  have HBL := Lib.hid hbl
  clear h hbs hlen hok hbl
  go_enter Tryz.func11, Tryz.ntmps11
  go_wp2_with fail
  refine (tcNew_any w).mono ?_
  rintro e w1 ⟨kt, km, rfl, ht1, hb1, hk1, hk2⟩
  have HT1 := Lib.hid ht1
  have HB1 := Lib.hid hb1
  have HKT : Hid (w.heap.size ≤ kt ∧ w.heap.size ≤ km) := ⟨hk1, hk2⟩
  clear ht1 hb1 hk1 hk2
  go_wp2
  go_loopw [9] (fun v9 wr => ∃ j ps, v9 = .int .i64 ((j : Nat) : Int) ∧ j ≤ len ∧ Hid (TcOk wr kt km ps) ∧ Hid (pds ps = foldP [] (bs.take j)) ∧ Hid (Below w.heap.size w wr)) (fun v9 _ => len - (intOf v9).toNat)
  case atStart => exact ⟨0, [], rfl, Nat.zero_le _, HT1.out, rfl, HB1.out⟩
  case round =>
    obtain ⟨j, ps, rfl, hj, HT, HPS, HB⟩ := hrel
    clear HT1 HB1
    obtain ⟨wo, hwo⟩ : ∃ wo : World, wo = wr := ⟨_, rfl⟩
    subst hwo
    by_cases hlt : j < len
    · have hd : decide (j < len) = true := decide_eq_true hlt
      have hjl : (j : Int) < (len : Int) := by omega
      obtain ⟨bk, off, m, rfl, hbk, hm, hrec, c0, c1, c2, c3, c4, c5, c6⟩ := (H.out.keep HB.out).get hlt
      have hbm := HGET.out j m hm
      have htk : bs.take (j + 1) = bs.take j ++ [m.b] := by
        rw [List.take_add_one, hbm]; rfl
      have HTK := Lib.hid htk
      obtain ⟨hk1, hk2, hk3⟩ := HOK.out m.b (List.mem_of_getElem? hbm)
      have HK1 := Lib.hid hk1
      have HFEW : Hid (fewP (pds ps)) := by show fewP _; rw [HPS.out]; exact foldP_few _ (fun p hp => by cases hp)
      have HASC : Hid (Asc (pds ps)) := by show Asc _; rw [HPS.out]; exact fold_asc _ asc_nil
      have HRC := Lib.hid hrec
      clear hbm htk hk1 hm hrec hbk
      go_upto_region 5 with fail
      obtain ⟨W1, hW1⟩ : ∃ W1, W1 = wo.alloc (.cells #[.int .i64 m.b.base, .int .i64 m.b.prod, .int .i64 m.b.epoch, .int .i64 m.b.seq, .bool m.b.txn, .int .i64 m.b.marker, .slice m.ad m.b.recs.length m.cap] 30) := ⟨_, rfl⟩
      have hb1 : Below wo.heap.size wo W1 := by rw [hW1]; exact (Below.refl _ _).alloc (Nat.le_refl _) _
      obtain ⟨K, hK⟩ : ∃ K, K = wo.heap.size := ⟨_, rfl⟩
      have HX1 : Hid (BoxAt W1 K m.b.base m.b.prod m.b.epoch m.b.seq m.b.txn m.b.marker (.slice m.ad m.b.recs.length m.cap)) := by show BoxAt _ _ _ _ _ _ _ _ _; rw [hW1, hK]; exact boxAt_new wo _ _ _ _ _ _ _
      have HT1 := Lib.hid (HT.out.keep hb1)
      have HB1 := Lib.hid (HB.out.trans (hb1.mono HB.out.size))
      have HRC1 := Lib.hid (HRC.out.keep hb1)
      rw [← hW1, ← hK]
      clear hW1 hb1 hK c0 c1 c2 c3 c4 c5 c6
      have p0 := HX1.out.c0
      have p1 := HX1.out.c1
      have p2 := HX1.out.c2
      have p3 := HX1.out.c3
      have p4 := HX1.out.c4
      have p5 := HX1.out.c5
      have p6 := HX1.out.c6
      obtain ⟨l', hl'⟩ : ∃ l', tapplyD (pds ps) m.b = l' := ⟨_, rfl⟩
      obtain ⟨dr, hdr⟩ : ∃ dr, tdropD (pds ps) m.b = dr := ⟨_, rfl⟩
      have CA := tcApply_any W1 kt km ps HT1.out HASC.out HFEW.out m.b m.ad m.b.recs.length m.cap HRC1.out HK1.out hk3 hk2
      rw [hl', hdr] at CA
      have CAH := Lib.hid CA
      have HP2 : Hid (l' = foldP [] (bs.take (j + 1))) := by show _ = _; rw [HTK.out, foldP_snoc, ← HPS.out, hl']
      clear CA hl' hdr HPS HTK HFEW HASC HK1
      go_wp2_with fail
      refine CAH.out.mono ?_
      rintro e w2 ⟨d, ps2, rfl, hdd, ht2, hp2, hg2⟩
      have HT2 := Lib.hid ht2
      have HP3 : Hid (pds ps2 = foldP [] (bs.take (j + 1))) := by show _ = _; rw [hp2, HP2.out]
      have HB2 : Hid (Below w.heap.size w w2) := HB1.out.trans (below_grown hg2 HKT.out.2 HB1.out.size)
      clear ht2 hp2 hg2 CAH p0 p1 p2 p3 p4 p5 p6 HT1 HX1 HP2 hdd HT HB HRC
      go_wp2
      go_roundw
      case rel => exact ⟨j + 1, ps2, rfl, by omega, HT2.out, HP3.out, HB2.out⟩
      case measure => simp [intOf]; omega
    · have hd : decide (j < len) = false := decide_eq_false hlt
      have hjl : j = len := by omega
      have HFIN : Hid (pds ps = foldP [] bs) := by
        show _ = _
        rw [HPS.out, hjl, ← HBL.out, List.take_length]
      clear HPS hjl
      go_wp2
      go_ret
      exact ⟨kt, km, ps, rfl, HT.out, HFIN.out, HKT.out.1, HKT.out.2, HB.out⟩
theorem least_nil : IsLeast [] (-1) := .inl ⟨rfl, fun p hp => by cases hp⟩
theorem least_perm {l l' : List Pd} {v : Int} (h : IsLeast l v) (hp : l.Perm l') : IsLeast l' v := by
  rcases h with ⟨e, h⟩ | ⟨h0, ⟨p, hpm, hv⟩, hm⟩
  · exact .inl ⟨e, fun p h2 => h p (hp.mem_iff.2 h2)⟩
  · exact .inr ⟨h0, ⟨p, hp.mem_iff.1 hpm, hv⟩, fun q hq => hm q (hp.mem_iff.2 hq)⟩
theorem least_low {l : List Pd} {v : Int} (h : IsLeast l v) : v = -1 ∨ 0 ≤ v := by
  rcases h with ⟨e, _⟩ | ⟨h0, _⟩
  · exact .inl e
  · exact .inr h0
theorem least_skip {l : List Pd} {v : Int} {p : Pd} (h : IsLeast l v) (hp : p.opn < 0 ∨ (v ≠ -1 ∧ v ≤ p.opn)) : IsLeast (l ++ [p]) v := by
  rcases h with ⟨e, h⟩ | ⟨h0, ⟨q, hq, hv⟩, hm⟩
  · refine .inl ⟨e, fun q hq => ?_⟩
    rcases List.mem_append.1 hq with hq | hq
    · exact h q hq
    · rw [List.mem_singleton.1 hq]
      rcases hp with h1 | h1
      · exact h1
      · exact absurd e h1.1
  · refine .inr ⟨h0, ⟨q, List.mem_append.2 (.inl hq), hv⟩, fun q2 hq2 h2 => ?_⟩
    rcases List.mem_append.1 hq2 with hq2 | hq2
    · exact hm q2 hq2 h2
    · rw [List.mem_singleton.1 hq2] at h2 ⊢
      rcases hp with h1 | h1
      · omega
      · exact h1.2
theorem least_take {l : List Pd} {v : Int} {p : Pd} (h : IsLeast l v) (hp : 0 ≤ p.opn) (hv : v = -1 ∨ p.opn ≤ v) : IsLeast (l ++ [p]) p.opn := by
  refine .inr ⟨hp, ⟨p, by simp, rfl⟩, fun q hq h2 => ?_⟩
  rcases List.mem_append.1 hq with hq | hq
  · rcases h with ⟨e, h⟩ | ⟨h0, _, hm⟩
    · have := h q hq; omega
    · have := hm q hq h2
      rcases hv with hv | hv
      · omega
      · omega
  · rw [List.mem_singleton.1 hq]; omega
theorem cells_iterAs {α : Type} {P : Program} {t : TypeId} {f : α → Value × Value} {w : World} {km r k : Nat} {ps dn lf : List α} {cs : Array Value} {ty : TypeId} {fr : Nat × Nat} (hr : RangeAs P t f w km r ps dn lf) (hk : w.heap[k]? = some (.cells cs ty fr)) : k ≠ r := fun e => by
  obtain ⟨es, clock, since, seen, c0, _, _, _, _, h1, _⟩ := hr
  rw [e, h1] at hk
  cases hk
def GivesTcOpen (w : World) (l : List Pd) (e : Ending) (w' : World) : Prop := ∃ v, IsLeast l v ∧ e = .returned (.tuple #[.int .i64 v, .bool (v != -1)]) ∧ Below w.heap.size w w'
set_option maxRecDepth 100000 in
set_option maxHeartbeats 4000000 in
theorem tcOpens_any (w : World) (kt km : Nat) (ms : List PM) (h : TcOk w kt km ms) :
    Calls Tryz.prog 16 #[.pointer (some ⟨kt, 0, none⟩)] w (GivesTcOpen w (pds ms)) := by
  have H := Lib.hid h
  have t0 := h.box.c0
  obtain ⟨w2, hrange, hrg, hb2, hs2⟩ := mapAs_range (P := Tryz.prog) tcMapT h.map
  obtain ⟨rr, hrr⟩ : ∃ z, z = w.heap.size := ⟨_, rfl⟩
  rw [← hrr] at hrange hrg
  have HRR : Hid (rr = w.heap.size) := hrr
  have HRG2 := Lib.hid hrg
  have HB2 := Lib.hid hb2
  clear h hrg hb2 hs2 hrr
  go_enter Tryz.func16, Tryz.ntmps16
  go_wp2_with fail
  clear hrange t0
  go_loopw [4] (fun v4 wr => ∃ v dn lf, v4 = .int .i64 v ∧ Hid (RangeAs Tryz.prog 2 pmE wr km rr ms dn lf) ∧ Hid (IsLeast (pds dn) v) ∧ Hid (Below w.heap.size w wr)) (fun _ wr => wr.rangeLeft km rr)
  case atStart => exact ⟨-1, [], ms, rfl, HRG2.out, least_nil, HB2.out⟩
  case round =>
    obtain ⟨v, dn, lf, rfl, HRG, HLE, HBL⟩ := hrel
    obtain ⟨w4, hw4⟩ : ∃ z : World, z = wr := ⟨_, rfl⟩
    subst hw4
    clear HRG2 HB2
    rcases mapAs_next (P := Tryz.prog) HRG.out 0 with ⟨hl0, hnext⟩ | ⟨p, lf', w5, hlp, hpm, hnext, hrg5, hg5, hs5, hen⟩
    · have HLF : Hid (lf = []) := hl0
      clear hl0
      go_wp2
      go_ret2
      have h1 := HRG.out.all
      rw [HLF.out, List.append_nil] at h1
      exact ⟨v, least_perm HLE.out (h1.symm.map _), rfl, HBL.out⟩
    · simp only [pmE] at hnext hen
      have HRG5 := Lib.hid hrg5
      have HCNT := Lib.hid HRG.out.count
      have HCNTN := Lib.hid hlp.length_eq
      have HB5 : Hid (Below w.heap.size w w5) := HBL.out.trans (below_grown hg5 (Nat.le_of_eq HRR.out.symm) HBL.out.size)
      obtain ⟨⟨pid, pep, pl, po⟩, pd, pc⟩ := p
      simp only at hnext hen
      obtain ⟨pn, hpn⟩ : ∃ n, n = pl.length := ⟨_, rfl⟩
      rw [← hpn] at hnext hen
      clear hlp hrg5 hg5 hs5 hpm hpn HBL HRG
      go_upto_region 5 with fail
      obtain ⟨W6, hW6⟩ : ∃ z, z = w5.alloc (.cells #[.int .i64 pid, .int .i64 pep, .slice pd pn pc, .int .i64 po] 36) := ⟨_, rfl⟩
      have hb : Below w5.heap.size w5 W6 := by rw [hW6]; exact (Below.refl _ _).alloc (Nat.le_refl _) _
      obtain ⟨P, hP⟩ : ∃ P, P = w5.heap.size := ⟨_, rfl⟩
      have HP6 : Hid (PBox W6 P pid pep (.slice pd pn pc) po) := by show PBox _ _ _ _ _ _; rw [hW6, hP]; exact pbox_new w5 _ _ _ _
      have HR6 := Lib.hid (HRG5.out.on hb)
      have HB6 := Lib.hid (HB5.out.trans (hb.mono HB5.out.size))
      rw [← hW6, ← hP]
      clear hW6 hP hb hnext hen HRG5 HB5
      have q0 := HP6.out.c0
      have q1 := HP6.out.c1
      have q2 := HP6.out.c2
      have q3 := HP6.out.c3
      by_cases ho : 0 ≤ po
      · have HO : Hid (decide (0 ≤ po) = true) := decide_eq_true ho
        have HOO := Lib.hid ho
        clear ho
        go_wp2_with fail
        refine (tcOpen_any W6 pid pep po pd pn pc true HO.out).mono ?_
        rintro e w7 ⟨rfl, hb7⟩
        have HP7 := Lib.hid (HP6.out.on hb7)
        have HR7 := Lib.hid (HR6.out.on hb7)
        have HB7 := Lib.hid (HB6.out.trans (hb7.mono HB6.out.size))
        clear hb7 q0 q1 q2 q3 HP6 HR6 HB6
        have q3 := HP7.out.c3
        by_cases hv : v = -1
        · have hd : (v == -1) = true := by rw [hv]; rfl
          have HL2 : Hid (IsLeast (pds (dn ++ [⟨⟨pid, pep, pl, po⟩, pd, pc⟩])) po) := by
            show IsLeast _ _
            have := least_take (p := ⟨pid, pep, pl, po⟩) HLE.out HOO.out (.inl hv)
            unfold pds at this ⊢
            rw [List.map_append]
            exact this
          clear hv
          go_wp2
          go_roundw
          case rel => exact ⟨po, _, lf', rfl, HR7.out, HL2.out, HB7.out⟩
          case measure =>
            rw [HR7.out.count, HCNT.out, HCNTN.out]
            simp
        · have hd : (v == -1) = false := beq_false_of_ne hv
          by_cases hlt : po < v
          · have hd2 : decide (po < v) = true := decide_eq_true hlt
            have HL2 : Hid (IsLeast (pds (dn ++ [⟨⟨pid, pep, pl, po⟩, pd, pc⟩])) po) := by
              show IsLeast _ _
              have := least_take (p := ⟨pid, pep, pl, po⟩) HLE.out HOO.out (.inr (Int.le_of_lt hlt))
              unfold pds at this ⊢
              rw [List.map_append]
              exact this
            clear hv hlt
            go_wp2
            go_roundw
            case rel => exact ⟨po, _, lf', rfl, HR7.out, HL2.out, HB7.out⟩
            case measure =>
              rw [HR7.out.count, HCNT.out, HCNTN.out]
              simp
          · have hd2 : decide (po < v) = false := decide_eq_false hlt
            have HL2 : Hid (IsLeast (pds (dn ++ [⟨⟨pid, pep, pl, po⟩, pd, pc⟩])) v) := by
              show IsLeast _ _
              have := least_skip (p := ⟨pid, pep, pl, po⟩) HLE.out (.inr ⟨hv, by show v ≤ po; omega⟩)
              unfold pds at this ⊢
              rw [List.map_append]
              exact this
            clear hv hlt
            go_wp2
            go_roundw
            case rel => exact ⟨v, _, lf', rfl, HR7.out, HL2.out, HB7.out⟩
            case measure =>
              rw [HR7.out.count, HCNT.out, HCNTN.out]
              simp
      · have HO : Hid (decide (0 ≤ po) = false) := decide_eq_false ho
        have HL2 : Hid (IsLeast (pds (dn ++ [⟨⟨pid, pep, pl, po⟩, pd, pc⟩])) v) := by
          show IsLeast _ _
          have := least_skip (p := ⟨pid, pep, pl, po⟩) HLE.out (.inl (by show po < 0; omega))
          unfold pds at this ⊢
          rw [List.map_append]
          exact this
        clear ho
        go_wp2_with fail
        refine (tcOpen_any W6 pid pep po pd pn pc false HO.out).mono ?_
        rintro e w7 ⟨rfl, hb7⟩
        have HR7 := Lib.hid (HR6.out.on hb7)
        have HB7 := Lib.hid (HB6.out.trans (hb7.mono HB6.out.size))
        clear hb7 q0 q1 q2 q3 HP6 HR6 HB6
        go_wp2
        go_roundw
        case rel => exact ⟨v, _, lf', rfl, HR7.out, HL2.out, HB7.out⟩
        case measure =>
          rw [HR7.out.count, HCNT.out, HCNTN.out]
          simp
end Go.Proofs.YtmnjobiipfgpoaaGreat
namespace Go.Proofs.YtmnjobiipfgpoaaGreat
open Go.RowKit
open Go.SeqMath
open Go.ProdMath
open Go.BatMath hiding AllB getD_lt take_all
set_option linter.unusedVariables false

def GivesBool (w : World) (r : Bool) (e : Ending) (w' : World) : Prop := e = .returned (.bool r) ∧ Below w.heap.size w w'
theorem gives_bool {w w' : World} {r k : Bool} (h : r = k) (hb : Below w.heap.size w w') : GivesBool w r (.returned (.bool k)) w' := ⟨by rw [h], hb⟩
end Go.Proofs.YtmnjobiipfgpoaaGreat
namespace Go.Proofs.YtmnjobiipfgpoaaGreat
open Go.RowKit
open Go.SeqMath
open Go.ProdMath
open Go.BatMath hiding AllB getD_lt take_all
set_option linter.unusedVariables false

set_option maxRecDepth 100000 in
set_option maxHeartbeats 4000000 in
theorem prRefSame_any (w : World) (id ep op : Int) (last : List Tr) (ad : Option Addr) (n cap : Nat) (hl : RowAt trK w ad n cap last) (am : Option Addr) (cm : Nat) (hm : RowAt trK w am n cm last) (hn : n ≤ 100000000000) :
    Calls Tryz.prog 13 #[.agg #[.int .i64 id, .int .i64 ep, .slice ad n cap, .int .i64 op], .agg #[.int .i64 id, .int .i64 ep, .slice am n cm, .int .i64 op]] w (GivesBool w true) := by
  obtain ⟨W0, hW0⟩ : ∃ W0, W0 = ((w.alloc (.cells #[.int .i64 id, .int .i64 ep, .slice ad n cap, .int .i64 op] 36)).alloc (.cells #[.int .i64 id, .int .i64 ep, .slice am n cm, .int .i64 op] 36)) := ⟨_, rfl⟩
  have HB0 : Hid (Below w.heap.size w W0) := by show Below _ _ _; rw [hW0]; exact ((Below.refl _ _).alloc (Nat.le_refl _) _).alloc (by simp) _
  have HP0 : Hid (PBox W0 w.heap.size (id) (ep) (.slice ad n cap) (op)) := by
    show PBox _ w.heap.size (id) (ep) (.slice ad n cap) (op)
    rw [hW0]
    have h1 := pbox_new w (id) (ep) (.slice ad n cap) (op)
    have h2 := h1.on ((Below.refl _ _).alloc (Nat.le_refl _) (.cells #[.int .i64 id, .int .i64 ep, .slice am n cm, .int .i64 op] 36))
    simpa using h2
  have HP1 : Hid (PBox W0 (w.heap.size + 1) (id) (ep) (.slice am n cm) (op)) := by
    show PBox _ (w.heap.size + 1) (id) (ep) (.slice am n cm) (op)
    rw [hW0]
    have h1 := pbox_new (w.alloc (.cells #[.int .i64 id, .int .i64 ep, .slice ad n cap, .int .i64 op] 36)) (id) (ep) (.slice am n cm) (op)
    simpa using h1
  have HW0 := Lib.hid hW0
  clear hW0
  obtain ⟨B1, hB1⟩ : ∃ B, B = w.heap.size := ⟨_, rfl⟩
  obtain ⟨B2, hB2⟩ : ∃ B, B = w.heap.size + 1 := ⟨_, rfl⟩
  rw [← hB1] at HP0
  rw [← hB2] at HP1
  go_enter Tryz.func13, Tryz.ntmps13
  go_upto_region 1 with fail
  rw [← HW0.out, ← hB2, ← hB1]
  clear HW0 hB1 hB2
  have HL0 := Lib.hid (hl.keep HB0.out)
  have HM0 := Lib.hid (hm.keep HB0.out)
  clear hl hm
  have q0 := HP0.out.c0
  have q1 := HP0.out.c1
  have q2 := HP0.out.c2
  have q3 := HP0.out.c3
  have s0 := HP1.out.c0
  have s1 := HP1.out.c1
  have s2 := HP1.out.c2
  have s3 := HP1.out.c3
  have hd1 : (id == id) = true := by simp
  have hd2 : (ep == ep) = true := by simp
  have hd3 : (op == op) = true := by simp
  have hd1n : (id != id) = false := by simp
  have hd2n : (ep != ep) = false := by simp
  have hd3n : (op != op) = false := by simp
  have hd4 : (n == n) = true := by simp
  have hd5 : ((n : Int) == (n : Int)) = true := by simp
  have hgd := guard_three
  go_wp2
  go_loopw [37] (fun v37 wr => ∃ j : Nat, v37 = .int .i64 (j : Int) ∧ j ≤ n ∧ Below W0.heap.size W0 wr) (fun v37 _ => n - (intOf v37).toNat)
  case atStart => exact ⟨0, rfl, Nat.zero_le _, Below.refl _ _⟩
  case round =>
    obtain ⟨j, rfl, hj, hbel⟩ := hrel
    have HB := Lib.hid hbel
    clear hbel q0 q1 q2 q3 s0 s1 s2 s3
    obtain ⟨wo, hwo⟩ : ∃ wo : World, wo = wr := ⟨_, rfl⟩
    subst hwo
    by_cases hlt : j < n
    · have hd6 : decide (j < n) = true := decide_eq_true hlt
      have hjn : (j : Int) < (n : Int) := by omega
      obtain ⟨bk, off, x, rfl, hbk, hx, c0, c1, c2⟩ := tr_get (HL0.out.keep HB.out) hlt
      obtain ⟨bm, om, y, rfl, hbm, hy, d0, d1, d2⟩ := tr_get (HM0.out.keep HB.out) hlt
      have hxy : y = x := by rw [hx] at hy; cases hy; rfl
      subst hxy
      have q2 := (HP0.out.on HB.out).c2
      have s2 := (HP1.out.on HB.out).c2
      clear hx hy hbk hbm
      go_upto_region 6 with fail
      have heq : ∀ W, (binOp .neq 74 (.agg #[.int .i64 y.f, .int .i64 y.l, .int .i64 y.b]) (.agg #[.int .i64 y.f, .int .i64 y.l, .int .i64 y.b])).run Tryz.prog W = .ok (.bool false) W := fun W => neq_three _ _ _ _ _ _ true (by simp) W
      go_quiet (fail)
      have HBU := Lib.hid (below_drewN HB.out nq)
      clear q2 s2 c0 c1 c2 d0 d1 d2 heq
      go_wp2
      go_roundw
      case rel => exact ⟨j + 1, by go_num, by omega, HBU.out⟩
      case measure => simp [intOf]; omega
    · have hd6 : decide (j < n) = false := decide_eq_false hlt
      go_wp2
      go_ret
      exact gives_bool rfl (HB0.out.trans (HB.out.mono HB0.out.size))
end Go.Proofs.YtmnjobiipfgpoaaGreat
