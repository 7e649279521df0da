/- Parts of a proof, merged: ModPut, ModAct. -/
import Derived.Test.YtgohekjkbgfeeaaGreatKg19
namespace Go.Proofs.YtgohekjkbgfeeaaGreat
open Go.RowKit
open Go.SeqMath
open Go.ProdMath
open Go.BatMath hiding AllB getD_lt take_all
set_option linter.unusedVariables false

/-- A log without files; all that it holds is younger than its box. -/
structure MOk (w : World) (km : Nat) (mc start : Int) (ad : Option Addr) (len cap : Nat) (ms : List BM) : Prop where
  box : MBox w km mc start (.slice ad len cap)
  bats : BatsAt w ad len cap ms
  row : ∀ a, ad = some a → km < a.block ∧ a.block < w.heap.size
  ins : ∀ m ∈ ms, ∀ a, m.ad = some a → km < a.block ∧ a.block < w.heap.size
theorem MOk.keep {w w' : World} {km : Nat} {mc start : Int} {ad : Option Addr} {len cap : Nat} {ms : List BM} (h : MOk w km mc start ad len cap ms) (hb : Below w.heap.size w w') : MOk w' km mc start ad len cap ms :=
  ⟨h.box.on hb, h.bats.keep hb, fun a ha => ⟨(h.row a ha).1, Nat.lt_of_lt_of_le (h.row a ha).2 hb.size⟩, fun m hm a ha => ⟨(h.ins m hm a ha).1, Nat.lt_of_lt_of_le (h.ins m hm a ha).2 hb.size⟩⟩
theorem RecAt.grown {w w' : World} {m : BM} {r : Option Nat} (h : RecAt w m) (hg : w.grownBy w' r) (hr : ∀ a, m.ad = some a → some a.block ≠ r) : RecAt w' m := recsAt_row.2 ((recsAt_row.1 h).grown hg hr)
/-- Another block has turned. -/
theorem MOk.grown {w w' : World} {km k : Nat} {mc start : Int} {ad : Option Addr} {len cap : Nat} {ms : List BM} (h : MOk w km mc start ad len cap ms) (hg : w.grownBy w' (some k)) (hk : k ≠ km) (hr : ∀ a, ad = some a → a.block ≠ k) (hi : ∀ m ∈ ms, ∀ a, m.ad = some a → a.block ≠ k) : MOk w' km mc start ad len cap ms :=
  ⟨h.box.grown hg fun e => hk (Option.some.inj e), ⟨h.bats.row.grown hg fun a ha e => hr a ha (Option.some.inj e), fun m hm => RecAt.grown (h.bats.ins m hm) hg fun a ha e => hi m hm a ha (Option.some.inj e)⟩, fun a ha => ⟨(h.row a ha).1, Nat.lt_of_lt_of_le (h.row a ha).2 hg.size⟩, fun m hm a ha => ⟨(h.ins m hm a ha).1, Nat.lt_of_lt_of_le (h.ins m hm a ha).2 hg.size⟩⟩
def GivesPut (w : World) (km : Nat) (mc start : Int) (r : (Int × Int) × List Bat) (e : Ending) (w' : World) : Prop :=
  ∃ ad len cap ms, e = .returned (.tuple #[.int .i64 r.1.1, .int .i64 r.1.2]) ∧ MOk w' km mc start ad len cap ms ∧ bats ms = r.2 ∧ w.grownBy w' (some km)
theorem gives_put {w w' : World} {km : Nat} {mc start : Int} {r : (Int × Int) × List Bat} {x y : Int} {bs : List Bat} {ad : Option Addr} {len cap : Nat} {ms : List BM} (hr : r = ((x, y), bs)) (h : MOk w' km mc start ad len cap ms) (hb : bats ms = bs) (hg : w.grownBy w' (some km)) : GivesPut w km mc start r (.returned (.tuple #[.int .i64 x, .int .i64 y])) w' := by
  subst hr
  exact ⟨ad, len, cap, ms, rfl, h, hb, hg⟩
theorem BoxAt.grown2 {w w' : World} {k km : Nat} {b0 b1 b2 b3 : Int} {b4 : Bool} {b5 : Int} {v : Value} (h : BoxAt w k b0 b1 b2 b3 b4 b5 v) (hg : w.grownBy w' (some km)) (hk : km ≠ k) : BoxAt w' k b0 b1 b2 b3 b4 b5 v := h.grows hg fun e => hk (Option.some.inj e)
theorem put_ok {W W' : World} {km len cap len' cap' : Nat} {mc start : Int} {ad ad' : Option Addr} {ms : List BM} {mx : BM} (h : MOk W km mc start ad len cap ms) (hg : W.grownBy W' (some km)) (hb : MBox W' km mc start (.slice ad' len' cap')) (hr : RowAt batK W' ad' len' cap' (ms ++ [mx])) (hk : ∀ a, ad' = some a → W.heap.size ≤ a.block ∧ a.block < W'.heap.size) (hx : RecAt W mx) (hxk : ∀ a, mx.ad = some a → km < a.block ∧ a.block < W.heap.size) : MOk W' km mc start ad' len' cap' (ms ++ [mx]) := by
  have hlt := h.box.lt
  have hall : ∀ m ∈ ms ++ [mx], RecAt W m ∧ ∀ a, m.ad = some a → km < a.block ∧ a.block < W.heap.size := by
    intro m hm
    rcases List.mem_append.1 hm with h1 | h1
    · exact ⟨h.bats.ins m h1, h.ins m h1⟩
    · rw [List.mem_singleton.1 h1]; exact ⟨hx, hxk⟩
  refine ⟨hb, ⟨hr, fun m hm => RecAt.grown (hall m hm).1 hg fun a ha e => ?_⟩, fun a ha => ?_, fun m hm a ha => ?_⟩
  · have h1 := ((hall m hm).2 a ha).1
    have h2 := Option.some.inj e
    omega
  · have := hk a ha
    exact ⟨by omega, this.2⟩
  · have := (hall m hm).2 a ha
    exact ⟨this.1, Nat.lt_of_lt_of_le this.2 hg.size⟩
set_option maxRecDepth 100000 in
set_option maxHeartbeats 8000000 in
theorem modPut_any (w : World) (km : Nat) (mc start : Int) (ad : Option Addr) (len cap : Nat) (ms : List BM) (h : MOk w km mc start ad len cap ms) (hL : len ≤ 99999) (hok : RowOk (bats ms)) (hend : 0 ≤ endD start (bats ms) ∧ endD start (bats ms) ≤ 1099511627792) (b0 b1 b2 b3 : Int) (b4 : Bool) (b5 : Int) (recs : List Rc) (rd : Option Addr) (rc : Nat) (hr : RecsAt w rd recs.length rc recs) (ht : TextsOk recs) (hrn : recs.length ≤ 140737488355328) (hwf : b1 ≤ 9223372036854775807) (r : (Int × Int) × List Bat) (hput : putD mc start (bats ms) ⟨b0, b1, b2, b3, b4, b5, recs⟩ = r) :
    Calls Tryz.prog 54 #[.pointer (some ⟨km, 0, none⟩), .agg #[.int .i64 b0, .int .i64 b1, .int .i64 b2, .int .i64 b3, .bool b4, .int .i64 b5, .slice rd recs.length rc]] w (GivesPut w km mc start r) := by
  have hkm := h.box.lt
  have HOW : Hid (∀ a, ad = some a → a.block < w.heap.size) := fun a ha => (h.row a ha).2
  have HOI : Hid (∀ m ∈ ms, ∀ a, m.ad = some a → a.block < w.heap.size) := fun m hm a ha => (h.ins m hm a ha).2
  obtain ⟨W0, hW0⟩ : ∃ W0, W0 = w.alloc (.cells #[.int .i64 b0, .int .i64 b1, .int .i64 b2, .int .i64 b3, .bool b4, .int .i64 b5, .slice rd recs.length rc] 56) := ⟨_, rfl⟩
  have HB0 : Hid (Below w.heap.size w W0) := by show Below _ _ _; rw [hW0]; exact (Below.refl _ _).alloc (Nat.le_refl _) _
  have HX0 : Hid (BoxAt W0 w.heap.size b0 b1 b2 b3 b4 b5 (.slice rd recs.length rc)) := by show BoxAt _ _ _ _ _ _ _ _ _; rw [hW0]; exact boxAt_new w _ _ _ _ _ _ _
  have HM0 := Lib.hid (h.keep HB0.out)
  have HRE0 := Lib.hid (hr.keep HB0.out)
  have HOK := Lib.hid hok
  have HBO := Lib.hid (batsOk_of hok)
  have HTX := Lib.hid ht
  have HW0 := Lib.hid hW0
  clear h hr hok hW0 ht
  obtain ⟨X, hX⟩ : ∃ X, X = w.heap.size := ⟨_, rfl⟩
  have hXw : w.heap.size ≤ X := by omega
  have hXk : km ≠ X := by omega
  have HXE := Lib.hid hX
  rw [← hX] at HX0
  obtain ⟨bs, hbs⟩ : ∃ bs, bats ms = bs := ⟨_, rfl⟩
  have HBS := Lib.hid hbs
  rw [hbs] at hend hput HBO HOK
  clear hbs
  obtain ⟨ca, ce, hc⟩ : ∃ ca ce, tcheckD (foldP [] bs) ⟨b0, b1, b2, b3, b4, b5, recs⟩ = (ca, ce) := ⟨_, _, rfl⟩
  obtain ⟨x, hx⟩ : ∃ x, bytesD bs = x := ⟨_, rfl⟩
  obtain ⟨s, hs⟩ : ∃ s, sizeB ⟨b0, b1, b2, b3, b4, b5, recs⟩ = s := ⟨_, rfl⟩
  obtain ⟨v, hv⟩ : ∃ v, endD start bs = v := ⟨_, rfl⟩
  obtain ⟨cnt, hcnt⟩ : ∃ cnt, (if b5 ≠ 0 then 1 else (recs.length : Int)) = cnt := ⟨_, rfl⟩
  have hcd : countD ⟨b0, b1, b2, b3, b4, b5, recs⟩ = cnt := hcnt
  have hbl : bs.length = len := by rw [← HBS.out]; unfold bats; rw [List.length_map]; exact HM0.out.bats.row.length
  have hxb := bytesD_bd bs
  rw [hx, hbl] at hxb
  have hsb := size_bd ⟨b0, b1, b2, b3, b4, b5, recs⟩
  rw [hs] at hsb
  rw [hv] at hend
  have hcb : 0 ≤ cnt ∧ cnt ≤ 140737488355328 := by rw [← hcnt]; split <;> omega
  have hput2 : r = if ce ≠ 0 then ((-1, ce), bs) else if 0 ≤ ca then ((ca, 0), bs) else if mc < x + s then ((-1, 17), bs) else if 1099511627776 < v + cnt then ((-1, 18), bs) else ((b0, 0), bs ++ [⟨b0, b1, b2, b3, b4, b5, recs⟩]) := by
    rw [← hput]
    unfold putD
    rw [hc, hx, hs, hv, hcd]
  have HPUT := Lib.hid hput2
  have HC := Lib.hid hc
  have HX_ := Lib.hid hx
  have HS_ := Lib.hid hs
  have HV := Lib.hid hv
  have HCNT := Lib.hid hcnt
  clear hput hput2 hc hx hs hv hcnt hcd hbl
  go_enter Tryz.func54, Tryz.ntmps54
  go_upto_region 1 with fail
  rw [← HW0.out, ← hX]
  clear HW0 hX
  have m2 := HM0.out.box.c2
  go_wp2_with fail
  have CF := fold_any W0 ad len cap ms HM0.out.bats (by omega) (by rw [HBS.out]; exact HBO.out)
  rw [HBS.out] at CF
  refine CF.mono ?_
  clear CF
  rintro e w1 ⟨kt, tad, tlen, tcap, ps, dd, dn, dc, rfl, htab, hps, _, _, hb1⟩
  have HT1 := Lib.hid htab
  have HPS := Lib.hid hps
  have HX1 := Lib.hid (HX0.out.on hb1)
  have HM1 := Lib.hid (HM0.out.keep hb1)
  have HRE1 := Lib.hid (HRE0.out.keep hb1)
  have HB1 := Lib.hid (HB0.out.trans (hb1.mono HB0.out.size))
  have htl : tlen ≤ 100000 := by
    have h1 := foldP_len [] bs
    have h2 := htab.tab.pds.row.length
    have h3 : (pds ps).length = ps.length := by unfold pds; rw [List.length_map]
    have h4 : bs.length = len := by rw [← HBS.out]; unfold bats; rw [List.length_map]; exact HM0.out.bats.row.length
    rw [← hps, h3] at h1
    simp at h1
    omega
  clear htab hps hb1 HX0 HM0 HRE0 HB0 m2
  have p0 := HX1.out.c0
  have p1 := HX1.out.c1
  have p2 := HX1.out.c2
  have p3 := HX1.out.c3
  have p4 := HX1.out.c4
  have p5 := HX1.out.c5
  have p6 := HX1.out.c6
  go_wp2_with fail
  have CC := tabCheck_any w1 kt tad tlen tcap ps HT1.out.tab (by omega) ⟨b0, b1, b2, b3, b4, b5, recs⟩ rd recs.length rc HRE1.out HTX.out hrn hwf (ca, ce) (by rw [HPS.out]; exact HC.out) (by rw [HPS.out]; exact foldP_few bs (fun p hp => by cases hp))
  refine CC.mono ?_
  clear CC
  rintro e w2 ⟨rfl, hb2⟩
  have HX2 := Lib.hid (HX1.out.on hb2)
  have HM2 := Lib.hid (HM1.out.keep hb2)
  have HRE2 := Lib.hid (HRE1.out.keep hb2)
  have HB2 := Lib.hid (HB1.out.trans (hb2.mono HB1.out.size))
  have HG2 : Hid (w.grownBy w2 (some km)) := grow_below (grow_refl w _) HB2.out
  clear hb2 HX1 HM1 HRE1 HB1 HT1 HPS htl p0 p1 p2 p3 p4 p5 p6
  simp only
  by_cases he : ce = 0
  · have hd : (ce == 0) = true := by rw [he]; rfl
    have hdn : (ce != 0) = false := by rw [he]; rfl
    have hrr : rightE ⟨b0, b1, b2, b3, b4, b5, recs⟩ = 0 := tcheck_right (by rw [HC.out]; exact he)
    have h16 : recs.length ≤ 16 := (ok_of hrr).recs
    have hcb2 : cnt ≤ 16 := by rw [← HCNT.out]; split <;> omega
    have hput3 := HPUT.out
    rw [if_neg (by simp [he])] at hput3
    have HPUT3 := Lib.hid hput3
    clear hput3 HPUT hrr he
    by_cases h0 : 0 ≤ ca
    · have hd2 : decide (0 ≤ ca) = true := decide_eq_true h0
      have HEND : Hid (r = ((ca, 0), bs)) := by show r = _; rw [HPUT3.out, if_pos h0]
      clear HPUT3 h0
      go_wp2
      go_ret2
      exact gives_put HEND.out HM2.out HBS.out HG2.out
    · have hd2 : decide (0 ≤ ca) = false := decide_eq_false h0
      have hput4 := HPUT3.out
      rw [if_neg h0] at hput4
      have HPUT4 := Lib.hid hput4
      clear hput4 HPUT3 h0
      have KS7 : Hid (∀ W, Below w2.heap.size w2 W → (fun (W : World) => W.cell? ⟨X, 0, none⟩ = some (.int .i64 b0) ∧ W.cell? ⟨X, 1, none⟩ = some (.int .i64 b1) ∧ W.cell? ⟨X, 2, none⟩ = some (.int .i64 b2) ∧ W.cell? ⟨X, 3, none⟩ = some (.int .i64 b3) ∧ W.cell? ⟨X, 4, none⟩ = some (.bool b4) ∧ W.cell? ⟨X, 5, none⟩ = some (.int .i64 b5) ∧ W.cell? ⟨X, 6, none⟩ = some (.slice rd recs.length rc) ∧ W.cell? ⟨km, 0, none⟩ = some (.int .i64 mc)) W) := by
        intro W hW
        have hX := HX2.out.on hW
        exact ⟨hX.c0, hX.c1, hX.c2, hX.c3, hX.c4, hX.c5, hX.c6, (HM2.out.box.on hW).c0⟩
      have hdrw : Below w2.heap.size w2 w2.drew := (Below.refl _ w2).drew
      have hwr : IntKind.i64.wrap (x + s) = x + s := IntWalk.i64_in _ (by omega)
      go_upto_region 7 with fail
      refine wp_region_noPanic ?_
      refine wp_region_z [] (fun (W : World) => W.cell? ⟨X, 0, none⟩ = some (.int .i64 b0) ∧ W.cell? ⟨X, 1, none⟩ = some (.int .i64 b1) ∧ W.cell? ⟨X, 2, none⟩ = some (.int .i64 b2) ∧ W.cell? ⟨X, 3, none⟩ = some (.int .i64 b3) ∧ W.cell? ⟨X, 4, none⟩ = some (.bool b4) ∧ W.cell? ⟨X, 5, none⟩ = some (.int .i64 b5) ∧ W.cell? ⟨X, 6, none⟩ = some (.slice rd recs.length rc) ∧ W.cell? ⟨km, 0, none⟩ = some (.int .i64 mc)) (by kernel_rfl) ?_
      have hHeld : (fun (W : World) => W.cell? ⟨X, 0, none⟩ = some (.int .i64 b0) ∧ W.cell? ⟨X, 1, none⟩ = some (.int .i64 b1) ∧ W.cell? ⟨X, 2, none⟩ = some (.int .i64 b2) ∧ W.cell? ⟨X, 3, none⟩ = some (.int .i64 b3) ∧ W.cell? ⟨X, 4, none⟩ = some (.bool b4) ∧ W.cell? ⟨X, 5, none⟩ = some (.int .i64 b5) ∧ W.cell? ⟨X, 6, none⟩ = some (.slice rd recs.length rc) ∧ W.cell? ⟨km, 0, none⟩ = some (.int .i64 mc)) _ := KS7.out _ hdrw
      obtain ⟨u0, hu0⟩ : ∃ u, u = w2.drew := ⟨_, rfl⟩
      rw [← hu0] at hHeld hdrw
      rw [← hu0]
      clear hu0
      have HU0 := Lib.hid hdrw
      clear hdrw
      refine wpAnyZ_take (i := 0) (oi := ⟨_, _, _, _, _, _⟩) (v := ?_) rfl (by kernel_rfl) (by kernel_rfl) (by kernel_rfl) (by kernel_rfl) (by kernel_rfl) (fun _ _ _ h => h) (Or.inl ⟨by rfl, ?_⟩) (by assumption) ?_
      rotate_left
      · intro W hSw
        (try dsimp only at hSw)
        go_simp
        (try with_reducible rfl)
      (try simp only [Act.put, List.setIfInBounds_toArray, List.set_cons_zero, List.set_cons_succ])
      refine wpAnyZ_take (i := 2) (oi := ⟨_, _, _, _, _, _⟩) (v := ?_) rfl (by kernel_rfl) (by kernel_rfl) (by kernel_rfl) (by kernel_rfl) (by kernel_rfl) (fun _ _ _ h => h) (Or.inl ⟨by rfl, ?_⟩) (by assumption) ?_
      rotate_left
      · intro W hSw
        (try dsimp only at hSw)
        go_simp
        (try with_reducible rfl)
      (try simp only [Act.put, List.setIfInBounds_toArray, List.set_cons_zero, List.set_cons_succ])
      refine wpAnyZ_take (i := 5) (oi := ⟨_, _, _, _, _, _⟩) (v := ?_) rfl (by kernel_rfl) (by kernel_rfl) (by kernel_rfl) (by kernel_rfl) (by kernel_rfl) (fun _ _ _ h => h) (Or.inl ⟨by rfl, ?_⟩) (by assumption) ?_
      rotate_left
      · intro W hSw
        (try dsimp only at hSw)
        go_simp
        (try with_reducible rfl)
      (try simp only [Act.put, List.setIfInBounds_toArray, List.set_cons_zero, List.set_cons_succ])
      refine wpAnyZ_take (i := 6) (oi := ⟨_, _, _, _, _, _⟩) (v := ?_) rfl (by kernel_rfl) (by kernel_rfl) (by kernel_rfl) (by kernel_rfl) (by kernel_rfl) (fun _ _ _ h => h) (Or.inl ⟨by rfl, ?_⟩) (by assumption) ?_
      rotate_left
      · intro W hSw
        (try dsimp only at hSw)
        go_simp
        (try with_reducible rfl)
      (try simp only [Act.put, List.setIfInBounds_toArray, List.set_cons_zero, List.set_cons_succ])
      refine wpAnyZ_take (i := 7) (oi := ⟨_, _, _, _, _, _⟩) (v := ?_) rfl (by kernel_rfl) (by kernel_rfl) (by kernel_rfl) (by kernel_rfl) (by kernel_rfl) (fun _ _ _ h => h) (Or.inl ⟨by rfl, ?_⟩) (by assumption) ?_
      rotate_left
      · intro W hSw
        (try dsimp only at hSw)
        go_simp
        (try with_reducible rfl)
      (try simp only [Act.put, List.setIfInBounds_toArray, List.set_cons_zero, List.set_cons_succ])
      refine wpAnyZ_take (i := 8) (oi := ⟨_, _, _, _, _, _⟩) (v := ?_) rfl (by kernel_rfl) (by kernel_rfl) (by kernel_rfl) (by kernel_rfl) (by kernel_rfl) (fun _ _ _ h => h) (Or.inl ⟨by rfl, ?_⟩) (by assumption) ?_
      rotate_left
      · intro W hSw
        (try dsimp only at hSw)
        go_simp
        (try with_reducible rfl)
      (try simp only [Act.put, List.setIfInBounds_toArray, List.set_cons_zero, List.set_cons_succ])
      refine wpAnyZ_ready (rs := [1]) (by kernel_rfl) (by simp) ?_
      refine AllReadyZ.cons (o := ⟨_, _, _, _, _, _⟩) rfl (fun C hC => ?_) AllReadyZ.nil
      go_simp
      refine (modSize_any u0 km mc start ad len cap ms (HM2.out.box.on HU0.out) (HM2.out.bats.keep HU0.out) (by omega) (by rw [HBS.out]; exact HOK.out) x (by rw [HBS.out]; exact HX_.out)).mono ?_
      rintro e u1 ⟨rfl, hbb⟩
      have HU1 := Lib.hid (HU0.out.trans (hbb.mono HU0.out.size))
      clear hbb
      go_wp2_with fail
      have hHeld : (fun (W : World) => W.cell? ⟨X, 0, none⟩ = some (.int .i64 b0) ∧ W.cell? ⟨X, 1, none⟩ = some (.int .i64 b1) ∧ W.cell? ⟨X, 2, none⟩ = some (.int .i64 b2) ∧ W.cell? ⟨X, 3, none⟩ = some (.int .i64 b3) ∧ W.cell? ⟨X, 4, none⟩ = some (.bool b4) ∧ W.cell? ⟨X, 5, none⟩ = some (.int .i64 b5) ∧ W.cell? ⟨X, 6, none⟩ = some (.slice rd recs.length rc) ∧ W.cell? ⟨km, 0, none⟩ = some (.int .i64 mc)) u1 := KS7.out _ HU1.out
      refine hC.out _ _ (fun _ => hHeld) (fun _ => ?_)
      clear hC C
      (try simp only [Act.put, List.setIfInBounds_toArray, List.set_cons_zero, List.set_cons_succ])
      have CS := refSize_any u1 ⟨b0, b1, b2, b3, b4, b5, recs⟩ rd recs.length rc (HRE2.out.keep HU1.out) HTX.out hrn hwf
      rw [HS_.out] at CS
      refine wpAnyZ_ready (rs := [3]) (by kernel_rfl) (by simp) ?_
      refine AllReadyZ.cons (o := ⟨_, _, _, _, _, _⟩) rfl (fun C hC => ?_) AllReadyZ.nil
      go_simp
      refine CS.mono ?_
      rintro e u2 ⟨rfl, hbb⟩
      have HU2 := Lib.hid (HU1.out.trans (hbb.mono HU1.out.size))
      clear hbb
      go_wp2_with fail
      have hHeld : (fun (W : World) => W.cell? ⟨X, 0, none⟩ = some (.int .i64 b0) ∧ W.cell? ⟨X, 1, none⟩ = some (.int .i64 b1) ∧ W.cell? ⟨X, 2, none⟩ = some (.int .i64 b2) ∧ W.cell? ⟨X, 3, none⟩ = some (.int .i64 b3) ∧ W.cell? ⟨X, 4, none⟩ = some (.bool b4) ∧ W.cell? ⟨X, 5, none⟩ = some (.int .i64 b5) ∧ W.cell? ⟨X, 6, none⟩ = some (.slice rd recs.length rc) ∧ W.cell? ⟨km, 0, none⟩ = some (.int .i64 mc)) u2 := KS7.out _ HU2.out
      refine hC.out _ _ (fun _ => hHeld) (fun _ => ?_)
      clear hC C
      (try simp only [Act.put, List.setIfInBounds_toArray, List.set_cons_zero, List.set_cons_succ])
      clear CS
      refine wpAnyZ_take (i := 4) (oi := ⟨_, _, _, _, _, _⟩) (v := ?_) rfl (by kernel_rfl) (by kernel_rfl) (by kernel_rfl) (by kernel_rfl) (by kernel_rfl) (fun _ _ _ h => h) (Or.inl ⟨by rfl, ?_⟩) (by assumption) ?_
      rotate_left
      · intro W hSw
        (try dsimp only at hSw)
        go_simp
        (try with_reducible rfl)
      (try simp only [Act.put, List.setIfInBounds_toArray, List.set_cons_zero, List.set_cons_succ])
      refine wpAnyZ_take (i := 9) (oi := ⟨_, _, _, _, _, _⟩) (v := ?_) rfl (by kernel_rfl) (by kernel_rfl) (by kernel_rfl) (by kernel_rfl) (by kernel_rfl) (fun _ _ _ h => h) (Or.inl ⟨by rfl, ?_⟩) (by assumption) ?_
      rotate_left
      · intro W hSw
        (try dsimp only at hSw)
        go_simp
        (try with_reducible rfl)
      (try simp only [Act.put, List.setIfInBounds_toArray, List.set_cons_zero, List.set_cons_succ])
      refine wpAnyZ_done (by kernel_rfl) ?_ _
      refine NoPanic.normal ?_
      clear hHeld hwr
      obtain ⟨w3, hw3⟩ : ∃ w3, w3 = u2 := ⟨_, rfl⟩
      subst hw3
      have HX3 := Lib.hid (HX2.out.on HU2.out)
      have HM3 := Lib.hid (HM2.out.keep HU2.out)
      have HRE3 := Lib.hid (HRE2.out.keep HU2.out)
      have HG3 := Lib.hid (grow_below HG2.out HU2.out)
      have HB3 := Lib.hid (HB2.out.trans (HU2.out.mono HB2.out.size))
      clear HX2 HM2 HRE2 HG2 HU0 HU1 HU2 HB2 KS7
      by_cases hcap : mc < x + s
      · have hd3 : decide (mc < x + s) = true := decide_eq_true hcap
        rw [hd3]
        have HEND : Hid (r = ((-1, 17), bs)) := by show r = _; rw [HPUT4.out, if_pos hcap]
        clear HPUT4 hcap
        go_wp2
        go_ret2
        exact gives_put HEND.out HM3.out HBS.out HG3.out
      · have hd3 : decide (mc < x + s) = false := decide_eq_false hcap
        rw [hd3]
        have hput5 := HPUT4.out
        rw [if_neg hcap] at hput5
        have HPUT5 := Lib.hid hput5
        clear hput5 HPUT4 hcap
        have KS9 : Hid (∀ W, Below w3.heap.size w3 W → (fun (W : World) => W.cell? ⟨X, 0, none⟩ = some (.int .i64 b0) ∧ W.cell? ⟨X, 1, none⟩ = some (.int .i64 b1) ∧ W.cell? ⟨X, 2, none⟩ = some (.int .i64 b2) ∧ W.cell? ⟨X, 3, none⟩ = some (.int .i64 b3) ∧ W.cell? ⟨X, 4, none⟩ = some (.bool b4) ∧ W.cell? ⟨X, 5, none⟩ = some (.int .i64 b5) ∧ W.cell? ⟨X, 6, none⟩ = some (.slice rd recs.length rc)) W) := by
          intro W hW
          have hX := HX3.out.on hW
          exact ⟨hX.c0, hX.c1, hX.c2, hX.c3, hX.c4, hX.c5, hX.c6⟩
        have hdrw : Below w3.heap.size w3 w3.drew := (Below.refl _ w3).drew
        have hwr : IntKind.i64.wrap (v + cnt) = v + cnt := IntWalk.i64_in _ (by omega)
        go_upto_region 9 with fail
        refine wp_region_noPanic ?_
        refine wp_region_z [] (fun (W : World) => W.cell? ⟨X, 0, none⟩ = some (.int .i64 b0) ∧ W.cell? ⟨X, 1, none⟩ = some (.int .i64 b1) ∧ W.cell? ⟨X, 2, none⟩ = some (.int .i64 b2) ∧ W.cell? ⟨X, 3, none⟩ = some (.int .i64 b3) ∧ W.cell? ⟨X, 4, none⟩ = some (.bool b4) ∧ W.cell? ⟨X, 5, none⟩ = some (.int .i64 b5) ∧ W.cell? ⟨X, 6, none⟩ = some (.slice rd recs.length rc)) (by kernel_rfl) ?_
        have hHeld : (fun (W : World) => W.cell? ⟨X, 0, none⟩ = some (.int .i64 b0) ∧ W.cell? ⟨X, 1, none⟩ = some (.int .i64 b1) ∧ W.cell? ⟨X, 2, none⟩ = some (.int .i64 b2) ∧ W.cell? ⟨X, 3, none⟩ = some (.int .i64 b3) ∧ W.cell? ⟨X, 4, none⟩ = some (.bool b4) ∧ W.cell? ⟨X, 5, none⟩ = some (.int .i64 b5) ∧ W.cell? ⟨X, 6, none⟩ = some (.slice rd recs.length rc)) _ := KS9.out _ hdrw
        obtain ⟨y0, hy0⟩ : ∃ u, u = w3.drew := ⟨_, rfl⟩
        rw [← hy0] at hHeld hdrw
        rw [← hy0]
        clear hy0
        have HY0 := Lib.hid hdrw
        clear hdrw
        refine wpAnyZ_take (i := 0) (oi := ⟨_, _, _, _, _, _⟩) (v := ?_) rfl (by kernel_rfl) (by kernel_rfl) (by kernel_rfl) (by kernel_rfl) (by kernel_rfl) (fun _ _ _ h => h) (Or.inl ⟨by rfl, ?_⟩) (by assumption) ?_
        rotate_left
        · intro W hSw
          (try dsimp only at hSw)
          go_simp
          (try with_reducible rfl)
        (try simp only [Act.put, List.setIfInBounds_toArray, List.set_cons_zero, List.set_cons_succ])
        refine wpAnyZ_take (i := 2) (oi := ⟨_, _, _, _, _, _⟩) (v := ?_) rfl (by kernel_rfl) (by kernel_rfl) (by kernel_rfl) (by kernel_rfl) (by kernel_rfl) (fun _ _ _ h => h) (Or.inl ⟨by rfl, ?_⟩) (by assumption) ?_
        rotate_left
        · intro W hSw
          (try dsimp only at hSw)
          go_simp
          (try with_reducible rfl)
        (try simp only [Act.put, List.setIfInBounds_toArray, List.set_cons_zero, List.set_cons_succ])
        refine wpAnyZ_ready (rs := [1]) (by kernel_rfl) (by simp) ?_
        refine AllReadyZ.cons (o := ⟨_, _, _, _, _, _⟩) rfl (fun C hC => ?_) AllReadyZ.nil
        go_simp
        refine (modEnd_any y0 km mc start ad len cap ms (HM3.out.box.on HY0.out) (HM3.out.bats.keep HY0.out) (by omega) (by rw [HBS.out]; exact HOK.out) v (by rw [HBS.out]; exact HV.out)).mono ?_
        rintro e y1 ⟨rfl, hbb⟩
        have HY1 := Lib.hid (HY0.out.trans (hbb.mono HY0.out.size))
        clear hbb
        go_wp2_with fail
        have hHeld : (fun (W : World) => W.cell? ⟨X, 0, none⟩ = some (.int .i64 b0) ∧ W.cell? ⟨X, 1, none⟩ = some (.int .i64 b1) ∧ W.cell? ⟨X, 2, none⟩ = some (.int .i64 b2) ∧ W.cell? ⟨X, 3, none⟩ = some (.int .i64 b3) ∧ W.cell? ⟨X, 4, none⟩ = some (.bool b4) ∧ W.cell? ⟨X, 5, none⟩ = some (.int .i64 b5) ∧ W.cell? ⟨X, 6, none⟩ = some (.slice rd recs.length rc)) y1 := KS9.out _ HY1.out
        refine hC.out _ _ (fun _ => hHeld) (fun _ => ?_)
        clear hC C
        (try simp only [Act.put, List.setIfInBounds_toArray, List.set_cons_zero, List.set_cons_succ])
        refine wpAnyZ_ready (rs := [3]) (by kernel_rfl) (by simp) ?_
        refine AllReadyZ.cons (o := ⟨_, _, _, _, _, _⟩) rfl (fun C hC => ?_) AllReadyZ.nil
        go_simp
        refine (refCount_any y1 b0 b1 b2 b3 b4 b5 rd recs.length rc cnt HCNT.out).mono ?_
        rintro e y2 ⟨rfl, hbb⟩
        have HY2 := Lib.hid (HY1.out.trans (hbb.mono HY1.out.size))
        clear hbb
        go_wp2_with fail
        have hHeld : (fun (W : World) => W.cell? ⟨X, 0, none⟩ = some (.int .i64 b0) ∧ W.cell? ⟨X, 1, none⟩ = some (.int .i64 b1) ∧ W.cell? ⟨X, 2, none⟩ = some (.int .i64 b2) ∧ W.cell? ⟨X, 3, none⟩ = some (.int .i64 b3) ∧ W.cell? ⟨X, 4, none⟩ = some (.bool b4) ∧ W.cell? ⟨X, 5, none⟩ = some (.int .i64 b5) ∧ W.cell? ⟨X, 6, none⟩ = some (.slice rd recs.length rc)) y2 := KS9.out _ HY2.out
        refine hC.out _ _ (fun _ => hHeld) (fun _ => ?_)
        clear hC C
        (try simp only [Act.put, List.setIfInBounds_toArray, List.set_cons_zero, List.set_cons_succ])
        refine wpAnyZ_take (i := 4) (oi := ⟨_, _, _, _, _, _⟩) (v := ?_) rfl (by kernel_rfl) (by kernel_rfl) (by kernel_rfl) (by kernel_rfl) (by kernel_rfl) (fun _ _ _ h => h) (Or.inl ⟨by rfl, ?_⟩) (by assumption) ?_
        rotate_left
        · intro W hSw
          (try dsimp only at hSw)
          go_simp
          (try with_reducible rfl)
        (try simp only [Act.put, List.setIfInBounds_toArray, List.set_cons_zero, List.set_cons_succ])
        refine wpAnyZ_take (i := 5) (oi := ⟨_, _, _, _, _, _⟩) (v := ?_) rfl (by kernel_rfl) (by kernel_rfl) (by kernel_rfl) (by kernel_rfl) (by kernel_rfl) (fun _ _ _ h => h) (Or.inl ⟨by rfl, ?_⟩) (by assumption) ?_
        rotate_left
        · intro W hSw
          (try dsimp only at hSw)
          go_simp
          (try with_reducible rfl)
        (try simp only [Act.put, List.setIfInBounds_toArray, List.set_cons_zero, List.set_cons_succ])
        refine wpAnyZ_done (by kernel_rfl) ?_ _
        refine NoPanic.normal ?_
        clear hHeld hwr
        obtain ⟨w4, hw4⟩ : ∃ w4, w4 = y2 := ⟨_, rfl⟩
        subst hw4
        have HX4 := Lib.hid (HX3.out.on HY2.out)
        have HM4 := Lib.hid (HM3.out.keep HY2.out)
        have HRE4 := Lib.hid (HRE3.out.keep HY2.out)
        have HG4 := Lib.hid (grow_below HG3.out HY2.out)
        have HB4 := Lib.hid (HB3.out.trans (HY2.out.mono HB3.out.size))
        clear HX3 HM3 HRE3 HG3 HY0 HY1 HY2 HB3 KS9
        by_cases hof : 1099511627776 < v + cnt
        · have hd4 : decide (1099511627776 < v + cnt) = true := decide_eq_true hof
          rw [hd4]
          have HEND : Hid (r = ((-1, 18), bs)) := by show r = _; rw [HPUT5.out, if_pos hof]
          clear HPUT5 hof
          go_wp2
          go_ret2
          exact gives_put HEND.out HM4.out HBS.out HG4.out
        · have hd4 : decide (1099511627776 < v + cnt) = false := decide_eq_false hof
          rw [hd4]
          have HEND : Hid (r = ((b0, 0), bs ++ [⟨b0, b1, b2, b3, b4, b5, recs⟩])) := by show r = _; rw [HPUT5.out, if_neg hof]
          clear HPUT5 hof
          have HVE : Hid (OwnRow recK (w4.alloc (.cells #[] 153)) w4.heap.size (.slice (some ⟨w4.heap.size, 0, none⟩) 0 0) []) := ownRow_lit recK_ok w4 _ [] (Nat.le_refl _) (by simp) _ rfl 0 rfl
          have HBE : Hid (Below w4.heap.size w4 (w4.alloc (.cells #[] 153))) := (Below.refl _ _).alloc (Nat.le_refl _) _
          have HRE5 := Lib.hid (recsAt_row.1 (HRE4.out.keep HBE.out))
          have p6 := (HX4.out.on HBE.out).c6
          go_wp2_with (at_builtin; refine list_row (by rfl) recK_ok (.tmp 46) (.tmp 48) rfl w4.heap.size [] recs _ rfl HVE.out HBE.out.size rd recs.length rc rfl HRE5.out (by rw [List.length_nil]; omega) ?_)
          intro v5 w5 hap
          obtain ⟨xd, xc, hv5, hxr, hxk⟩ := OwnRow.row recK_ok (l := recs) (n := recs.length) hap.1 rfl
          subst hv5
          have HB5 : Hid (Below w4.heap.size w4 w5) := HBE.out.grown hap.2.1 HBE.out.size fun q hq => (HVE.out.lt q hq).1
          have HX5 := Lib.hid (HX4.out.on HB5.out)
          have HM5 := Lib.hid (HM4.out.keep HB5.out)
          have HG5 := Lib.hid (grow_below HG4.out HB5.out)
          have HXR5 := Lib.hid hxr
          have HXK5 : Hid (∀ a, xd = some a → w.heap.size < a.block ∧ a.block < w5.heap.size) := fun a ha => by
            have h1 := hxk a ha
            have h2 := HX4.out.lt
            exact ⟨by omega, h1.2⟩
          clear hap hxr hxk HVE HBE HRE5 p6 HX4 HM4 HRE4 HG4
          have p6 := HX5.out.c6
          have f6 := HX5.out.free 6
          go_upto_region 12 with fail
          obtain ⟨W6, hW6⟩ : ∃ W6, W6 = w5.setCell ⟨X, 6, none⟩ (.slice xd recs.length xc) := ⟨_, rfl⟩
          have HX6 : Hid (BoxAt W6 X b0 b1 b2 b3 b4 b5 (.slice xd recs.length xc)) := by show BoxAt _ _ _ _ _ _ _ _ _; rw [hW6]; exact HX5.out.s6 _
          have HM6 : Hid (MOk W6 km mc start ad len cap ms) := by
            show MOk _ _ _ _ _ _ _ _
            rw [hW6]
            exact HM5.out.grown (grow_one w5 X 6 _) hXk.symm (fun a ha e => by have := HOW.out a ha; omega) (fun m hm a ha e => by have := HOI.out m hm a ha; omega)
          have HG6 : Hid (w.grownBy W6 (some km)) := by show World.grownBy _ _ _; rw [hW6]; exact grow_new HG5.out hXw _
          have HXR6 : Hid (RecsAt W6 xd recs.length xc recs) := by show RecsAt _ _ _ _ _; rw [hW6]; exact recsAt_row.2 (HXR5.out.off (fun a ha => by have := (HXK5.out a ha).1; have := HXE.out; omega) _ _)
          have HXK6 : Hid (∀ a, xd = some a → km < a.block ∧ a.block < W6.heap.size) := fun a ha => ⟨by have := (HXK5.out a ha).1; omega, by rw [hW6, size_set]; exact (HXK5.out a ha).2⟩
          rw [← hW6]
          clear hW6 HX5 HM5 HG5 HXR5 HXK5 p6 f6
          obtain ⟨mx, hmx⟩ : ∃ mx : BM, mx = ⟨⟨b0, b1, b2, b3, b4, b5, recs⟩, xd, xc⟩ := ⟨_, rfl⟩
          have HMX := Lib.hid hmx
          clear hmx
          have hml : ms.length = len := HM6.out.bats.row.length
          have hfits := HM6.out.bats.row.fits
          have KS : Hid (∀ W, Below W6.heap.size W6 W → (fun (W : World) => W.cell? ⟨km, 2, none⟩ = some (.slice ad len cap) ∧ W.cell? ⟨X, 0, none⟩ = some (.int .i64 b0) ∧ W.cell? ⟨X, 1, none⟩ = some (.int .i64 b1) ∧ W.cell? ⟨X, 2, none⟩ = some (.int .i64 b2) ∧ W.cell? ⟨X, 3, none⟩ = some (.int .i64 b3) ∧ W.cell? ⟨X, 4, none⟩ = some (.bool b4) ∧ W.cell? ⟨X, 5, none⟩ = some (.int .i64 b5) ∧ W.cell? ⟨X, 6, none⟩ = some (.slice xd recs.length xc)) W) := by
            intro W hW
            have hX := HX6.out.on hW
            exact ⟨(HM6.out.box.on hW).c2, hX.c0, hX.c1, hX.c2, hX.c3, hX.c4, hX.c5, hX.c6⟩
          have hdrw : Below W6.heap.size W6 W6.drew := (Below.refl _ W6).drew
          refine wp_region_noPanic ?_
          refine wp_region_z [12] (fun (W : World) => W.cell? ⟨km, 2, none⟩ = some (.slice ad len cap) ∧ W.cell? ⟨X, 0, none⟩ = some (.int .i64 b0) ∧ W.cell? ⟨X, 1, none⟩ = some (.int .i64 b1) ∧ W.cell? ⟨X, 2, none⟩ = some (.int .i64 b2) ∧ W.cell? ⟨X, 3, none⟩ = some (.int .i64 b3) ∧ W.cell? ⟨X, 4, none⟩ = some (.bool b4) ∧ W.cell? ⟨X, 5, none⟩ = some (.int .i64 b5) ∧ W.cell? ⟨X, 6, none⟩ = some (.slice xd recs.length xc)) (by kernel_rfl) ?_
          have hHeld : (fun (W : World) => W.cell? ⟨km, 2, none⟩ = some (.slice ad len cap) ∧ W.cell? ⟨X, 0, none⟩ = some (.int .i64 b0) ∧ W.cell? ⟨X, 1, none⟩ = some (.int .i64 b1) ∧ W.cell? ⟨X, 2, none⟩ = some (.int .i64 b2) ∧ W.cell? ⟨X, 3, none⟩ = some (.int .i64 b3) ∧ W.cell? ⟨X, 4, none⟩ = some (.bool b4) ∧ W.cell? ⟨X, 5, none⟩ = some (.int .i64 b5) ∧ W.cell? ⟨X, 6, none⟩ = some (.slice xd recs.length xc)) _ := KS.out _ hdrw
          obtain ⟨u0, hu0⟩ : ∃ u, u = W6.drew := ⟨_, rfl⟩
          rw [← hu0] at hHeld hdrw
          rw [← hu0]
          clear hu0
          have HBu0 := Lib.hid hdrw
          clear hdrw
          refine wpAnyZ_take (i := 0) (oi := ⟨_, _, _, _, _, _⟩) (v := ?_) rfl (by kernel_rfl) (by kernel_rfl) (by kernel_rfl) (by kernel_rfl) (by kernel_rfl) (fun _ _ _ h => h) (Or.inl ⟨by rfl, ?_⟩) (by assumption) ?_
          rotate_left
          · intro W hSw
            (try dsimp only at hSw)
            go_simp
            (try with_reducible rfl)
          (try simp only [Act.put, List.setIfInBounds_toArray, List.set_cons_zero, List.set_cons_succ])
          refine wpAnyZ_take (i := 2) (oi := ⟨_, _, _, _, _, _⟩) (v := ?_) rfl (by kernel_rfl) (by kernel_rfl) (by kernel_rfl) (by kernel_rfl) (by kernel_rfl) (fun _ _ _ h => h) (Or.inl ⟨by rfl, ?_⟩) (by assumption) ?_
          rotate_left
          · intro W hSw
            (try dsimp only at hSw)
            go_simp
            (try with_reducible rfl)
          (try simp only [Act.put, List.setIfInBounds_toArray, List.set_cons_zero, List.set_cons_succ])
          refine wpAnyZ_take (i := 3) (oi := ⟨_, _, _, _, _, _⟩) (v := ?_) rfl (by kernel_rfl) (by kernel_rfl) (by kernel_rfl) (by kernel_rfl) (by kernel_rfl) (fun _ _ _ h => h) (Or.inl ⟨by rfl, ?_⟩) (by assumption) ?_
          rotate_left
          · intro W hSw
            (try dsimp only at hSw)
            go_simp
            (try with_reducible rfl)
          (try simp only [Act.put, List.setIfInBounds_toArray, List.set_cons_zero, List.set_cons_succ])
          refine wpAnyZ_take (i := 4) (oi := ⟨_, _, _, _, _, _⟩) (v := ?_) rfl (by kernel_rfl) (by kernel_rfl) (by kernel_rfl) (by kernel_rfl) (by kernel_rfl) (fun _ _ _ h => h) (Or.inl ⟨by rfl, ?_⟩) (by assumption) ?_
          rotate_left
          · intro W hSw
            (try dsimp only at hSw)
            go_simp
            (try with_reducible rfl)
          (try simp only [Act.put, List.setIfInBounds_toArray, List.set_cons_zero, List.set_cons_succ])
          refine wpAnyZ_take (i := 5) (oi := ⟨_, _, _, _, _, _⟩) (v := ?_) rfl (by kernel_rfl) (by kernel_rfl) (by kernel_rfl) (by kernel_rfl) (by kernel_rfl) (fun _ _ _ h => h) (Or.inl ⟨by rfl, ?_⟩) (by assumption) ?_
          rotate_left
          · intro W hSw
            (try dsimp only at hSw)
            go_simp
            (try with_reducible rfl)
          (try simp only [Act.put, List.setIfInBounds_toArray, List.set_cons_zero, List.set_cons_succ])
          refine wpAnyZ_take (i := 7) (oi := ⟨_, _, _, _, _, _⟩) (v := ?_) rfl (by kernel_rfl) (by kernel_rfl) (by kernel_rfl) (by kernel_rfl) (by kernel_rfl) (fun _ _ _ h => h) (Or.inl ⟨by rfl, ?_⟩) (by assumption) ?_
          rotate_left
          · intro W hSw
            (try dsimp only at hSw)
            go_simp
            (try with_reducible rfl)
          (try simp only [Act.put, List.setIfInBounds_toArray, List.set_cons_zero, List.set_cons_succ])
          refine wpAnyZ_ready (rs := [1, 8]) (by kernel_rfl) (by simp) ?_
          refine AllReadyZ.cons (o := ⟨_, _, _, _, _, _⟩) rfl (fun C hC => ?_) (AllReadyZ.cons (o := ⟨_, _, _, _, _, _⟩) rfl (fun C hC => ?_) AllReadyZ.nil)
          · skip
            go_simp
            obtain ⟨u1, hu1⟩ : ∃ u, u = u0.alloc (.cells #[] 56) := ⟨_, rfl⟩
            have hbb : Below u0.heap.size u0 u1 := by rw [hu1]; exact (Below.refl _ _).alloc (Nat.le_refl _) _
            have HBu1 := Lib.hid (HBu0.out.trans (hbb.mono HBu0.out.size))
            obtain ⟨gu1, hgu1⟩ : ∃ G, G = u0.heap.size := ⟨_, rfl⟩
            have HOu1 : Hid (OwnRow batK u1 W6.heap.size (.slice (some ⟨gu1, 0, none⟩) 0 0) []) := by show OwnRow _ _ _ _ _; rw [hu1, hgu1]; exact ownRow_lit batK_ok u0 _ [] HBu0.out.size (by simp) _ rfl 0 rfl
            rw [← hu1, ← hgu1]
            clear hu1 hgu1 hbb
            have hHeld : (fun (W : World) => W.cell? ⟨km, 2, none⟩ = some (.slice ad len cap) ∧ W.cell? ⟨X, 0, none⟩ = some (.int .i64 b0) ∧ W.cell? ⟨X, 1, none⟩ = some (.int .i64 b1) ∧ W.cell? ⟨X, 2, none⟩ = some (.int .i64 b2) ∧ W.cell? ⟨X, 3, none⟩ = some (.int .i64 b3) ∧ W.cell? ⟨X, 4, none⟩ = some (.bool b4) ∧ W.cell? ⟨X, 5, none⟩ = some (.int .i64 b5) ∧ W.cell? ⟨X, 6, none⟩ = some (.slice xd recs.length xc)) u1 := KS.out _ HBu1.out
            refine hC.out _ _ (fun _ => hHeld) (fun _ => ?_)
            clear hC C
            (try simp only [Act.put, List.setIfInBounds_toArray, List.set_cons_zero, List.set_cons_succ])
            refine wpAnyZ_ready (rs := [6, 8]) (by kernel_rfl) (by simp) ?_
            refine AllReadyZ.cons (o := ⟨_, _, _, _, _, _⟩) rfl (fun C hC => ?_) (AllReadyZ.cons (o := ⟨_, _, _, _, _, _⟩) rfl (fun C hC => ?_) AllReadyZ.nil)
            · skip
              refine held_row (by rfl) batK_ok (.tmp 52) (.tmp 56) rfl W6.heap.size [] ms _ rfl HOu1.out HBu1.out.size ad len cap rfl (HM6.out.bats.row.keep HBu1.out) (by rw [List.length_nil]; omega) ?_
              rintro vu2 u2 hap
              have HBu2 : Hid (Below W6.heap.size W6 u2) := HBu1.out.grown hap.2.1 HBu1.out.size fun q hq => (HOu1.out.lt q hq).1
              have HOu2 : Hid (OwnRow batK u2 W6.heap.size vu2 ms) := hap.1
              clear hap
              have hHeld : (fun (W : World) => W.cell? ⟨km, 2, none⟩ = some (.slice ad len cap) ∧ W.cell? ⟨X, 0, none⟩ = some (.int .i64 b0) ∧ W.cell? ⟨X, 1, none⟩ = some (.int .i64 b1) ∧ W.cell? ⟨X, 2, none⟩ = some (.int .i64 b2) ∧ W.cell? ⟨X, 3, none⟩ = some (.int .i64 b3) ∧ W.cell? ⟨X, 4, none⟩ = some (.bool b4) ∧ W.cell? ⟨X, 5, none⟩ = some (.int .i64 b5) ∧ W.cell? ⟨X, 6, none⟩ = some (.slice xd recs.length xc)) u2 := KS.out _ HBu2.out
              refine hC.out _ _ (fun _ => hHeld) (fun _ => ?_)
              clear hC C
              (try simp only [Act.put, List.setIfInBounds_toArray, List.set_cons_zero, List.set_cons_succ])
              refine wpAnyZ_ready (rs := [8]) (by kernel_rfl) (by simp) ?_
              refine AllReadyZ.cons (o := ⟨_, _, _, _, _, _⟩) rfl (fun C hC => ?_) AllReadyZ.nil
              go_simp
              obtain ⟨u3, hu3⟩ : ∃ u, u = u2.alloc (.cells #[.int .i64 b0, .int .i64 b1, .int .i64 b2, .int .i64 b3, .bool b4, .int .i64 b5, .slice xd recs.length xc] 56) := ⟨_, rfl⟩
              have hbb : Below u2.heap.size u2 u3 := by rw [hu3]; exact (Below.refl _ _).alloc (Nat.le_refl _) _
              have HBu3 := Lib.hid (HBu2.out.trans (hbb.mono HBu2.out.size))
              obtain ⟨gx, hgx⟩ : ∃ G, G = u2.heap.size := ⟨_, rfl⟩
              have HXu3 : Hid (RowAt batK u3 (some ⟨gx, 0, none⟩) 1 1 [mx]) := by show RowAt _ _ _ _ _ _; rw [hu3, hgx, HMX.out]; exact rowAt_lit batK_ok u2 [⟨⟨b0, b1, b2, b3, b4, b5, recs⟩, xd, xc⟩] (by simp) _ rfl 1 rfl
              have HOu3 := Lib.hid (HOu2.out.on hbb)
              have HNEu3 : ∀ a, (some (⟨gx, 0, none⟩ : Addr)) = some a → some a.block ≠ (vu2 : Value).ownBlock := by
                intro a ha e
                cases ha
                have h1 : gx < u2.heap.size := (HOu2.out.lt _ e.symm).2
                omega
              rw [← hu3, ← hgx]
              clear hu3 hgx hbb
              have hHeld : (fun (W : World) => W.cell? ⟨km, 2, none⟩ = some (.slice ad len cap) ∧ W.cell? ⟨X, 0, none⟩ = some (.int .i64 b0) ∧ W.cell? ⟨X, 1, none⟩ = some (.int .i64 b1) ∧ W.cell? ⟨X, 2, none⟩ = some (.int .i64 b2) ∧ W.cell? ⟨X, 3, none⟩ = some (.int .i64 b3) ∧ W.cell? ⟨X, 4, none⟩ = some (.bool b4) ∧ W.cell? ⟨X, 5, none⟩ = some (.int .i64 b5) ∧ W.cell? ⟨X, 6, none⟩ = some (.slice xd recs.length xc)) u3 := KS.out _ HBu3.out
              refine hC.out _ _ (fun _ => hHeld) (fun _ => ?_)
              clear hC C
              (try simp only [Act.put, List.setIfInBounds_toArray, List.set_cons_zero, List.set_cons_succ])
              refine wpAnyZ_ready (rs := [9]) (by kernel_rfl) (by simp) ?_
              refine AllReadyZ.cons (o := ⟨_, _, _, _, _, _⟩) rfl (fun C hC => ?_) AllReadyZ.nil
              refine held_row (by rfl) batK_ok (.tmp 57) (.tmp 59) rfl W6.heap.size ms [mx] _ rfl HOu3.out HBu3.out.size (some ⟨gx, 0, none⟩) 1 1 rfl HXu3.out (by omega) ?_
              rintro vu4 u4 hap
              have HBu4 : Hid (Below W6.heap.size W6 u4) := HBu3.out.grown hap.2.1 HBu3.out.size fun q hq => (HOu3.out.lt q hq).1
              have HOu4 : Hid (OwnRow batK u4 W6.heap.size vu4 (ms ++ [mx])) := hap.1
              clear hap
              have hHeld : (fun (W : World) => W.cell? ⟨km, 2, none⟩ = some (.slice ad len cap) ∧ W.cell? ⟨X, 0, none⟩ = some (.int .i64 b0) ∧ W.cell? ⟨X, 1, none⟩ = some (.int .i64 b1) ∧ W.cell? ⟨X, 2, none⟩ = some (.int .i64 b2) ∧ W.cell? ⟨X, 3, none⟩ = some (.int .i64 b3) ∧ W.cell? ⟨X, 4, none⟩ = some (.bool b4) ∧ W.cell? ⟨X, 5, none⟩ = some (.int .i64 b5) ∧ W.cell? ⟨X, 6, none⟩ = some (.slice xd recs.length xc)) u4 := KS.out _ HBu4.out
              refine hC.out _ _ (fun _ => hHeld) (fun _ => ?_)
              clear hC C
              (try simp only [Act.put, List.setIfInBounds_toArray, List.set_cons_zero, List.set_cons_succ])
              refine wpAnyZ_take (i := 10) (oi := ⟨_, _, _, _, _, _⟩) (v := ?_) rfl (by kernel_rfl) (by kernel_rfl) (by kernel_rfl) (by kernel_rfl) (by kernel_rfl) (fun _ _ _ h => h) (Or.inl ⟨by rfl, ?_⟩) (by assumption) ?_
              rotate_left
              · intro W hSw
                (try dsimp only at hSw)
                go_simp
                (try with_reducible rfl)
              (try simp only [Act.put, List.setIfInBounds_toArray, List.set_cons_zero, List.set_cons_succ])
              refine wpAnyZ_take (i := 11) (oi := ⟨_, _, _, _, _, _⟩) (v := ?_) rfl (by kernel_rfl) (by kernel_rfl) (by kernel_rfl) (by kernel_rfl) (by kernel_rfl) (fun _ _ _ h => h) (Or.inl ⟨by rfl, ?_⟩) (by assumption) ?_
              rotate_left
              · intro W hSw
                (try dsimp only at hSw)
                go_simp
                (try with_reducible rfl)
              (try simp only [Act.put, List.setIfInBounds_toArray, List.set_cons_zero, List.set_cons_succ])
              obtain ⟨g, capz, cur, hvz, hblk, hbg, hcs⟩ := OwnRow.block (n := len + 1) HOu4.out (by rw [List.length_append]; simp; omega) (by omega)
              subst hvz
              have t0 := (HM6.out.box.on HBu4.out).c2
              have t1 := (HM6.out.box.on HBu4.out).free 2
              refine wpAnyZ_ready (rs := [12]) (by kernel_rfl) (by simp) ?_
              refine AllReadyZ.cons (o := ⟨_, _, _, _, _, _⟩) rfl (fun C hC => ?_) AllReadyZ.nil
              go_simp
              refine hC.out _ _ (zfree_no (by kernel_rfl)) (fun _ => ?_)
              clear hC C
              (try simp only [Act.put, List.setIfInBounds_toArray, List.set_cons_zero, List.set_cons_succ])
              refine wpAnyZ_done (by kernel_rfl) ?_ _
              refine NoPanic.normal ?_
              obtain ⟨wz, hwz⟩ : ∃ wz, wz = u4.setCell ⟨km, 2, none⟩ (.slice (some ⟨g, 0, none⟩) (len + 1) capz) := ⟨_, rfl⟩
              have hkm6 := HM6.out.box.lt
              have HGz : Hid (W6.grownBy wz (some km)) := by show World.grownBy _ _ _; rw [hwz]; exact grow_set (grow_below (grow_refl W6 _) HBu4.out) 2 _
              have HOz : Hid (OwnRow batK wz W6.heap.size (.slice (some ⟨g, 0, none⟩) (len + 1) capz) (ms ++ [mx])) := by show OwnRow _ _ _ _ _; rw [hwz]; exact HOu4.out.off hkm6 _ _
              have HTBz : Hid (MBox wz km mc start (.slice (some ⟨g, 0, none⟩) (len + 1) capz)) := by show MBox _ _ _ _ _; rw [hwz]; exact (HM6.out.box.on HBu4.out).s2 _
              have p0 := (HX6.out.grown2 HGz.out hXk).c0
              try rw [← hwz]
              clear hwz t0 t1 hHeld
              go_wp2
              go_ret2
              obtain ⟨ad9, cap9, hv9, hr9, hk9⟩ := OwnRow.row batK_ok HOz.out (n := len + 1) (by rw [List.length_append]; simp; omega)
              cases hv9
              exact gives_put HEND.out (put_ok HM6.out HGz.out HTBz.out hr9 hk9 (by rw [HMX.out]; exact HXR6.out) (by rw [HMX.out]; exact HXK6.out)) (by unfold bats; rw [List.map_append]; show bats ms ++ [mx.b] = _; rw [HBS.out, HMX.out]) (grow_trans HG6.out HGz.out)
            · skip
              go_simp
              obtain ⟨u5, hu5⟩ : ∃ u, u = u1.alloc (.cells #[.int .i64 b0, .int .i64 b1, .int .i64 b2, .int .i64 b3, .bool b4, .int .i64 b5, .slice xd recs.length xc] 56) := ⟨_, rfl⟩
              have hbb : Below u1.heap.size u1 u5 := by rw [hu5]; exact (Below.refl _ _).alloc (Nat.le_refl _) _
              have HBu5 := Lib.hid (HBu1.out.trans (hbb.mono HBu1.out.size))
              obtain ⟨gx, hgx⟩ : ∃ G, G = u1.heap.size := ⟨_, rfl⟩
              have HXu5 : Hid (RowAt batK u5 (some ⟨gx, 0, none⟩) 1 1 [mx]) := by show RowAt _ _ _ _ _ _; rw [hu5, hgx, HMX.out]; exact rowAt_lit batK_ok u1 [⟨⟨b0, b1, b2, b3, b4, b5, recs⟩, xd, xc⟩] (by simp) _ rfl 1 rfl
              have HOu5 := Lib.hid (HOu1.out.on hbb)
              have HNEu5 : ∀ a, (some (⟨gx, 0, none⟩ : Addr)) = some a → some a.block ≠ (.slice (some ⟨gu1, 0, none⟩) 0 0 : Value).ownBlock := by
                intro a ha e
                cases ha
                have h1 : gx < u1.heap.size := (HOu1.out.lt _ e.symm).2
                omega
              rw [← hu5, ← hgx]
              clear hu5 hgx hbb
              have hHeld : (fun (W : World) => W.cell? ⟨km, 2, none⟩ = some (.slice ad len cap) ∧ W.cell? ⟨X, 0, none⟩ = some (.int .i64 b0) ∧ W.cell? ⟨X, 1, none⟩ = some (.int .i64 b1) ∧ W.cell? ⟨X, 2, none⟩ = some (.int .i64 b2) ∧ W.cell? ⟨X, 3, none⟩ = some (.int .i64 b3) ∧ W.cell? ⟨X, 4, none⟩ = some (.bool b4) ∧ W.cell? ⟨X, 5, none⟩ = some (.int .i64 b5) ∧ W.cell? ⟨X, 6, none⟩ = some (.slice xd recs.length xc)) u5 := KS.out _ HBu5.out
              refine hC.out _ _ (fun _ => hHeld) (fun _ => ?_)
              clear hC C
              (try simp only [Act.put, List.setIfInBounds_toArray, List.set_cons_zero, List.set_cons_succ])
              refine wpAnyZ_ready (rs := [6]) (by kernel_rfl) (by simp) ?_
              refine AllReadyZ.cons (o := ⟨_, _, _, _, _, _⟩) rfl (fun C hC => ?_) AllReadyZ.nil
              refine held_row (by rfl) batK_ok (.tmp 52) (.tmp 56) rfl W6.heap.size [] ms _ rfl HOu5.out HBu5.out.size ad len cap rfl (HM6.out.bats.row.keep HBu5.out) (by rw [List.length_nil]; omega) ?_
              rintro vu6 u6 hap
              have HBu6 : Hid (Below W6.heap.size W6 u6) := HBu5.out.grown hap.2.1 HBu5.out.size fun q hq => (HOu5.out.lt q hq).1
              have HOu6 : Hid (OwnRow batK u6 W6.heap.size vu6 ms) := hap.1
              have HXu6 := Lib.hid (HXu5.out.grown hap.2.1 HNEu5)
              clear hap
              have hHeld : (fun (W : World) => W.cell? ⟨km, 2, none⟩ = some (.slice ad len cap) ∧ W.cell? ⟨X, 0, none⟩ = some (.int .i64 b0) ∧ W.cell? ⟨X, 1, none⟩ = some (.int .i64 b1) ∧ W.cell? ⟨X, 2, none⟩ = some (.int .i64 b2) ∧ W.cell? ⟨X, 3, none⟩ = some (.int .i64 b3) ∧ W.cell? ⟨X, 4, none⟩ = some (.bool b4) ∧ W.cell? ⟨X, 5, none⟩ = some (.int .i64 b5) ∧ W.cell? ⟨X, 6, none⟩ = some (.slice xd recs.length xc)) u6 := KS.out _ HBu6.out
              refine hC.out _ _ (fun _ => hHeld) (fun _ => ?_)
              clear hC C
              (try simp only [Act.put, List.setIfInBounds_toArray, List.set_cons_zero, List.set_cons_succ])
              refine wpAnyZ_ready (rs := [9]) (by kernel_rfl) (by simp) ?_
              refine AllReadyZ.cons (o := ⟨_, _, _, _, _, _⟩) rfl (fun C hC => ?_) AllReadyZ.nil
              refine held_row (by rfl) batK_ok (.tmp 57) (.tmp 59) rfl W6.heap.size ms [mx] _ rfl HOu6.out HBu6.out.size (some ⟨gx, 0, none⟩) 1 1 rfl HXu6.out (by omega) ?_
              rintro vu7 u7 hap
              have HBu7 : Hid (Below W6.heap.size W6 u7) := HBu6.out.grown hap.2.1 HBu6.out.size fun q hq => (HOu6.out.lt q hq).1
              have HOu7 : Hid (OwnRow batK u7 W6.heap.size vu7 (ms ++ [mx])) := hap.1
              clear hap
              have hHeld : (fun (W : World) => W.cell? ⟨km, 2, none⟩ = some (.slice ad len cap) ∧ W.cell? ⟨X, 0, none⟩ = some (.int .i64 b0) ∧ W.cell? ⟨X, 1, none⟩ = some (.int .i64 b1) ∧ W.cell? ⟨X, 2, none⟩ = some (.int .i64 b2) ∧ W.cell? ⟨X, 3, none⟩ = some (.int .i64 b3) ∧ W.cell? ⟨X, 4, none⟩ = some (.bool b4) ∧ W.cell? ⟨X, 5, none⟩ = some (.int .i64 b5) ∧ W.cell? ⟨X, 6, none⟩ = some (.slice xd recs.length xc)) u7 := KS.out _ HBu7.out
              refine hC.out _ _ (fun _ => hHeld) (fun _ => ?_)
              clear hC C
              (try simp only [Act.put, List.setIfInBounds_toArray, List.set_cons_zero, List.set_cons_succ])
              refine wpAnyZ_take (i := 10) (oi := ⟨_, _, _, _, _, _⟩) (v := ?_) rfl (by kernel_rfl) (by kernel_rfl) (by kernel_rfl) (by kernel_rfl) (by kernel_rfl) (fun _ _ _ h => h) (Or.inl ⟨by rfl, ?_⟩) (by assumption) ?_
              rotate_left
              · intro W hSw
                (try dsimp only at hSw)
                go_simp
                (try with_reducible rfl)
              (try simp only [Act.put, List.setIfInBounds_toArray, List.set_cons_zero, List.set_cons_succ])
              refine wpAnyZ_take (i := 11) (oi := ⟨_, _, _, _, _, _⟩) (v := ?_) rfl (by kernel_rfl) (by kernel_rfl) (by kernel_rfl) (by kernel_rfl) (by kernel_rfl) (fun _ _ _ h => h) (Or.inl ⟨by rfl, ?_⟩) (by assumption) ?_
              rotate_left
              · intro W hSw
                (try dsimp only at hSw)
                go_simp
                (try with_reducible rfl)
              (try simp only [Act.put, List.setIfInBounds_toArray, List.set_cons_zero, List.set_cons_succ])
              obtain ⟨g, capz, cur, hvz, hblk, hbg, hcs⟩ := OwnRow.block (n := len + 1) HOu7.out (by rw [List.length_append]; simp; omega) (by omega)
              subst hvz
              have t0 := (HM6.out.box.on HBu7.out).c2
              have t1 := (HM6.out.box.on HBu7.out).free 2
              refine wpAnyZ_ready (rs := [12]) (by kernel_rfl) (by simp) ?_
              refine AllReadyZ.cons (o := ⟨_, _, _, _, _, _⟩) rfl (fun C hC => ?_) AllReadyZ.nil
              go_simp
              refine hC.out _ _ (zfree_no (by kernel_rfl)) (fun _ => ?_)
              clear hC C
              (try simp only [Act.put, List.setIfInBounds_toArray, List.set_cons_zero, List.set_cons_succ])
              refine wpAnyZ_done (by kernel_rfl) ?_ _
              refine NoPanic.normal ?_
              obtain ⟨wz, hwz⟩ : ∃ wz, wz = u7.setCell ⟨km, 2, none⟩ (.slice (some ⟨g, 0, none⟩) (len + 1) capz) := ⟨_, rfl⟩
              have hkm6 := HM6.out.box.lt
              have HGz : Hid (W6.grownBy wz (some km)) := by show World.grownBy _ _ _; rw [hwz]; exact grow_set (grow_below (grow_refl W6 _) HBu7.out) 2 _
              have HOz : Hid (OwnRow batK wz W6.heap.size (.slice (some ⟨g, 0, none⟩) (len + 1) capz) (ms ++ [mx])) := by show OwnRow _ _ _ _ _; rw [hwz]; exact HOu7.out.off hkm6 _ _
              have HTBz : Hid (MBox wz km mc start (.slice (some ⟨g, 0, none⟩) (len + 1) capz)) := by show MBox _ _ _ _ _; rw [hwz]; exact (HM6.out.box.on HBu7.out).s2 _
              have p0 := (HX6.out.grown2 HGz.out hXk).c0
              try rw [← hwz]
              clear hwz t0 t1 hHeld
              go_wp2
              go_ret2
              obtain ⟨ad9, cap9, hv9, hr9, hk9⟩ := OwnRow.row batK_ok HOz.out (n := len + 1) (by rw [List.length_append]; simp; omega)
              cases hv9
              exact gives_put HEND.out (put_ok HM6.out HGz.out HTBz.out hr9 hk9 (by rw [HMX.out]; exact HXR6.out) (by rw [HMX.out]; exact HXK6.out)) (by unfold bats; rw [List.map_append]; show bats ms ++ [mx.b] = _; rw [HBS.out, HMX.out]) (grow_trans HG6.out HGz.out)
          · skip
            go_simp
            obtain ⟨u8, hu8⟩ : ∃ u, u = u0.alloc (.cells #[.int .i64 b0, .int .i64 b1, .int .i64 b2, .int .i64 b3, .bool b4, .int .i64 b5, .slice xd recs.length xc] 56) := ⟨_, rfl⟩
            have hbb : Below u0.heap.size u0 u8 := by rw [hu8]; exact (Below.refl _ _).alloc (Nat.le_refl _) _
            have HBu8 := Lib.hid (HBu0.out.trans (hbb.mono HBu0.out.size))
            obtain ⟨gx, hgx⟩ : ∃ G, G = u0.heap.size := ⟨_, rfl⟩
            have HXu8 : Hid (RowAt batK u8 (some ⟨gx, 0, none⟩) 1 1 [mx]) := by show RowAt _ _ _ _ _ _; rw [hu8, hgx, HMX.out]; exact rowAt_lit batK_ok u0 [⟨⟨b0, b1, b2, b3, b4, b5, recs⟩, xd, xc⟩] (by simp) _ rfl 1 rfl
            rw [← hu8, ← hgx]
            clear hu8 hgx hbb
            have hHeld : (fun (W : World) => W.cell? ⟨km, 2, none⟩ = some (.slice ad len cap) ∧ W.cell? ⟨X, 0, none⟩ = some (.int .i64 b0) ∧ W.cell? ⟨X, 1, none⟩ = some (.int .i64 b1) ∧ W.cell? ⟨X, 2, none⟩ = some (.int .i64 b2) ∧ W.cell? ⟨X, 3, none⟩ = some (.int .i64 b3) ∧ W.cell? ⟨X, 4, none⟩ = some (.bool b4) ∧ W.cell? ⟨X, 5, none⟩ = some (.int .i64 b5) ∧ W.cell? ⟨X, 6, none⟩ = some (.slice xd recs.length xc)) u8 := KS.out _ HBu8.out
            refine hC.out _ _ (fun _ => hHeld) (fun _ => ?_)
            clear hC C
            (try simp only [Act.put, List.setIfInBounds_toArray, List.set_cons_zero, List.set_cons_succ])
            refine wpAnyZ_ready (rs := [1]) (by kernel_rfl) (by simp) ?_
            refine AllReadyZ.cons (o := ⟨_, _, _, _, _, _⟩) rfl (fun C hC => ?_) AllReadyZ.nil
            go_simp
            obtain ⟨u9, hu9⟩ : ∃ u, u = u8.alloc (.cells #[] 56) := ⟨_, rfl⟩
            have hbb : Below u8.heap.size u8 u9 := by rw [hu9]; exact (Below.refl _ _).alloc (Nat.le_refl _) _
            have HBu9 := Lib.hid (HBu8.out.trans (hbb.mono HBu8.out.size))
            obtain ⟨gu9, hgu9⟩ : ∃ G, G = u8.heap.size := ⟨_, rfl⟩
            have HOu9 : Hid (OwnRow batK u9 W6.heap.size (.slice (some ⟨gu9, 0, none⟩) 0 0) []) := by show OwnRow _ _ _ _ _; rw [hu9, hgu9]; exact ownRow_lit batK_ok u8 _ [] HBu8.out.size (by simp) _ rfl 0 rfl
            have HXu9 := Lib.hid (HXu8.out.keep hbb)
            have HNEu9 : ∀ a, (some (⟨gx, 0, none⟩ : Addr)) = some a → some a.block ≠ (Value.slice (some ⟨gu9, 0, none⟩) 0 0).ownBlock := by
              intro a ha e
              cases ha
              have h1 := HXu8.out.lt (by omega) _ rfl
              simp [Value.ownBlock] at e
              simp at h1
              omega
            rw [← hu9, ← hgu9]
            clear hu9 hgu9 hbb
            have hHeld : (fun (W : World) => W.cell? ⟨km, 2, none⟩ = some (.slice ad len cap) ∧ W.cell? ⟨X, 0, none⟩ = some (.int .i64 b0) ∧ W.cell? ⟨X, 1, none⟩ = some (.int .i64 b1) ∧ W.cell? ⟨X, 2, none⟩ = some (.int .i64 b2) ∧ W.cell? ⟨X, 3, none⟩ = some (.int .i64 b3) ∧ W.cell? ⟨X, 4, none⟩ = some (.bool b4) ∧ W.cell? ⟨X, 5, none⟩ = some (.int .i64 b5) ∧ W.cell? ⟨X, 6, none⟩ = some (.slice xd recs.length xc)) u9 := KS.out _ HBu9.out
            refine hC.out _ _ (fun _ => hHeld) (fun _ => ?_)
            clear hC C
            (try simp only [Act.put, List.setIfInBounds_toArray, List.set_cons_zero, List.set_cons_succ])
            refine wpAnyZ_ready (rs := [6]) (by kernel_rfl) (by simp) ?_
            refine AllReadyZ.cons (o := ⟨_, _, _, _, _, _⟩) rfl (fun C hC => ?_) AllReadyZ.nil
            refine held_row (by rfl) batK_ok (.tmp 52) (.tmp 56) rfl W6.heap.size [] ms _ rfl HOu9.out HBu9.out.size ad len cap rfl (HM6.out.bats.row.keep HBu9.out) (by rw [List.length_nil]; omega) ?_
            rintro vu10 u10 hap
            have HBu10 : Hid (Below W6.heap.size W6 u10) := HBu9.out.grown hap.2.1 HBu9.out.size fun q hq => (HOu9.out.lt q hq).1
            have HOu10 : Hid (OwnRow batK u10 W6.heap.size vu10 ms) := hap.1
            have HXu10 := Lib.hid (HXu9.out.grown hap.2.1 HNEu9)
            clear hap
            have hHeld : (fun (W : World) => W.cell? ⟨km, 2, none⟩ = some (.slice ad len cap) ∧ W.cell? ⟨X, 0, none⟩ = some (.int .i64 b0) ∧ W.cell? ⟨X, 1, none⟩ = some (.int .i64 b1) ∧ W.cell? ⟨X, 2, none⟩ = some (.int .i64 b2) ∧ W.cell? ⟨X, 3, none⟩ = some (.int .i64 b3) ∧ W.cell? ⟨X, 4, none⟩ = some (.bool b4) ∧ W.cell? ⟨X, 5, none⟩ = some (.int .i64 b5) ∧ W.cell? ⟨X, 6, none⟩ = some (.slice xd recs.length xc)) u10 := KS.out _ HBu10.out
            refine hC.out _ _ (fun _ => hHeld) (fun _ => ?_)
            clear hC C
            (try simp only [Act.put, List.setIfInBounds_toArray, List.set_cons_zero, List.set_cons_succ])
            refine wpAnyZ_ready (rs := [9]) (by kernel_rfl) (by simp) ?_
            refine AllReadyZ.cons (o := ⟨_, _, _, _, _, _⟩) rfl (fun C hC => ?_) AllReadyZ.nil
            refine held_row (by rfl) batK_ok (.tmp 57) (.tmp 59) rfl W6.heap.size ms [mx] _ rfl HOu10.out HBu10.out.size (some ⟨gx, 0, none⟩) 1 1 rfl HXu10.out (by omega) ?_
            rintro vu11 u11 hap
            have HBu11 : Hid (Below W6.heap.size W6 u11) := HBu10.out.grown hap.2.1 HBu10.out.size fun q hq => (HOu10.out.lt q hq).1
            have HOu11 : Hid (OwnRow batK u11 W6.heap.size vu11 (ms ++ [mx])) := hap.1
            clear hap
            have hHeld : (fun (W : World) => W.cell? ⟨km, 2, none⟩ = some (.slice ad len cap) ∧ W.cell? ⟨X, 0, none⟩ = some (.int .i64 b0) ∧ W.cell? ⟨X, 1, none⟩ = some (.int .i64 b1) ∧ W.cell? ⟨X, 2, none⟩ = some (.int .i64 b2) ∧ W.cell? ⟨X, 3, none⟩ = some (.int .i64 b3) ∧ W.cell? ⟨X, 4, none⟩ = some (.bool b4) ∧ W.cell? ⟨X, 5, none⟩ = some (.int .i64 b5) ∧ W.cell? ⟨X, 6, none⟩ = some (.slice xd recs.length xc)) u11 := KS.out _ HBu11.out
            refine hC.out _ _ (fun _ => hHeld) (fun _ => ?_)
            clear hC C
            (try simp only [Act.put, List.setIfInBounds_toArray, List.set_cons_zero, List.set_cons_succ])
            refine wpAnyZ_take (i := 10) (oi := ⟨_, _, _, _, _, _⟩) (v := ?_) rfl (by kernel_rfl) (by kernel_rfl) (by kernel_rfl) (by kernel_rfl) (by kernel_rfl) (fun _ _ _ h => h) (Or.inl ⟨by rfl, ?_⟩) (by assumption) ?_
            rotate_left
            · intro W hSw
              (try dsimp only at hSw)
              go_simp
              (try with_reducible rfl)
            (try simp only [Act.put, List.setIfInBounds_toArray, List.set_cons_zero, List.set_cons_succ])
            refine wpAnyZ_take (i := 11) (oi := ⟨_, _, _, _, _, _⟩) (v := ?_) rfl (by kernel_rfl) (by kernel_rfl) (by kernel_rfl) (by kernel_rfl) (by kernel_rfl) (fun _ _ _ h => h) (Or.inl ⟨by rfl, ?_⟩) (by assumption) ?_
            rotate_left
            · intro W hSw
              (try dsimp only at hSw)
              go_simp
              (try with_reducible rfl)
            (try simp only [Act.put, List.setIfInBounds_toArray, List.set_cons_zero, List.set_cons_succ])
            obtain ⟨g, capz, cur, hvz, hblk, hbg, hcs⟩ := OwnRow.block (n := len + 1) HOu11.out (by rw [List.length_append]; simp; omega) (by omega)
            subst hvz
            have t0 := (HM6.out.box.on HBu11.out).c2
            have t1 := (HM6.out.box.on HBu11.out).free 2
            refine wpAnyZ_ready (rs := [12]) (by kernel_rfl) (by simp) ?_
            refine AllReadyZ.cons (o := ⟨_, _, _, _, _, _⟩) rfl (fun C hC => ?_) AllReadyZ.nil
            go_simp
            refine hC.out _ _ (zfree_no (by kernel_rfl)) (fun _ => ?_)
            clear hC C
            (try simp only [Act.put, List.setIfInBounds_toArray, List.set_cons_zero, List.set_cons_succ])
            refine wpAnyZ_done (by kernel_rfl) ?_ _
            refine NoPanic.normal ?_
            obtain ⟨wz, hwz⟩ : ∃ wz, wz = u11.setCell ⟨km, 2, none⟩ (.slice (some ⟨g, 0, none⟩) (len + 1) capz) := ⟨_, rfl⟩
            have hkm6 := HM6.out.box.lt
            have HGz : Hid (W6.grownBy wz (some km)) := by show World.grownBy _ _ _; rw [hwz]; exact grow_set (grow_below (grow_refl W6 _) HBu11.out) 2 _
            have HOz : Hid (OwnRow batK wz W6.heap.size (.slice (some ⟨g, 0, none⟩) (len + 1) capz) (ms ++ [mx])) := by show OwnRow _ _ _ _ _; rw [hwz]; exact HOu11.out.off hkm6 _ _
            have HTBz : Hid (MBox wz km mc start (.slice (some ⟨g, 0, none⟩) (len + 1) capz)) := by show MBox _ _ _ _ _; rw [hwz]; exact (HM6.out.box.on HBu11.out).s2 _
            have p0 := (HX6.out.grown2 HGz.out hXk).c0
            try rw [← hwz]
            clear hwz t0 t1 hHeld
            go_wp2
            go_ret2
            obtain ⟨ad9, cap9, hv9, hr9, hk9⟩ := OwnRow.row batK_ok HOz.out (n := len + 1) (by rw [List.length_append]; simp; omega)
            cases hv9
            exact gives_put HEND.out (put_ok HM6.out HGz.out HTBz.out hr9 hk9 (by rw [HMX.out]; exact HXR6.out) (by rw [HMX.out]; exact HXK6.out)) (by unfold bats; rw [List.map_append]; show bats ms ++ [mx.b] = _; rw [HBS.out, HMX.out]) (grow_trans HG6.out HGz.out)
  · have hd : (ce == 0) = false := beq_false_of_ne he
    have hdn : (ce != 0) = true := by unfold bne; rw [hd]; rfl
    have HEND : Hid (r = ((-1, ce), bs)) := by show r = _; rw [HPUT.out, if_pos he]
    clear HPUT he
    go_wp2
    go_ret2
    exact gives_put HEND.out HM2.out HBS.out HG2.out
end Go.Proofs.YtgohekjkbgfeeaaGreat
namespace Go.Proofs.YtgohekjkbgfeeaaGreat
open Go.RowKit
open Go.SeqMath
open Go.ProdMath
open Go.BatMath hiding AllB getD_lt take_all
set_option linter.unusedVariables false

theorem gives_put_below {w w1 w2 : World} {km : Nat} {mc start : Int} {r : (Int × Int) × List Bat} {e : Ending} (hb : Below w.heap.size w w1) (h : GivesPut w1 km mc start r e w2) : GivesPut w km mc start r e w2 := by
  obtain ⟨ad, len, cap, ms, he, hm, hbs, hg⟩ := h
  exact ⟨ad, len, cap, ms, he, hm, hbs, grow_trans (grow_below (grow_refl w _) hb) hg⟩
set_option maxRecDepth 100000 in
set_option maxHeartbeats 4000000 in
theorem produce_any (w : World) (km : Nat) (mc start : Int) (ad : Option Addr) (len cap : Nat) (ms : List BM) (h : MOk w km mc start ad len cap ms) (hL : len ≤ 99999) (hok : RowOk (bats ms)) (hend : 0 ≤ endD start (bats ms) ∧ endD start (bats ms) ≤ 1099511627792) (b0 b1 b2 b3 : Int) (b4 : Bool) (b5 : Int) (recs : List Rc) (rd : Option Addr) (rc : Nat) (hr : RecsAt w rd recs.length rc recs) (ht : TextsOk recs) (hrn : recs.length ≤ 140737488355328) (hwf : b1 ≤ 9223372036854775807) (r : (Int × Int) × List Bat) (hput : produceD mc start (bats ms) ⟨b0, b1, b2, b3, b4, b5, recs⟩ = r) :
    Calls Tryz.prog 26 #[.pointer (some ⟨km, 0, none⟩), .agg #[.int .i64 b0, .int .i64 b1, .int .i64 b2, .int .i64 b3, .bool b4, .int .i64 b5, .slice rd recs.length rc]] w (GivesPut w km mc start r) := by
  have hkm := h.box.lt
  have HOW : Hid (∀ a, ad = some a → a.block < w.heap.size) := fun a ha => (h.row a ha).2
  have HOI : Hid (∀ m ∈ ms, ∀ a, m.ad = some a → a.block < w.heap.size) := fun m hm a ha => (h.ins m hm a ha).2
  obtain ⟨W0, hW0⟩ : ∃ W0, W0 = w.alloc (.cells #[.int .i64 b0, .int .i64 b1, .int .i64 b2, .int .i64 b3, .bool b4, .int .i64 b5, .slice rd recs.length rc] 56) := ⟨_, rfl⟩
  have HB0 : Hid (Below w.heap.size w W0) := by show Below _ _ _; rw [hW0]; exact (Below.refl _ _).alloc (Nat.le_refl _) _
  have HX0 : Hid (BoxAt W0 w.heap.size b0 b1 b2 b3 b4 b5 (.slice rd recs.length rc)) := by show BoxAt _ _ _ _ _ _ _ _ _; rw [hW0]; exact boxAt_new w _ _ _ _ _ _ _
  have HM0 := Lib.hid (h.keep HB0.out)
  have HR := Lib.hid hr
  have HOK := Lib.hid hok
  have HTX := Lib.hid ht
  have HEND := Lib.hid hend
  have HW0 := Lib.hid hW0
  clear h hr hok hW0 ht hend
  obtain ⟨v, hv⟩ : ∃ v, endD start (bats ms) = v := ⟨_, rfl⟩
  obtain ⟨q, hq⟩ : ∃ q, rightE ⟨v, b1, b2, b3, b4, b5, recs⟩ = q := ⟨_, rfl⟩
  have hput2 : r = if q ≠ 0 then ((-1, q), bats ms) else if b5 ≠ 0 then ((-1, 16), bats ms) else putD mc start (bats ms) ⟨v, b1, b2, b3, b4, b5, recs⟩ := by
    rw [← hput]
    unfold produceD
    rw [hv]
    unfold Bat.at
    simp only
    rw [hq]
  have HPUT := Lib.hid hput2
  have HV := Lib.hid hv
  have HQ := Lib.hid hq
  clear hput hput2 hv hq
  obtain ⟨X, hX⟩ : ∃ X, X = w.heap.size := ⟨_, rfl⟩
  have hXw : w.heap.size ≤ X := by omega
  have hXk : km ≠ X := by omega
  have HXE := Lib.hid hX
  rw [← hX] at HX0
  go_enter Tryz.func26, Tryz.ntmps26
  go_upto_region 1 with fail
  rw [← HW0.out, ← hX]
  clear HW0 hX
  go_wp2_with fail
  refine (modEnd_any W0 km mc start ad len cap ms HM0.out.box HM0.out.bats (by omega) HOK.out v HV.out).mono ?_
  rintro e w1 ⟨rfl, hb1⟩
  have HX1 := Lib.hid (HX0.out.on hb1)
  have HM1 := Lib.hid (HM0.out.keep hb1)
  have HB1 := Lib.hid (HB0.out.trans (hb1.mono HB0.out.size))
  clear hb1 HX0 HM0 HB0
  have p0 := HX1.out.c0
  have f0 := HX1.out.free 0
  go_upto_region 2 with fail
  obtain ⟨w2, hw2⟩ : ∃ w2, w2 = w1.setCell ⟨X, 0, none⟩ (.int .i64 v) := ⟨_, rfl⟩
  have HX2 : Hid (BoxAt w2 X v b1 b2 b3 b4 b5 (.slice rd recs.length rc)) := by show BoxAt _ _ _ _ _ _ _ _ _; rw [hw2]; exact HX1.out.s0 v
  have HM2 : Hid (MOk w2 km mc start ad len cap ms) := by
    show MOk _ _ _ _ _ _ _ _
    rw [hw2]
    exact HM1.out.grown (grow_one w1 X 0 _) hXk.symm (fun a ha e => by have := HOW.out a ha; omega) (fun m hm a ha e => by have := HOI.out m hm a ha; omega)
  have HB2 : Hid (Below w.heap.size w w2) := by show Below _ _ _; rw [hw2]; exact HB1.out.setCell (by have := HXE.out; show w.heap.size ≤ X; omega) _
  have HRE2 := Lib.hid (HR.out.keep HB2.out)
  rw [← hw2]
  clear hw2 HX1 HM1 HB1 p0 f0
  have p0 := HX2.out.c0
  have p1 := HX2.out.c1
  have p2 := HX2.out.c2
  have p3 := HX2.out.c3
  have p4 := HX2.out.c4
  have p5 := HX2.out.c5
  have p6 := HX2.out.c6
  go_wp2_with fail
  have CR := refRight_any w2 ⟨v, b1, b2, b3, b4, b5, recs⟩ rd recs.length rc HRE2.out HTX.out hrn hwf
  rw [HQ.out] at CR
  refine CR.mono ?_
  clear CR
  rintro e w3 ⟨rfl, hb3⟩
  have HX3 := Lib.hid (HX2.out.on hb3)
  have HM3 := Lib.hid (HM2.out.keep hb3)
  have HRE3 := Lib.hid (HRE2.out.keep hb3)
  have HB3 := Lib.hid (HB2.out.trans (hb3.mono HB2.out.size))
  have HG3 : Hid (w.grownBy w3 (some km)) := grow_below (grow_refl w _) HB3.out
  clear hb3 HX2 HM2 HRE2 HB2 p0 p1 p2 p3 p4 p5 p6
  by_cases hz : q = 0
  · have hd : (q == 0) = true := by rw [hz]; rfl
    have hdn : (q != 0) = false := by rw [hz]; rfl
    by_cases hm : b5 = 0
    · have hd5 : (b5 == 0) = true := by rw [hm]; rfl
      have HPD : Hid (putD mc start (bats ms) ⟨v, b1, b2, b3, b4, b5, recs⟩ = r) := by show _ = _; rw [HPUT.out, if_neg (by simp [hz]), if_neg (by simp [hm])]
      clear HPUT hz hm
      have p0 := HX3.out.c0
      have p1 := HX3.out.c1
      have p2 := HX3.out.c2
      have p3 := HX3.out.c3
      have p4 := HX3.out.c4
      have p5 := HX3.out.c5
      have p6 := HX3.out.c6
      go_wp2_with fail
      refine (modPut_any w3 km mc start ad len cap ms HM3.out hL HOK.out HEND.out v b1 b2 b3 b4 b5 recs rd rc HRE3.out HTX.out hrn hwf r HPD.out).mono ?_
      intro e w4 hg
      have hg := gives_put_below HB3.out hg
      obtain ⟨ad', len', cap', ms', rfl, h2, h3, h4⟩ := hg
      have H2 := Lib.hid h2
      have H3 := Lib.hid h3
      have H4 := Lib.hid h4
      obtain ⟨⟨x, y⟩, rb⟩ := r
      clear h2 h3 h4 hg HPD
      simp only
      go_wp2
      go_ret2
      exact ⟨ad', len', cap', ms', rfl, H2.out, H3.out, H4.out⟩
    · have hd5 : (b5 == 0) = false := beq_false_of_ne hm
      have HE : Hid (r = ((-1, 16), bats ms)) := by show r = _; rw [HPUT.out, if_neg (by simp [hz]), if_pos hm]
      have p5 := HX3.out.c5
      clear HPUT hz hm
      go_wp2
      go_ret2
      exact gives_put HE.out HM3.out rfl HG3.out
  · have hd : (q == 0) = false := beq_false_of_ne hz
    have hdn : (q != 0) = true := by unfold bne; rw [hd]; rfl
    have HE : Hid (r = ((-1, q), bats ms)) := by show r = _; rw [HPUT.out, if_pos hz]
    clear HPUT hz
    go_wp2
    go_ret2
    exact gives_put HE.out HM3.out rfl HG3.out
set_option maxRecDepth 100000 in
set_option maxHeartbeats 4000000 in
theorem mark_any (w : World) (km : Nat) (mc start : Int) (ad : Option Addr) (len cap : Nat) (ms : List BM) (h : MOk w km mc start ad len cap ms) (hL : len ≤ 99999) (hok : RowOk (bats ms)) (hend : 0 ≤ endD start (bats ms) ∧ endD start (bats ms) ≤ 1099511627792) (p ep m : Int) (hp : p ≤ 9223372036854775807) (r : (Int × Int) × List Bat) (hput : markD mc start (bats ms) p ep m = r) :
    Calls Tryz.prog 25 #[.pointer (some ⟨km, 0, none⟩), .int .i64 p, .int .i64 ep, .int .i64 m] w (GivesPut w km mc start r) := by
  have HM := Lib.hid h
  have HOK := Lib.hid hok
  have HEND := Lib.hid hend
  obtain ⟨v, hv⟩ : ∃ v, endD start (bats ms) = v := ⟨_, rfl⟩
  have hput2 : r = if m = 0 then ((-1, 12), bats ms) else putD mc start (bats ms) ⟨v, p, ep, -1, true, m, []⟩ := by
    rw [← hput]
    unfold markD
    rw [hv]
  have HPUT := Lib.hid hput2
  have HV := Lib.hid hv
  clear h hok hend hput hput2 hv
  by_cases hm : m = 0
  · have hd : (m == 0) = true := by rw [hm]; rfl
    have HE : Hid (r = ((-1, 12), bats ms)) := by show r = _; rw [HPUT.out, if_pos hm]
    clear HPUT hm
    go_enter Tryz.func25, Tryz.ntmps25
    go_wp2
    go_ret2
    exact gives_put HE.out HM.out rfl (grow_refl w _)
  · have hd : (m == 0) = false := beq_false_of_ne hm
    have HPD : Hid (putD mc start (bats ms) ⟨v, p, ep, -1, true, m, []⟩ = r) := by show _ = _; rw [HPUT.out, if_neg hm]
    clear HPUT hm
    go_enter Tryz.func25, Tryz.ntmps25
    go_wp2_with fail
    refine (modEnd_any w km mc start ad len cap ms HM.out.box HM.out.bats (by omega) HOK.out v HV.out).mono ?_
    rintro e w1 ⟨rfl, hb1⟩
    have HM1 := Lib.hid (HM.out.keep hb1)
    have HB1 := Lib.hid hb1
    clear hb1
    go_wp2_with fail
    refine (modPut_any w1 km mc start ad len cap ms HM1.out hL HOK.out HEND.out v p ep (-1) true m [] none 0 (recsAt_nil _) (fun r hr => by cases hr) (by decide) hp r HPD.out).mono ?_
    intro e w4 hg
    have hg := gives_put_below HB1.out hg
    obtain ⟨ad', len', cap', ms', rfl, h2, h3, h4⟩ := hg
    have H2 := Lib.hid h2
    have H3 := Lib.hid h3
    have H4 := Lib.hid h4
    obtain ⟨⟨x, y⟩, rb⟩ := r
    clear h2 h3 h4 hg HPD
    simp only
    go_wp2
    go_ret2
    exact ⟨ad', len', cap', ms', rfl, H2.out, H3.out, H4.out⟩
def GivesPds (w : World) (l : List Pd) (e : Ending) (w' : World) : Prop :=
  ∃ ad len cap ps, e = .returned (.slice ad len cap) ∧ PdsAt w' ad len cap ps ∧ pds ps = l ∧ (∀ a, ad = some a → w.heap.size ≤ a.block) ∧ (∀ m ∈ ps, ∀ a, m.ad = some a → w.heap.size ≤ a.block) ∧ Below w.heap.size w w'
set_option maxRecDepth 100000 in
theorem producers_any (w : World) (km : Nat) (mc start : Int) (ad : Option Addr) (len cap : Nat) (ms : List BM) (h : MOk w km mc start ad len cap ms) (hL : len ≤ 99999) (hok : RowOk (bats ms)) :
    Calls Tryz.prog 53 #[.pointer (some ⟨km, 0, none⟩)] w (GivesPds w (foldP [] (bats ms))) := by
  have HM := Lib.hid h
  have HBO := Lib.hid (batsOk_of hok)
  have m2 := h.box.c2
  clear h hok
  go_enter Tryz.func53, Tryz.ntmps53
  go_wp2_with fail
  refine (fold_any w ad len cap ms HM.out.bats (by omega) HBO.out).mono ?_
  rintro e w1 ⟨kt, tad, tlen, tcap, ps, dd, dn, dc, rfl, htab, hps, _, hkt, hb1⟩
  have HKT := Lib.hid hkt
  have t0 := htab.tab.box.c0
  have HT := Lib.hid htab
  have HPS := Lib.hid hps
  have HB := Lib.hid hb1
  clear htab hps hb1 m2 hkt
  go_wp2
  go_ret
  exact ⟨tad, tlen, tcap, ps, rfl, HT.out.tab.pds, HPS.out, (fun a ha => by have := (HT.out.row a ha).1; have := HKT.out; omega), (fun m hm a ha => by have := (HT.out.ins m hm a ha).1; have := HKT.out; omega), HB.out⟩
end Go.Proofs.YtgohekjkbgfeeaaGreat
