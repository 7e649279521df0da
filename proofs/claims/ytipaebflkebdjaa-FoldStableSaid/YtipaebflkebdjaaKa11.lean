/- Parts of a proof, merged: Foot, ModPut, ModAct, ModAsk, BatLaw2. -/
import Derived.Deep.RegionHeld3
import Derived.Test.YtipaebflkebdjaaKa5
import Derived.Test.YtipaebflkebdjaaKa3
import Derived.Test.YtipaebflkebdjaaKa7
import Derived.Test.YtipaebflkebdjaaKa4
namespace Go.Proofs.Ytipaebflkebdjaa
open Go.RowKit
set_option linter.unusedVariables false

/-- Nothing that was there and is not of F has turned. -/
structure Kept (w w' : World) (F : Nat → Prop) : Prop where
 os : w'.os = w.os
 tape : w'.tape = w.tape
 output : w'.output = w.output
 size : w.heap.size ≤ w'.heap.size
 block : ∀ j, j < w.heap.size → ¬ F j → w'.heap[j]? = w.heap[j]?
section
variable {w w1 w2 : World} {F G : Nat → Prop}
theorem Kept.refl (w : World) (F : Nat → Prop) : Kept w w F := ⟨rfl, rfl, rfl, Nat.le_refl _, fun _ _ _ => rfl⟩
theorem Kept.trans (h : Kept w w1 F) (h2 : Kept w1 w2 G) (hg : ∀ i, G i → F i ∨ w.heap.size ≤ i) : Kept w w2 F :=
 ⟨h2.os.trans h.os, h2.tape.trans h.tape, h2.output.trans h.output, Nat.le_trans h.size h2.size, fun j hj hn => (h2.block j (Nat.lt_of_lt_of_le hj h.size) fun e => by
  rcases hg j e with h3 | h3
  · exact hn h3
  · omega).trans (h.block j hj hn)⟩
theorem Kept.of_grown {k : Nat} (h : w.grownBy w1 (some k)) (hk : F k ∨ w.heap.size ≤ k) : Kept w w1 F := ⟨h.os, h.tape, h.output, h.size, fun j hj hn => h.block j hj fun e => by
 cases e
 rcases hk with h1 | h1
 · exact hn h1
 · omega⟩
theorem Kept.of_own {v : Value} (h : w.grownBy w1 v.ownBlock) (hv : ∀ k, v.ownBlock = some k → F k ∨ w.heap.size ≤ k) : Kept w w1 F := ⟨h.os, h.tape, h.output, h.size, fun j hj hn => h.block j hj fun e => by
 rcases hv j e.symm with h1 | h1
 · exact hn h1
 · omega⟩
theorem Kept.of_below (h : Below w.heap.size w w1) : Kept w w1 F := ⟨h.os, h.tape, h.output, h.size, fun j hj _ => h.block j hj⟩
theorem Kept.more (h : Kept w w1 F) (hf : ∀ i, F i → G i) : Kept w w1 G := ⟨h.os, h.tape, h.output, h.size, fun j hj hn => h.block j hj fun e => hn (hf j e)⟩
theorem Kept.below {B : Nat} (h : Kept w w1 F) (hf : ∀ i, F i → B ≤ i) (hB : B ≤ w.heap.size) : Below B w w1 := ⟨h.os, h.tape, h.output, h.size, fun j hj => h.block j (by omega) fun e => by have := hf j e; omega⟩
theorem Kept.row {α : Type} {K : Kind α} {ad : Option Addr} {len cap : Nat} {l : List α} (hk : Kept w w1 F) (hr : RowAt K w ad len cap l) (ha : ∀ a, ad = some a → ¬ F a.block) : RowAt K w1 ad len cap l := by
 refine ⟨hr.length, hr.fits, hr.room, ?_⟩
 rcases hr.cells with h0 | ⟨b, off, e, hlt, hc⟩
 · exact .inl h0
 · refine .inr ⟨b, off, e, Nat.lt_of_lt_of_le hlt hk.size, fun i x hi j u hj => ?_⟩
   have h1 := hc i x hi j u hj
   have e1 := hk.block b hlt (ha _ e)
   unfold World.cell? at h1 ⊢
   simp only [e1]
   exact h1
end
theorem OwnRow.same {α : Type} {K : Kind α} {w w' : World} {base : Nat} {v : Value} {l : List α} (h : OwnRow K w base v l) (hs : ∀ q, v.ownBlock = some q → w'.heap[q]? = w.heap[q]?) : OwnRow K w' base v l := by
 refine ⟨h.1, ?_⟩
 rcases h.2 with h0 | ⟨g, cap, cur, h1, h2, h3, h4⟩
 · exact .inl h0
 · exact .inr ⟨g, cap, cur, h1, h2, (hs g (by rw [h1]; rfl)).trans h3, h4⟩
end Go.Proofs.Ytipaebflkebdjaa
namespace Go.Proofs.Ytipaebflkebdjaa
open Go.RowKit
open Go.SeqMath
open Go.ProdMath
open Go.BatMath hiding AllB getD_lt take_all
set_option linter.unusedVariables false

/-- A log without files; all that it holds is younger than its box. -/
structure MOk (w : World) (km : Nat) (mc start : Int) (ad : Option Addr) (len cap : Nat) (ms : List BM) : Prop where
 box : MBox w km mc start (.slice ad len cap)
 bats : BatsAt w ad len cap ms
 row : ∀ a, ad = some a → km < a.block ∧ a.block < w.heap.size
 ins : ∀ m ∈ ms, ∀ a, m.ad = some a → km < a.block ∧ a.block < w.heap.size
theorem MOk.keep {w w' : World} {km : Nat} {mc start : Int} {ad : Option Addr} {len cap : Nat} {ms : List BM} (h : MOk w km mc start ad len cap ms) (hb : Below w.heap.size w w') : MOk w' km mc start ad len cap ms :=
 ⟨h.box.on hb, h.bats.keep hb, fun a ha => ⟨(h.row a ha).1, Nat.lt_of_lt_of_le (h.row a ha).2 hb.size⟩, fun m hm a ha => ⟨(h.ins m hm a ha).1, Nat.lt_of_lt_of_le (h.ins m hm a ha).2 hb.size⟩⟩
theorem RecAt.grown {w w' : World} {m : BM} {r : Option Nat} (h : RecAt w m) (hg : w.grownBy w' r) (hr : ∀ a, m.ad = some a → some a.block ≠ r) : RecAt w' m := recsAt_row.2 ((recsAt_row.1 h).grown hg hr)
/-- Another block has turned. -/
theorem MOk.grown {w w' : World} {km k : Nat} {mc start : Int} {ad : Option Addr} {len cap : Nat} {ms : List BM} (h : MOk w km mc start ad len cap ms) (hg : w.grownBy w' (some k)) (hk : k ≠ km) (hr : ∀ a, ad = some a → a.block ≠ k) (hi : ∀ m ∈ ms, ∀ a, m.ad = some a → a.block ≠ k) : MOk w' km mc start ad len cap ms :=
 ⟨h.box.grown hg fun e => hk (Option.some.inj e), ⟨h.bats.row.grown hg fun a ha e => hr a ha (Option.some.inj e), fun m hm => RecAt.grown (h.bats.ins m hm) hg fun a ha e => hi m hm a ha (Option.some.inj e)⟩, fun a ha => ⟨(h.row a ha).1, Nat.lt_of_lt_of_le (h.row a ha).2 hg.size⟩, fun m hm a ha => ⟨(h.ins m hm a ha).1, Nat.lt_of_lt_of_le (h.ins m hm a ha).2 hg.size⟩⟩
def GivesPut (w : World) (km : Nat) (mc start : Int) (r : (Int × Int) × List Bat) (e : Ending) (w' : World) : Prop :=
 ∃ ad len cap ms, e = .returned (.tuple #[.int .i64 r.1.1, .int .i64 r.1.2]) ∧ MOk w' km mc start ad len cap ms ∧ bats ms = r.2 ∧ w.grownBy w' (some km)
theorem gives_put {w w' : World} {km : Nat} {mc start : Int} {r : (Int × Int) × List Bat} {x y : Int} {bs : List Bat} {ad : Option Addr} {len cap : Nat} {ms : List BM} (hr : r = ((x, y), bs)) (h : MOk w' km mc start ad len cap ms) (hb : bats ms = bs) (hg : w.grownBy w' (some km)) : GivesPut w km mc start r (.returned (.tuple #[.int .i64 x, .int .i64 y])) w' := by
 subst hr
 exact ⟨ad, len, cap, ms, rfl, h, hb, hg⟩
theorem BoxAt.grown2 {w w' : World} {k km : Nat} {b0 b1 b2 b3 : Int} {b4 : Bool} {b5 : Int} {v : Value} (h : BoxAt w k b0 b1 b2 b3 b4 b5 v) (hg : w.grownBy w' (some km)) (hk : km ≠ k) : BoxAt w' k b0 b1 b2 b3 b4 b5 v := h.grows hg fun e => hk (Option.some.inj e)
theorem put_ok {W W' : World} {km len cap len' cap' : Nat} {mc start : Int} {ad ad' : Option Addr} {ms : List BM} {mx : BM} (h : MOk W km mc start ad len cap ms) (hg : W.grownBy W' (some km)) (hb : MBox W' km mc start (.slice ad' len' cap')) (hr : RowAt batK W' ad' len' cap' (ms ++ [mx])) (hk : ∀ a, ad' = some a → W.heap.size ≤ a.block ∧ a.block < W'.heap.size) (hx : RecAt W mx) (hxk : ∀ a, mx.ad = some a → km < a.block ∧ a.block < W.heap.size) : MOk W' km mc start ad' len' cap' (ms ++ [mx]) := by
 have hlt := h.box.lt
 have hall : ∀ m ∈ ms ++ [mx], RecAt W m ∧ ∀ a, m.ad = some a → km < a.block ∧ a.block < W.heap.size := by
  intro m hm
  rcases List.mem_append.1 hm with h1 | h1
  · exact ⟨h.bats.ins m h1, h.ins m h1⟩
  · rw [List.mem_singleton.1 h1]; exact ⟨hx, hxk⟩
 refine ⟨hb, ⟨hr, fun m hm => RecAt.grown (hall m hm).1 hg fun a ha e => ?_⟩, fun a ha => ?_, fun m hm a ha => ?_⟩
 · have h1 := ((hall m hm).2 a ha).1
   have h2 := Option.some.inj e
   omega
 · have := hk a ha
   exact ⟨by omega, this.2⟩
 · have := (hall m hm).2 a ha
   exact ⟨this.1, Nat.lt_of_lt_of_le this.2 hg.size⟩
set_option maxRecDepth 100000 in
set_option maxHeartbeats 8000000 in
theorem modPut_any (w : World) (km : Nat) (mc start : Int) (ad : Option Addr) (len cap : Nat) (ms : List BM) (h : MOk w km mc start ad len cap ms) (hL : len ≤ 99999) (hok : RowOk (bats ms)) (hend : 0 ≤ endD start (bats ms) ∧ endD start (bats ms) ≤ 1099511627792) (b0 b1 b2 b3 : Int) (b4 : Bool) (b5 : Int) (recs : List Rc) (rd : Option Addr) (rc : Nat) (hr : RecsAt w rd recs.length rc recs) (ht : TextsOk recs) (hrn : recs.length ≤ 140737488355328) (hwf : b1 ≤ 9223372036854775807) (r : (Int × Int) × List Bat) (hput : putD mc start (bats ms) ⟨b0, b1, b2, b3, b4, b5, recs⟩ = r) :
 Calls Try.prog 46 #[.pointer (some ⟨km, 0, none⟩), .agg #[.int .i64 b0, .int .i64 b1, .int .i64 b2, .int .i64 b3, .bool b4, .int .i64 b5, .slice rd recs.length rc]] w (GivesPut w km mc start r) := by
 have hkm := h.box.lt
 have HOW : Hid (∀ a, ad = some a → a.block < w.heap.size) := fun a ha => (h.row a ha).2
 have HOI : Hid (∀ m ∈ ms, ∀ a, m.ad = some a → a.block < w.heap.size) := fun m hm a ha => (h.ins m hm a ha).2
 obtain ⟨W0, hW0⟩ : ∃ W0, W0 = w.alloc (.cells #[.int .i64 b0, .int .i64 b1, .int .i64 b2, .int .i64 b3, .bool b4, .int .i64 b5, .slice rd recs.length rc] 52) := ⟨_, rfl⟩
 have HB0 : Hid (Below w.heap.size w W0) := by show Below _ _ _; rw [hW0]; exact (Below.refl _ _).alloc (Nat.le_refl _) _
 have HX0 : Hid (BoxAt W0 w.heap.size b0 b1 b2 b3 b4 b5 (.slice rd recs.length rc)) := by show BoxAt _ _ _ _ _ _ _ _ _; rw [hW0]; exact boxAt_new w _ _ _ _ _ _ _
 have HM0 := Lib.hid (h.keep HB0.out)
 have HRE0 := Lib.hid (hr.keep HB0.out)
 have HOK := Lib.hid hok
 have HBO := Lib.hid (batsOk_of hok)
 have HTX := Lib.hid ht
 have HW0 := Lib.hid hW0
 clear h hr hok hW0 ht
 obtain ⟨X, hX⟩ : ∃ X, X = w.heap.size := ⟨_, rfl⟩
 have hXw : w.heap.size ≤ X := by omega
 have hXk : km ≠ X := by omega
 have HXE := Lib.hid hX
 rw [← hX] at HX0
 obtain ⟨bs, hbs⟩ : ∃ bs, bats ms = bs := ⟨_, rfl⟩
 have HBS := Lib.hid hbs
 rw [hbs] at hend hput HBO HOK
 clear hbs
 obtain ⟨ca, ce, hc⟩ : ∃ ca ce, tcheckD (foldP [] bs) ⟨b0, b1, b2, b3, b4, b5, recs⟩ = (ca, ce) := ⟨_, _, rfl⟩
 obtain ⟨x, hx⟩ : ∃ x, bytesD bs = x := ⟨_, rfl⟩
 obtain ⟨s, hs⟩ : ∃ s, sizeB ⟨b0, b1, b2, b3, b4, b5, recs⟩ = s := ⟨_, rfl⟩
 obtain ⟨v, hv⟩ : ∃ v, endD start bs = v := ⟨_, rfl⟩
 obtain ⟨cnt, hcnt⟩ : ∃ cnt, (if b5 ≠ 0 then 1 else (recs.length : Int)) = cnt := ⟨_, rfl⟩
 have hcd : countD ⟨b0, b1, b2, b3, b4, b5, recs⟩ = cnt := hcnt
 have hbl : bs.length = len := by rw [← HBS.out]; unfold bats; rw [List.length_map]; exact HM0.out.bats.row.length
 have hxb := bytesD_bd bs
 rw [hx, hbl] at hxb
 have hsb := size_bd ⟨b0, b1, b2, b3, b4, b5, recs⟩
 rw [hs] at hsb
 rw [hv] at hend
 have hcb : 0 ≤ cnt ∧ cnt ≤ 140737488355328 := by rw [← hcnt]; split <;> omega
 have hput2 : r = if ce ≠ 0 then ((-1, ce), bs) else if 0 ≤ ca then ((ca, 0), bs) else if mc < x + s then ((-1, 17), bs) else if 1099511627776 < v + cnt then ((-1, 18), bs) else ((b0, 0), bs ++ [⟨b0, b1, b2, b3, b4, b5, recs⟩]) := by
  rw [← hput]
  unfold putD
  rw [hc, hx, hs, hv, hcd]
 have HPUT := Lib.hid hput2
 have HC := Lib.hid hc
 have HX_ := Lib.hid hx
 have HS_ := Lib.hid hs
 have HV := Lib.hid hv
 have HCNT := Lib.hid hcnt
 clear hput hput2 hc hx hs hv hcnt hcd hbl
 go_enter Try.func46, Try.ntmps46
 go_upto_region 1 with fail
 rw [← HW0.out, ← hX]
 clear HW0 hX
 have m2 := HM0.out.box.c2
 go_wp2_with fail
 have CF := fold_any W0 ad len cap ms HM0.out.bats (by omega) (by rw [HBS.out]; exact HBO.out)
 rw [HBS.out] at CF
 refine CF.mono ?_
 clear CF
 rintro e w1 ⟨kt, tad, tlen, tcap, ps, dd, dn, dc, rfl, htab, hps, _, _, hb1⟩
 have HT1 := Lib.hid htab
 have HPS := Lib.hid hps
 have HX1 := Lib.hid (HX0.out.on hb1)
 have HM1 := Lib.hid (HM0.out.keep hb1)
 have HRE1 := Lib.hid (HRE0.out.keep hb1)
 have HB1 := Lib.hid (HB0.out.trans (hb1.mono HB0.out.size))
 have htl : tlen ≤ 100000 := by
  have h1 := foldP_len [] bs
  have h2 := htab.tab.pds.row.length
  have h3 : (pds ps).length = ps.length := by unfold pds; rw [List.length_map]
  have h4 : bs.length = len := by rw [← HBS.out]; unfold bats; rw [List.length_map]; exact HM0.out.bats.row.length
  rw [← hps, h3] at h1
  simp at h1
  omega
 clear htab hps hb1 HX0 HM0 HRE0 HB0 m2
 have p0 := HX1.out.c0
 have p1 := HX1.out.c1
 have p2 := HX1.out.c2
 have p3 := HX1.out.c3
 have p4 := HX1.out.c4
 have p5 := HX1.out.c5
 have p6 := HX1.out.c6
 go_wp2_with fail
 have CC := tabCheck_any w1 kt tad tlen tcap ps HT1.out.tab (by omega) ⟨b0, b1, b2, b3, b4, b5, recs⟩ rd recs.length rc HRE1.out HTX.out hrn hwf (ca, ce) (by rw [HPS.out]; exact HC.out) (by rw [HPS.out]; exact foldP_few bs (fun p hp => by cases hp))
 refine CC.mono ?_
 clear CC
 rintro e w2 ⟨rfl, hb2⟩
 have HX2 := Lib.hid (HX1.out.on hb2)
 have HM2 := Lib.hid (HM1.out.keep hb2)
 have HRE2 := Lib.hid (HRE1.out.keep hb2)
 have HB2 := Lib.hid (HB1.out.trans (hb2.mono HB1.out.size))
 have HG2 : Hid (w.grownBy w2 (some km)) := grow_below (grow_refl w _) HB2.out
 clear hb2 HX1 HM1 HRE1 HB1 HT1 HPS htl p0 p1 p2 p3 p4 p5 p6
 simp only
 by_cases he : ce = 0
 · have hd : (ce == 0) = true := by rw [he]; rfl
   have hdn : (ce != 0) = false := by rw [he]; rfl
   have hrr : rightE ⟨b0, b1, b2, b3, b4, b5, recs⟩ = 0 := tcheck_right (by rw [HC.out]; exact he)
   have h16 : recs.length ≤ 16 := (ok_of hrr).recs
   have hcb2 : cnt ≤ 16 := by rw [← HCNT.out]; split <;> omega
   have hput3 := HPUT.out
   rw [if_neg (by simp [he])] at hput3
   have HPUT3 := Lib.hid hput3
   clear hput3 HPUT hrr he
   by_cases h0 : 0 ≤ ca
   · have hd2 : decide (0 ≤ ca) = true := decide_eq_true h0
     have HEND : Hid (r = ((ca, 0), bs)) := by show r = _; rw [HPUT3.out, if_pos h0]
     clear HPUT3 h0
     go_wp2
     go_ret2
     exact gives_put HEND.out HM2.out HBS.out HG2.out
   · have hd2 : decide (0 ≤ ca) = false := decide_eq_false h0
     have hput4 := HPUT3.out
     rw [if_neg h0] at hput4
     have HPUT4 := Lib.hid hput4
     clear hput4 HPUT3 h0
     have KS7 : Hid (∀ W, Below w2.heap.size w2 W → (fun (W : World) => W.cell? ⟨X, 0, none⟩ = some (.int .i64 b0) ∧ W.cell? ⟨X, 1, none⟩ = some (.int .i64 b1) ∧ W.cell? ⟨X, 2, none⟩ = some (.int .i64 b2) ∧ W.cell? ⟨X, 3, none⟩ = some (.int .i64 b3) ∧ W.cell? ⟨X, 4, none⟩ = some (.bool b4) ∧ W.cell? ⟨X, 5, none⟩ = some (.int .i64 b5) ∧ W.cell? ⟨X, 6, none⟩ = some (.slice rd recs.length rc) ∧ W.cell? ⟨km, 0, none⟩ = some (.int .i64 mc)) W) := by
      intro W hW
      have hX := HX2.out.on hW
      exact ⟨hX.c0, hX.c1, hX.c2, hX.c3, hX.c4, hX.c5, hX.c6, (HM2.out.box.on hW).c0⟩
     have hdrw : Below w2.heap.size w2 w2.drew := (Below.refl _ w2).drew
     have hwr : IntKind.i64.wrap (x + s) = x + s := IntWalk.i64_in _ (by omega)
     go_upto_region 7 with fail
     refine wp_region_noPanic ?_
     refine wp_region_z [] (fun (W : World) => W.cell? ⟨X, 0, none⟩ = some (.int .i64 b0) ∧ W.cell? ⟨X, 1, none⟩ = some (.int .i64 b1) ∧ W.cell? ⟨X, 2, none⟩ = some (.int .i64 b2) ∧ W.cell? ⟨X, 3, none⟩ = some (.int .i64 b3) ∧ W.cell? ⟨X, 4, none⟩ = some (.bool b4) ∧ W.cell? ⟨X, 5, none⟩ = some (.int .i64 b5) ∧ W.cell? ⟨X, 6, none⟩ = some (.slice rd recs.length rc) ∧ W.cell? ⟨km, 0, none⟩ = some (.int .i64 mc)) (by kernel_rfl) ?_
     have hHeld : (fun (W : World) => W.cell? ⟨X, 0, none⟩ = some (.int .i64 b0) ∧ W.cell? ⟨X, 1, none⟩ = some (.int .i64 b1) ∧ W.cell? ⟨X, 2, none⟩ = some (.int .i64 b2) ∧ W.cell? ⟨X, 3, none⟩ = some (.int .i64 b3) ∧ W.cell? ⟨X, 4, none⟩ = some (.bool b4) ∧ W.cell? ⟨X, 5, none⟩ = some (.int .i64 b5) ∧ W.cell? ⟨X, 6, none⟩ = some (.slice rd recs.length rc) ∧ W.cell? ⟨km, 0, none⟩ = some (.int .i64 mc)) _ := KS7.out _ hdrw
     obtain ⟨u0, hu0⟩ : ∃ u, u = w2.drew := ⟨_, rfl⟩
     rw [← hu0] at hHeld hdrw
     rw [← hu0]
     clear hu0
     have HU0 := Lib.hid hdrw
     clear hdrw
     refine zt 0 ?_
     refine zt 2 ?_
     refine zt 5 ?_
     refine zt 6 ?_
     refine zt 7 ?_
     refine zt 8 ?_
     refine zr 1 (fun C hC => ?_)
     go_simp
     refine (modSize_any u0 km mc start ad len cap ms (HM2.out.box.on HU0.out) (HM2.out.bats.keep HU0.out) (by omega) (by rw [HBS.out]; exact HOK.out) x (by rw [HBS.out]; exact HX_.out)).mono ?_
     rintro e u1 ⟨rfl, hbb⟩
     have HU1 := Lib.hid (HU0.out.trans (hbb.mono HU0.out.size))
     clear hbb
     go_wp2_with fail
     have hHeld : (fun (W : World) => W.cell? ⟨X, 0, none⟩ = some (.int .i64 b0) ∧ W.cell? ⟨X, 1, none⟩ = some (.int .i64 b1) ∧ W.cell? ⟨X, 2, none⟩ = some (.int .i64 b2) ∧ W.cell? ⟨X, 3, none⟩ = some (.int .i64 b3) ∧ W.cell? ⟨X, 4, none⟩ = some (.bool b4) ∧ W.cell? ⟨X, 5, none⟩ = some (.int .i64 b5) ∧ W.cell? ⟨X, 6, none⟩ = some (.slice rd recs.length rc) ∧ W.cell? ⟨km, 0, none⟩ = some (.int .i64 mc)) u1 := KS7.out _ HU1.out
     refine zc hC hHeld ?_
     clear hC C
     have CS := refSize_any u1 ⟨b0, b1, b2, b3, b4, b5, recs⟩ rd recs.length rc (HRE2.out.keep HU1.out) HTX.out hrn hwf
     rw [HS_.out] at CS
     refine zr 3 (fun C hC => ?_)
     go_simp
     refine CS.mono ?_
     rintro e u2 ⟨rfl, hbb⟩
     have HU2 := Lib.hid (HU1.out.trans (hbb.mono HU1.out.size))
     clear hbb
     go_wp2_with fail
     have hHeld : (fun (W : World) => W.cell? ⟨X, 0, none⟩ = some (.int .i64 b0) ∧ W.cell? ⟨X, 1, none⟩ = some (.int .i64 b1) ∧ W.cell? ⟨X, 2, none⟩ = some (.int .i64 b2) ∧ W.cell? ⟨X, 3, none⟩ = some (.int .i64 b3) ∧ W.cell? ⟨X, 4, none⟩ = some (.bool b4) ∧ W.cell? ⟨X, 5, none⟩ = some (.int .i64 b5) ∧ W.cell? ⟨X, 6, none⟩ = some (.slice rd recs.length rc) ∧ W.cell? ⟨km, 0, none⟩ = some (.int .i64 mc)) u2 := KS7.out _ HU2.out
     refine zc hC hHeld ?_
     clear hC C
     clear CS
     refine zt 4 ?_
     refine zt 9 ?_
     refine wpAnyZ_done (by kernel_rfl) ?_ _
     refine NoPanic.normal ?_
     clear hHeld hwr
     obtain ⟨w3, hw3⟩ : ∃ w3, w3 = u2 := ⟨_, rfl⟩
     subst hw3
     have HX3 := Lib.hid (HX2.out.on HU2.out)
     have HM3 := Lib.hid (HM2.out.keep HU2.out)
     have HRE3 := Lib.hid (HRE2.out.keep HU2.out)
     have HG3 := Lib.hid (grow_below HG2.out HU2.out)
     have HB3 := Lib.hid (HB2.out.trans (HU2.out.mono HB2.out.size))
     clear HX2 HM2 HRE2 HG2 HU0 HU1 HU2 HB2 KS7
     by_cases hcap : mc < x + s
     · have hd3 : decide (mc < x + s) = true := decide_eq_true hcap
       rw [hd3]
       have HEND : Hid (r = ((-1, 17), bs)) := by show r = _; rw [HPUT4.out, if_pos hcap]
       clear HPUT4 hcap
       go_wp2
       go_ret2
       exact gives_put HEND.out HM3.out HBS.out HG3.out
     · have hd3 : decide (mc < x + s) = false := decide_eq_false hcap
       rw [hd3]
       have hput5 := HPUT4.out
       rw [if_neg hcap] at hput5
       have HPUT5 := Lib.hid hput5
       clear hput5 HPUT4 hcap
       have KS9 : Hid (∀ W, Below w3.heap.size w3 W → (fun (W : World) => W.cell? ⟨X, 0, none⟩ = some (.int .i64 b0) ∧ W.cell? ⟨X, 1, none⟩ = some (.int .i64 b1) ∧ W.cell? ⟨X, 2, none⟩ = some (.int .i64 b2) ∧ W.cell? ⟨X, 3, none⟩ = some (.int .i64 b3) ∧ W.cell? ⟨X, 4, none⟩ = some (.bool b4) ∧ W.cell? ⟨X, 5, none⟩ = some (.int .i64 b5) ∧ W.cell? ⟨X, 6, none⟩ = some (.slice rd recs.length rc)) W) := by
        intro W hW
        have hX := HX3.out.on hW
        exact ⟨hX.c0, hX.c1, hX.c2, hX.c3, hX.c4, hX.c5, hX.c6⟩
       have hdrw : Below w3.heap.size w3 w3.drew := (Below.refl _ w3).drew
       have hwr : IntKind.i64.wrap (v + cnt) = v + cnt := IntWalk.i64_in _ (by omega)
       go_upto_region 9 with fail
       refine wp_region_noPanic ?_
       refine wp_region_z [] (fun (W : World) => W.cell? ⟨X, 0, none⟩ = some (.int .i64 b0) ∧ W.cell? ⟨X, 1, none⟩ = some (.int .i64 b1) ∧ W.cell? ⟨X, 2, none⟩ = some (.int .i64 b2) ∧ W.cell? ⟨X, 3, none⟩ = some (.int .i64 b3) ∧ W.cell? ⟨X, 4, none⟩ = some (.bool b4) ∧ W.cell? ⟨X, 5, none⟩ = some (.int .i64 b5) ∧ W.cell? ⟨X, 6, none⟩ = some (.slice rd recs.length rc)) (by kernel_rfl) ?_
       have hHeld : (fun (W : World) => W.cell? ⟨X, 0, none⟩ = some (.int .i64 b0) ∧ W.cell? ⟨X, 1, none⟩ = some (.int .i64 b1) ∧ W.cell? ⟨X, 2, none⟩ = some (.int .i64 b2) ∧ W.cell? ⟨X, 3, none⟩ = some (.int .i64 b3) ∧ W.cell? ⟨X, 4, none⟩ = some (.bool b4) ∧ W.cell? ⟨X, 5, none⟩ = some (.int .i64 b5) ∧ W.cell? ⟨X, 6, none⟩ = some (.slice rd recs.length rc)) _ := KS9.out _ hdrw
       obtain ⟨y0, hy0⟩ : ∃ u, u = w3.drew := ⟨_, rfl⟩
       rw [← hy0] at hHeld hdrw
       rw [← hy0]
       clear hy0
       have HY0 := Lib.hid hdrw
       clear hdrw
       refine zt 0 ?_
       refine zt 2 ?_
       refine zr 1 (fun C hC => ?_)
       go_simp
       refine (modEnd_any y0 km mc start ad len cap ms (HM3.out.box.on HY0.out) (HM3.out.bats.keep HY0.out) (by omega) (by rw [HBS.out]; exact HOK.out) v (by rw [HBS.out]; exact HV.out)).mono ?_
       rintro e y1 ⟨rfl, hbb⟩
       have HY1 := Lib.hid (HY0.out.trans (hbb.mono HY0.out.size))
       clear hbb
       go_wp2_with fail
       have hHeld : (fun (W : World) => W.cell? ⟨X, 0, none⟩ = some (.int .i64 b0) ∧ W.cell? ⟨X, 1, none⟩ = some (.int .i64 b1) ∧ W.cell? ⟨X, 2, none⟩ = some (.int .i64 b2) ∧ W.cell? ⟨X, 3, none⟩ = some (.int .i64 b3) ∧ W.cell? ⟨X, 4, none⟩ = some (.bool b4) ∧ W.cell? ⟨X, 5, none⟩ = some (.int .i64 b5) ∧ W.cell? ⟨X, 6, none⟩ = some (.slice rd recs.length rc)) y1 := KS9.out _ HY1.out
       refine zc hC hHeld ?_
       clear hC C
       refine zr 3 (fun C hC => ?_)
       go_simp
       refine (refCount_any y1 b0 b1 b2 b3 b4 b5 rd recs.length rc cnt HCNT.out).mono ?_
       rintro e y2 ⟨rfl, hbb⟩
       have HY2 := Lib.hid (HY1.out.trans (hbb.mono HY1.out.size))
       clear hbb
       go_wp2_with fail
       have hHeld : (fun (W : World) => W.cell? ⟨X, 0, none⟩ = some (.int .i64 b0) ∧ W.cell? ⟨X, 1, none⟩ = some (.int .i64 b1) ∧ W.cell? ⟨X, 2, none⟩ = some (.int .i64 b2) ∧ W.cell? ⟨X, 3, none⟩ = some (.int .i64 b3) ∧ W.cell? ⟨X, 4, none⟩ = some (.bool b4) ∧ W.cell? ⟨X, 5, none⟩ = some (.int .i64 b5) ∧ W.cell? ⟨X, 6, none⟩ = some (.slice rd recs.length rc)) y2 := KS9.out _ HY2.out
       refine zc hC hHeld ?_
       clear hC C
       refine zt 4 ?_
       refine zt 5 ?_
       refine wpAnyZ_done (by kernel_rfl) ?_ _
       refine NoPanic.normal ?_
       clear hHeld hwr
       obtain ⟨w4, hw4⟩ : ∃ w4, w4 = y2 := ⟨_, rfl⟩
       subst hw4
       have HX4 := Lib.hid (HX3.out.on HY2.out)
       have HM4 := Lib.hid (HM3.out.keep HY2.out)
       have HRE4 := Lib.hid (HRE3.out.keep HY2.out)
       have HG4 := Lib.hid (grow_below HG3.out HY2.out)
       have HB4 := Lib.hid (HB3.out.trans (HY2.out.mono HB3.out.size))
       clear HX3 HM3 HRE3 HG3 HY0 HY1 HY2 HB3 KS9
       by_cases hof : 1099511627776 < v + cnt
       · have hd4 : decide (1099511627776 < v + cnt) = true := decide_eq_true hof
         rw [hd4]
         have HEND : Hid (r = ((-1, 18), bs)) := by show r = _; rw [HPUT5.out, if_pos hof]
         clear HPUT5 hof
         go_wp2
         go_ret2
         exact gives_put HEND.out HM4.out HBS.out HG4.out
       · have hd4 : decide (1099511627776 < v + cnt) = false := decide_eq_false hof
         rw [hd4]
         have HEND : Hid (r = ((b0, 0), bs ++ [⟨b0, b1, b2, b3, b4, b5, recs⟩])) := by show r = _; rw [HPUT5.out, if_neg hof]
         clear HPUT5 hof
         have HVE : Hid (OwnRow recK (w4.alloc (.cells #[] 59)) w4.heap.size (.slice (some ⟨w4.heap.size, 0, none⟩) 0 0) []) := ownRow_lit recK_ok w4 _ [] (Nat.le_refl _) (by simp) _ rfl 0 rfl
         have HBE : Hid (Below w4.heap.size w4 (w4.alloc (.cells #[] 59))) := (Below.refl _ _).alloc (Nat.le_refl _) _
         have HRE5 := Lib.hid (recsAt_row.1 (HRE4.out.keep HBE.out))
         have p6 := (HX4.out.on HBE.out).c6
         go_wp2_with (at_builtin; refine list_row (by rfl) recK_ok (.tmp 46) (.tmp 48) rfl w4.heap.size [] recs _ rfl HVE.out HBE.out.size rd recs.length rc rfl HRE5.out (by rw [List.length_nil]; omega) ?_)
         intro v5 w5 hap
         obtain ⟨xd, xc, hv5, hxr, hxk⟩ := OwnRow.row recK_ok (l := recs) (n := recs.length) hap.1 rfl
         subst hv5
         have HB5 : Hid (Below w4.heap.size w4 w5) := HBE.out.grown hap.2.1 HBE.out.size fun q hq => (HVE.out.lt q hq).1
         have HX5 := Lib.hid (HX4.out.on HB5.out)
         have HM5 := Lib.hid (HM4.out.keep HB5.out)
         have HG5 := Lib.hid (grow_below HG4.out HB5.out)
         have HXR5 := Lib.hid hxr
         have HXK5 : Hid (∀ a, xd = some a → w.heap.size < a.block ∧ a.block < w5.heap.size) := fun a ha => by
          have h1 := hxk a ha
          have h2 := HX4.out.lt
          exact ⟨by omega, h1.2⟩
         clear hap hxr hxk HVE HBE HRE5 p6 HX4 HM4 HRE4 HG4
         have p6 := HX5.out.c6
         have f6 := HX5.out.free 6
         go_upto_region 12 with fail
         obtain ⟨W6, hW6⟩ : ∃ W6, W6 = w5.setCell ⟨X, 6, none⟩ (.slice xd recs.length xc) := ⟨_, rfl⟩
         have HX6 : Hid (BoxAt W6 X b0 b1 b2 b3 b4 b5 (.slice xd recs.length xc)) := by show BoxAt _ _ _ _ _ _ _ _ _; rw [hW6]; exact HX5.out.s6 _
         have HM6 : Hid (MOk W6 km mc start ad len cap ms) := by
          show MOk _ _ _ _ _ _ _ _
          rw [hW6]
          exact HM5.out.grown (grow_one w5 X 6 _) hXk.symm (fun a ha e => by have := HOW.out a ha; omega) (fun m hm a ha e => by have := HOI.out m hm a ha; omega)
         have HG6 : Hid (w.grownBy W6 (some km)) := by show World.grownBy _ _ _; rw [hW6]; exact grow_new HG5.out hXw _
         have HXR6 : Hid (RecsAt W6 xd recs.length xc recs) := by show RecsAt _ _ _ _ _; rw [hW6]; exact recsAt_row.2 (HXR5.out.off (fun a ha => by have := (HXK5.out a ha).1; have := HXE.out; omega) _ _)
         have HXK6 : Hid (∀ a, xd = some a → km < a.block ∧ a.block < W6.heap.size) := fun a ha => ⟨by have := (HXK5.out a ha).1; omega, by rw [hW6, size_set]; exact (HXK5.out a ha).2⟩
         rw [← hW6]
         clear hW6 HX5 HM5 HG5 HXR5 HXK5 p6 f6
         obtain ⟨mx, hmx⟩ : ∃ mx : BM, mx = ⟨⟨b0, b1, b2, b3, b4, b5, recs⟩, xd, xc⟩ := ⟨_, rfl⟩
         have HMX := Lib.hid hmx
         clear hmx
         have hml : ms.length = len := HM6.out.bats.row.length
         have hfits := HM6.out.bats.row.fits
         have KS : Hid (∀ W, Below W6.heap.size W6 W → (fun (W : World) => W.cell? ⟨km, 2, none⟩ = some (.slice ad len cap) ∧ W.cell? ⟨X, 0, none⟩ = some (.int .i64 b0) ∧ W.cell? ⟨X, 1, none⟩ = some (.int .i64 b1) ∧ W.cell? ⟨X, 2, none⟩ = some (.int .i64 b2) ∧ W.cell? ⟨X, 3, none⟩ = some (.int .i64 b3) ∧ W.cell? ⟨X, 4, none⟩ = some (.bool b4) ∧ W.cell? ⟨X, 5, none⟩ = some (.int .i64 b5) ∧ W.cell? ⟨X, 6, none⟩ = some (.slice xd recs.length xc)) W) := by
          intro W hW
          have hX := HX6.out.on hW
          exact ⟨(HM6.out.box.on hW).c2, hX.c0, hX.c1, hX.c2, hX.c3, hX.c4, hX.c5, hX.c6⟩
         have hdrw : Below W6.heap.size W6 W6.drew := (Below.refl _ W6).drew
         refine wp_region_noPanic ?_
         refine wp_region_z [12] (fun (W : World) => W.cell? ⟨km, 2, none⟩ = some (.slice ad len cap) ∧ W.cell? ⟨X, 0, none⟩ = some (.int .i64 b0) ∧ W.cell? ⟨X, 1, none⟩ = some (.int .i64 b1) ∧ W.cell? ⟨X, 2, none⟩ = some (.int .i64 b2) ∧ W.cell? ⟨X, 3, none⟩ = some (.int .i64 b3) ∧ W.cell? ⟨X, 4, none⟩ = some (.bool b4) ∧ W.cell? ⟨X, 5, none⟩ = some (.int .i64 b5) ∧ W.cell? ⟨X, 6, none⟩ = some (.slice xd recs.length xc)) (by kernel_rfl) ?_
         have hHeld := KS.out _ hdrw
         obtain ⟨u0, hu0⟩ : ∃ u, u = W6.drew := ⟨_, rfl⟩
         rw [← hu0] at hHeld hdrw
         rw [← hu0]
         clear hu0
         have HBu0 := Lib.hid hdrw
         clear hdrw
         refine zt 0 ?_
         refine zt 2 ?_
         refine zt 3 ?_
         refine zt 4 ?_
         refine zt 5 ?_
         refine zt 7 ?_
         refine wpAnyZ_ready (rs := [1, 8]) (by kernel_rfl) (by simp) ?_
         refine AllReadyZ.cons (o := ⟨_, _, _, _, _, _⟩) rfl (fun C hC => ?_) (AllReadyZ.cons (o := ⟨_, _, _, _, _, _⟩) rfl (fun C hC => ?_) AllReadyZ.nil)
         · skip
           go_simp
           obtain ⟨u1, hu1⟩ : ∃ u, u = u0.alloc (.cells #[] 52) := ⟨_, rfl⟩
           have hbb : Below u0.heap.size u0 u1 := by rw [hu1]; exact (Below.refl _ _).alloc (Nat.le_refl _) _
           have HBu1 := Lib.hid (HBu0.out.trans (hbb.mono HBu0.out.size))
           obtain ⟨gu1, hgu1⟩ : ∃ G, G = u0.heap.size := ⟨_, rfl⟩
           have HOu1 : Hid (OwnRow batK u1 W6.heap.size (.slice (some ⟨gu1, 0, none⟩) 0 0) []) := by show OwnRow _ _ _ _ _; rw [hu1, hgu1]; exact ownRow_lit batK_ok u0 _ [] HBu0.out.size (by simp) _ rfl 0 rfl
           rw [← hu1, ← hgu1]
           clear hu1 hgu1 hbb
           have hHeld := KS.out _ HBu1.out
           refine zc hC hHeld ?_
           clear hC C
           refine wpAnyZ_ready (rs := [6, 8]) (by kernel_rfl) (by simp) ?_
           refine AllReadyZ.cons (o := ⟨_, _, _, _, _, _⟩) rfl (fun C hC => ?_) (AllReadyZ.cons (o := ⟨_, _, _, _, _, _⟩) rfl (fun C hC => ?_) AllReadyZ.nil)
           · skip
             refine held_row (by rfl) batK_ok (.tmp 52) (.tmp 56) rfl W6.heap.size [] ms _ rfl HOu1.out HBu1.out.size ad len cap rfl (HM6.out.bats.row.keep HBu1.out) (by rw [List.length_nil]; omega) ?_
             rintro vu2 u2 hap
             have HBu2 : Hid (Below W6.heap.size W6 u2) := HBu1.out.grown hap.2.1 HBu1.out.size fun q hq => (HOu1.out.lt q hq).1
             have HOu2 : Hid (OwnRow batK u2 W6.heap.size vu2 ms) := hap.1
             clear hap
             have hHeld := KS.out _ HBu2.out
             refine zc hC hHeld ?_
             clear hC C
             refine zr 8 (fun C hC => ?_)
             go_simp
             obtain ⟨u3, hu3⟩ : ∃ u, u = u2.alloc (.cells #[.int .i64 b0, .int .i64 b1, .int .i64 b2, .int .i64 b3, .bool b4, .int .i64 b5, .slice xd recs.length xc] 52) := ⟨_, rfl⟩
             have hbb : Below u2.heap.size u2 u3 := by rw [hu3]; exact (Below.refl _ _).alloc (Nat.le_refl _) _
             have HBu3 := Lib.hid (HBu2.out.trans (hbb.mono HBu2.out.size))
             obtain ⟨gx, hgx⟩ : ∃ G, G = u2.heap.size := ⟨_, rfl⟩
             have HXu3 : Hid (RowAt batK u3 (some ⟨gx, 0, none⟩) 1 1 [mx]) := by show RowAt _ _ _ _ _ _; rw [hu3, hgx, HMX.out]; exact rowAt_lit batK_ok u2 [⟨⟨b0, b1, b2, b3, b4, b5, recs⟩, xd, xc⟩] (by simp) _ rfl 1 rfl
             have HOu3 := Lib.hid (HOu2.out.on hbb)
             have HNEu3 : ∀ a, (some (⟨gx, 0, none⟩ : Addr)) = some a → some a.block ≠ (vu2 : Value).ownBlock := by
              intro a ha e
              cases ha
              have h1 : gx < u2.heap.size := (HOu2.out.lt _ e.symm).2
              omega
             rw [← hu3, ← hgx]
             clear hu3 hgx hbb
             have hHeld := KS.out _ HBu3.out
             refine zc hC hHeld ?_
             clear hC C
             refine zr 9 (fun C hC => ?_)
             refine held_row (by rfl) batK_ok (.tmp 57) (.tmp 59) rfl W6.heap.size ms [mx] _ rfl HOu3.out HBu3.out.size (some ⟨gx, 0, none⟩) 1 1 rfl HXu3.out (by omega) ?_
             rintro vu4 u4 hap
             have HBu4 : Hid (Below W6.heap.size W6 u4) := HBu3.out.grown hap.2.1 HBu3.out.size fun q hq => (HOu3.out.lt q hq).1
             have HOu4 : Hid (OwnRow batK u4 W6.heap.size vu4 (ms ++ [mx])) := hap.1
             clear hap
             have hHeld := KS.out _ HBu4.out
             refine zc hC hHeld ?_
             clear hC C
             refine zt 10 ?_
             refine zt 11 ?_
             obtain ⟨g, capz, cur, hvz, hblk, hbg, hcs⟩ := OwnRow.block (n := len + 1) HOu4.out (by rw [List.length_append]; simp; omega) (by omega)
             subst hvz
             have t0 := (HM6.out.box.on HBu4.out).c2
             have t1 := (HM6.out.box.on HBu4.out).free 2
             refine zr 12 (fun C hC => ?_)
             go_simp
             refine hC.out _ _ (zfree_no (by kernel_rfl)) (fun _ => ?_)
             clear hC C
             (try simp only [Act.put, List.setIfInBounds_toArray, List.set_cons_zero, List.set_cons_succ])
             refine wpAnyZ_done (by kernel_rfl) ?_ _
             refine NoPanic.normal ?_
             obtain ⟨wz, hwz⟩ : ∃ wz, wz = u4.setCell ⟨km, 2, none⟩ (.slice (some ⟨g, 0, none⟩) (len + 1) capz) := ⟨_, rfl⟩
             have hkm6 := HM6.out.box.lt
             have HGz : Hid (W6.grownBy wz (some km)) := by show World.grownBy _ _ _; rw [hwz]; exact grow_set (grow_below (grow_refl W6 _) HBu4.out) 2 _
             have HOz : Hid (OwnRow batK wz W6.heap.size (.slice (some ⟨g, 0, none⟩) (len + 1) capz) (ms ++ [mx])) := by show OwnRow _ _ _ _ _; rw [hwz]; exact HOu4.out.off hkm6 _ _
             have HTBz : Hid (MBox wz km mc start (.slice (some ⟨g, 0, none⟩) (len + 1) capz)) := by show MBox _ _ _ _ _; rw [hwz]; exact (HM6.out.box.on HBu4.out).s2 _
             have p0 := (HX6.out.grown2 HGz.out hXk).c0
             try rw [← hwz]
             clear hwz t0 t1 hHeld
             go_wp2
             go_ret2
             obtain ⟨ad9, cap9, hv9, hr9, hk9⟩ := OwnRow.row batK_ok HOz.out (n := len + 1) (by rw [List.length_append]; simp; omega)
             cases hv9
             exact gives_put HEND.out (put_ok HM6.out HGz.out HTBz.out hr9 hk9 (by rw [HMX.out]; exact HXR6.out) (by rw [HMX.out]; exact HXK6.out)) (by unfold bats; rw [List.map_append]; show bats ms ++ [mx.b] = _; rw [HBS.out, HMX.out]) (grow_trans HG6.out HGz.out)
           · skip
             go_simp
             obtain ⟨u5, hu5⟩ : ∃ u, u = u1.alloc (.cells #[.int .i64 b0, .int .i64 b1, .int .i64 b2, .int .i64 b3, .bool b4, .int .i64 b5, .slice xd recs.length xc] 52) := ⟨_, rfl⟩
             have hbb : Below u1.heap.size u1 u5 := by rw [hu5]; exact (Below.refl _ _).alloc (Nat.le_refl _) _
             have HBu5 := Lib.hid (HBu1.out.trans (hbb.mono HBu1.out.size))
             obtain ⟨gx, hgx⟩ : ∃ G, G = u1.heap.size := ⟨_, rfl⟩
             have HXu5 : Hid (RowAt batK u5 (some ⟨gx, 0, none⟩) 1 1 [mx]) := by show RowAt _ _ _ _ _ _; rw [hu5, hgx, HMX.out]; exact rowAt_lit batK_ok u1 [⟨⟨b0, b1, b2, b3, b4, b5, recs⟩, xd, xc⟩] (by simp) _ rfl 1 rfl
             have HOu5 := Lib.hid (HOu1.out.on hbb)
             have HNEu5 : ∀ a, (some (⟨gx, 0, none⟩ : Addr)) = some a → some a.block ≠ (.slice (some ⟨gu1, 0, none⟩) 0 0 : Value).ownBlock := by
              intro a ha e
              cases ha
              have h1 : gx < u1.heap.size := (HOu1.out.lt _ e.symm).2
              omega
             rw [← hu5, ← hgx]
             clear hu5 hgx hbb
             have hHeld := KS.out _ HBu5.out
             refine zc hC hHeld ?_
             clear hC C
             refine zr 6 (fun C hC => ?_)
             refine held_row (by rfl) batK_ok (.tmp 52) (.tmp 56) rfl W6.heap.size [] ms _ rfl HOu5.out HBu5.out.size ad len cap rfl (HM6.out.bats.row.keep HBu5.out) (by rw [List.length_nil]; omega) ?_
             rintro vu6 u6 hap
             have HBu6 : Hid (Below W6.heap.size W6 u6) := HBu5.out.grown hap.2.1 HBu5.out.size fun q hq => (HOu5.out.lt q hq).1
             have HOu6 : Hid (OwnRow batK u6 W6.heap.size vu6 ms) := hap.1
             have HXu6 := Lib.hid (HXu5.out.grown hap.2.1 HNEu5)
             clear hap
             have hHeld := KS.out _ HBu6.out
             refine zc hC hHeld ?_
             clear hC C
             refine zr 9 (fun C hC => ?_)
             refine held_row (by rfl) batK_ok (.tmp 57) (.tmp 59) rfl W6.heap.size ms [mx] _ rfl HOu6.out HBu6.out.size (some ⟨gx, 0, none⟩) 1 1 rfl HXu6.out (by omega) ?_
             rintro vu7 u7 hap
             have HBu7 : Hid (Below W6.heap.size W6 u7) := HBu6.out.grown hap.2.1 HBu6.out.size fun q hq => (HOu6.out.lt q hq).1
             have HOu7 : Hid (OwnRow batK u7 W6.heap.size vu7 (ms ++ [mx])) := hap.1
             clear hap
             have hHeld := KS.out _ HBu7.out
             refine zc hC hHeld ?_
             clear hC C
             refine zt 10 ?_
             refine zt 11 ?_
             obtain ⟨g, capz, cur, hvz, hblk, hbg, hcs⟩ := OwnRow.block (n := len + 1) HOu7.out (by rw [List.length_append]; simp; omega) (by omega)
             subst hvz
             have t0 := (HM6.out.box.on HBu7.out).c2
             have t1 := (HM6.out.box.on HBu7.out).free 2
             refine zr 12 (fun C hC => ?_)
             go_simp
             refine hC.out _ _ (zfree_no (by kernel_rfl)) (fun _ => ?_)
             clear hC C
             (try simp only [Act.put, List.setIfInBounds_toArray, List.set_cons_zero, List.set_cons_succ])
             refine wpAnyZ_done (by kernel_rfl) ?_ _
             refine NoPanic.normal ?_
             obtain ⟨wz, hwz⟩ : ∃ wz, wz = u7.setCell ⟨km, 2, none⟩ (.slice (some ⟨g, 0, none⟩) (len + 1) capz) := ⟨_, rfl⟩
             have hkm6 := HM6.out.box.lt
             have HGz : Hid (W6.grownBy wz (some km)) := by show World.grownBy _ _ _; rw [hwz]; exact grow_set (grow_below (grow_refl W6 _) HBu7.out) 2 _
             have HOz : Hid (OwnRow batK wz W6.heap.size (.slice (some ⟨g, 0, none⟩) (len + 1) capz) (ms ++ [mx])) := by show OwnRow _ _ _ _ _; rw [hwz]; exact HOu7.out.off hkm6 _ _
             have HTBz : Hid (MBox wz km mc start (.slice (some ⟨g, 0, none⟩) (len + 1) capz)) := by show MBox _ _ _ _ _; rw [hwz]; exact (HM6.out.box.on HBu7.out).s2 _
             have p0 := (HX6.out.grown2 HGz.out hXk).c0
             try rw [← hwz]
             clear hwz t0 t1 hHeld
             go_wp2
             go_ret2
             obtain ⟨ad9, cap9, hv9, hr9, hk9⟩ := OwnRow.row batK_ok HOz.out (n := len + 1) (by rw [List.length_append]; simp; omega)
             cases hv9
             exact gives_put HEND.out (put_ok HM6.out HGz.out HTBz.out hr9 hk9 (by rw [HMX.out]; exact HXR6.out) (by rw [HMX.out]; exact HXK6.out)) (by unfold bats; rw [List.map_append]; show bats ms ++ [mx.b] = _; rw [HBS.out, HMX.out]) (grow_trans HG6.out HGz.out)
         · skip
           go_simp
           obtain ⟨u8, hu8⟩ : ∃ u, u = u0.alloc (.cells #[.int .i64 b0, .int .i64 b1, .int .i64 b2, .int .i64 b3, .bool b4, .int .i64 b5, .slice xd recs.length xc] 52) := ⟨_, rfl⟩
           have hbb : Below u0.heap.size u0 u8 := by rw [hu8]; exact (Below.refl _ _).alloc (Nat.le_refl _) _
           have HBu8 := Lib.hid (HBu0.out.trans (hbb.mono HBu0.out.size))
           obtain ⟨gx, hgx⟩ : ∃ G, G = u0.heap.size := ⟨_, rfl⟩
           have HXu8 : Hid (RowAt batK u8 (some ⟨gx, 0, none⟩) 1 1 [mx]) := by show RowAt _ _ _ _ _ _; rw [hu8, hgx, HMX.out]; exact rowAt_lit batK_ok u0 [⟨⟨b0, b1, b2, b3, b4, b5, recs⟩, xd, xc⟩] (by simp) _ rfl 1 rfl
           rw [← hu8, ← hgx]
           clear hu8 hgx hbb
           have hHeld := KS.out _ HBu8.out
           refine zc hC hHeld ?_
           clear hC C
           refine zr 1 (fun C hC => ?_)
           go_simp
           obtain ⟨u9, hu9⟩ : ∃ u, u = u8.alloc (.cells #[] 52) := ⟨_, rfl⟩
           have hbb : Below u8.heap.size u8 u9 := by rw [hu9]; exact (Below.refl _ _).alloc (Nat.le_refl _) _
           have HBu9 := Lib.hid (HBu8.out.trans (hbb.mono HBu8.out.size))
           obtain ⟨gu9, hgu9⟩ : ∃ G, G = u8.heap.size := ⟨_, rfl⟩
           have HOu9 : Hid (OwnRow batK u9 W6.heap.size (.slice (some ⟨gu9, 0, none⟩) 0 0) []) := by show OwnRow _ _ _ _ _; rw [hu9, hgu9]; exact ownRow_lit batK_ok u8 _ [] HBu8.out.size (by simp) _ rfl 0 rfl
           have HXu9 := Lib.hid (HXu8.out.keep hbb)
           have HNEu9 : ∀ a, (some (⟨gx, 0, none⟩ : Addr)) = some a → some a.block ≠ (Value.slice (some ⟨gu9, 0, none⟩) 0 0).ownBlock := by
            intro a ha e
            cases ha
            have h1 := HXu8.out.lt (by omega) _ rfl
            simp [Value.ownBlock] at e
            simp at h1
            omega
           rw [← hu9, ← hgu9]
           clear hu9 hgu9 hbb
           have hHeld := KS.out _ HBu9.out
           refine zc hC hHeld ?_
           clear hC C
           refine zr 6 (fun C hC => ?_)
           refine held_row (by rfl) batK_ok (.tmp 52) (.tmp 56) rfl W6.heap.size [] ms _ rfl HOu9.out HBu9.out.size ad len cap rfl (HM6.out.bats.row.keep HBu9.out) (by rw [List.length_nil]; omega) ?_
           rintro vu10 u10 hap
           have HBu10 : Hid (Below W6.heap.size W6 u10) := HBu9.out.grown hap.2.1 HBu9.out.size fun q hq => (HOu9.out.lt q hq).1
           have HOu10 : Hid (OwnRow batK u10 W6.heap.size vu10 ms) := hap.1
           have HXu10 := Lib.hid (HXu9.out.grown hap.2.1 HNEu9)
           clear hap
           have hHeld := KS.out _ HBu10.out
           refine zc hC hHeld ?_
           clear hC C
           refine zr 9 (fun C hC => ?_)
           refine held_row (by rfl) batK_ok (.tmp 57) (.tmp 59) rfl W6.heap.size ms [mx] _ rfl HOu10.out HBu10.out.size (some ⟨gx, 0, none⟩) 1 1 rfl HXu10.out (by omega) ?_
           rintro vu11 u11 hap
           have HBu11 : Hid (Below W6.heap.size W6 u11) := HBu10.out.grown hap.2.1 HBu10.out.size fun q hq => (HOu10.out.lt q hq).1
           have HOu11 : Hid (OwnRow batK u11 W6.heap.size vu11 (ms ++ [mx])) := hap.1
           clear hap
           have hHeld := KS.out _ HBu11.out
           refine zc hC hHeld ?_
           clear hC C
           refine zt 10 ?_
           refine zt 11 ?_
           obtain ⟨g, capz, cur, hvz, hblk, hbg, hcs⟩ := OwnRow.block (n := len + 1) HOu11.out (by rw [List.length_append]; simp; omega) (by omega)
           subst hvz
           have t0 := (HM6.out.box.on HBu11.out).c2
           have t1 := (HM6.out.box.on HBu11.out).free 2
           refine zr 12 (fun C hC => ?_)
           go_simp
           refine hC.out _ _ (zfree_no (by kernel_rfl)) (fun _ => ?_)
           clear hC C
           (try simp only [Act.put, List.setIfInBounds_toArray, List.set_cons_zero, List.set_cons_succ])
           refine wpAnyZ_done (by kernel_rfl) ?_ _
           refine NoPanic.normal ?_
           obtain ⟨wz, hwz⟩ : ∃ wz, wz = u11.setCell ⟨km, 2, none⟩ (.slice (some ⟨g, 0, none⟩) (len + 1) capz) := ⟨_, rfl⟩
           have hkm6 := HM6.out.box.lt
           have HGz : Hid (W6.grownBy wz (some km)) := by show World.grownBy _ _ _; rw [hwz]; exact grow_set (grow_below (grow_refl W6 _) HBu11.out) 2 _
           have HOz : Hid (OwnRow batK wz W6.heap.size (.slice (some ⟨g, 0, none⟩) (len + 1) capz) (ms ++ [mx])) := by show OwnRow _ _ _ _ _; rw [hwz]; exact HOu11.out.off hkm6 _ _
           have HTBz : Hid (MBox wz km mc start (.slice (some ⟨g, 0, none⟩) (len + 1) capz)) := by show MBox _ _ _ _ _; rw [hwz]; exact (HM6.out.box.on HBu11.out).s2 _
           have p0 := (HX6.out.grown2 HGz.out hXk).c0
           try rw [← hwz]
           clear hwz t0 t1 hHeld
           go_wp2
           go_ret2
           obtain ⟨ad9, cap9, hv9, hr9, hk9⟩ := OwnRow.row batK_ok HOz.out (n := len + 1) (by rw [List.length_append]; simp; omega)
           cases hv9
           exact gives_put HEND.out (put_ok HM6.out HGz.out HTBz.out hr9 hk9 (by rw [HMX.out]; exact HXR6.out) (by rw [HMX.out]; exact HXK6.out)) (by unfold bats; rw [List.map_append]; show bats ms ++ [mx.b] = _; rw [HBS.out, HMX.out]) (grow_trans HG6.out HGz.out)
 · have hd : (ce == 0) = false := beq_false_of_ne he
   have hdn : (ce != 0) = true := by unfold bne; rw [hd]; rfl
   have HEND : Hid (r = ((-1, ce), bs)) := by show r = _; rw [HPUT.out, if_pos he]
   clear HPUT he
   go_wp2
   go_ret2
   exact gives_put HEND.out HM2.out HBS.out HG2.out
end Go.Proofs.Ytipaebflkebdjaa
namespace Go.Proofs.Ytipaebflkebdjaa
open Go.RowKit
open Go.SeqMath
open Go.ProdMath
open Go.BatMath hiding AllB getD_lt take_all
set_option linter.unusedVariables false

theorem gives_put_below {w w1 w2 : World} {km : Nat} {mc start : Int} {r : (Int × Int) × List Bat} {e : Ending} (hb : Below w.heap.size w w1) (h : GivesPut w1 km mc start r e w2) : GivesPut w km mc start r e w2 := by
 obtain ⟨ad, len, cap, ms, he, hm, hbs, hg⟩ := h
 exact ⟨ad, len, cap, ms, he, hm, hbs, grow_trans (grow_below (grow_refl w _) hb) hg⟩
set_option maxRecDepth 100000 in
set_option maxHeartbeats 4000000 in
theorem produce_any (w : World) (km : Nat) (mc start : Int) (ad : Option Addr) (len cap : Nat) (ms : List BM) (h : MOk w km mc start ad len cap ms) (hL : len ≤ 99999) (hok : RowOk (bats ms)) (hend : 0 ≤ endD start (bats ms) ∧ endD start (bats ms) ≤ 1099511627792) (b0 b1 b2 b3 : Int) (b4 : Bool) (b5 : Int) (recs : List Rc) (rd : Option Addr) (rc : Nat) (hr : RecsAt w rd recs.length rc recs) (ht : TextsOk recs) (hrn : recs.length ≤ 140737488355328) (hwf : b1 ≤ 9223372036854775807) (r : (Int × Int) × List Bat) (hput : produceD mc start (bats ms) ⟨b0, b1, b2, b3, b4, b5, recs⟩ = r) :
 Calls Try.prog 26 #[.pointer (some ⟨km, 0, none⟩), .agg #[.int .i64 b0, .int .i64 b1, .int .i64 b2, .int .i64 b3, .bool b4, .int .i64 b5, .slice rd recs.length rc]] w (GivesPut w km mc start r) := by
 have hkm := h.box.lt
 have HOW : Hid (∀ a, ad = some a → a.block < w.heap.size) := fun a ha => (h.row a ha).2
 have HOI : Hid (∀ m ∈ ms, ∀ a, m.ad = some a → a.block < w.heap.size) := fun m hm a ha => (h.ins m hm a ha).2
 obtain ⟨W0, hW0⟩ : ∃ W0, W0 = w.alloc (.cells #[.int .i64 b0, .int .i64 b1, .int .i64 b2, .int .i64 b3, .bool b4, .int .i64 b5, .slice rd recs.length rc] 52) := ⟨_, rfl⟩
 have HB0 : Hid (Below w.heap.size w W0) := by show Below _ _ _; rw [hW0]; exact (Below.refl _ _).alloc (Nat.le_refl _) _
 have HX0 : Hid (BoxAt W0 w.heap.size b0 b1 b2 b3 b4 b5 (.slice rd recs.length rc)) := by show BoxAt _ _ _ _ _ _ _ _ _; rw [hW0]; exact boxAt_new w _ _ _ _ _ _ _
 have HM0 := Lib.hid (h.keep HB0.out)
 have HR := Lib.hid hr
 have HOK := Lib.hid hok
 have HTX := Lib.hid ht
 have HEND := Lib.hid hend
 have HW0 := Lib.hid hW0
 clear h hr hok hW0 ht hend
 obtain ⟨v, hv⟩ : ∃ v, endD start (bats ms) = v := ⟨_, rfl⟩
 obtain ⟨q, hq⟩ : ∃ q, rightE ⟨v, b1, b2, b3, b4, b5, recs⟩ = q := ⟨_, rfl⟩
 have hput2 : r = if q ≠ 0 then ((-1, q), bats ms) else if b5 ≠ 0 then ((-1, 16), bats ms) else putD mc start (bats ms) ⟨v, b1, b2, b3, b4, b5, recs⟩ := by
  rw [← hput]
  unfold produceD
  rw [hv]
  unfold Bat.at
  simp only
  rw [hq]
 have HPUT := Lib.hid hput2
 have HV := Lib.hid hv
 have HQ := Lib.hid hq
 clear hput hput2 hv hq
 obtain ⟨X, hX⟩ : ∃ X, X = w.heap.size := ⟨_, rfl⟩
 have hXw : w.heap.size ≤ X := by omega
 have hXk : km ≠ X := by omega
 have HXE := Lib.hid hX
 rw [← hX] at HX0
 go_enter Try.func26, Try.ntmps26
 go_upto_region 1 with fail
 rw [← HW0.out, ← hX]
 clear HW0 hX
 go_wp2_with fail
 refine (modEnd_any W0 km mc start ad len cap ms HM0.out.box HM0.out.bats (by omega) HOK.out v HV.out).mono ?_
 rintro e w1 ⟨rfl, hb1⟩
 have HX1 := Lib.hid (HX0.out.on hb1)
 have HM1 := Lib.hid (HM0.out.keep hb1)
 have HB1 := Lib.hid (HB0.out.trans (hb1.mono HB0.out.size))
 clear hb1 HX0 HM0 HB0
 have p0 := HX1.out.c0
 have f0 := HX1.out.free 0
 go_upto_region 2 with fail
 obtain ⟨w2, hw2⟩ : ∃ w2, w2 = w1.setCell ⟨X, 0, none⟩ (.int .i64 v) := ⟨_, rfl⟩
 have HX2 : Hid (BoxAt w2 X v b1 b2 b3 b4 b5 (.slice rd recs.length rc)) := by show BoxAt _ _ _ _ _ _ _ _ _; rw [hw2]; exact HX1.out.s0 v
 have HM2 : Hid (MOk w2 km mc start ad len cap ms) := by
  show MOk _ _ _ _ _ _ _ _
  rw [hw2]
  exact HM1.out.grown (grow_one w1 X 0 _) hXk.symm (fun a ha e => by have := HOW.out a ha; omega) (fun m hm a ha e => by have := HOI.out m hm a ha; omega)
 have HB2 : Hid (Below w.heap.size w w2) := by show Below _ _ _; rw [hw2]; exact HB1.out.setCell (by have := HXE.out; show w.heap.size ≤ X; omega) _
 have HRE2 := Lib.hid (HR.out.keep HB2.out)
 rw [← hw2]
 clear hw2 HX1 HM1 HB1 p0 f0
 have p0 := HX2.out.c0
 have p1 := HX2.out.c1
 have p2 := HX2.out.c2
 have p3 := HX2.out.c3
 have p4 := HX2.out.c4
 have p5 := HX2.out.c5
 have p6 := HX2.out.c6
 go_wp2_with fail
 have CR := refRight_any w2 ⟨v, b1, b2, b3, b4, b5, recs⟩ rd recs.length rc HRE2.out HTX.out hrn hwf
 rw [HQ.out] at CR
 refine CR.mono ?_
 clear CR
 rintro e w3 ⟨rfl, hb3⟩
 have HX3 := Lib.hid (HX2.out.on hb3)
 have HM3 := Lib.hid (HM2.out.keep hb3)
 have HRE3 := Lib.hid (HRE2.out.keep hb3)
 have HB3 := Lib.hid (HB2.out.trans (hb3.mono HB2.out.size))
 have HG3 : Hid (w.grownBy w3 (some km)) := grow_below (grow_refl w _) HB3.out
 clear hb3 HX2 HM2 HRE2 HB2 p0 p1 p2 p3 p4 p5 p6
 by_cases hz : q = 0
 · have hd : (q == 0) = true := by rw [hz]; rfl
   have hdn : (q != 0) = false := by rw [hz]; rfl
   by_cases hm : b5 = 0
   · have hd5 : (b5 == 0) = true := by rw [hm]; rfl
     have HPD : Hid (putD mc start (bats ms) ⟨v, b1, b2, b3, b4, b5, recs⟩ = r) := by show _ = _; rw [HPUT.out, if_neg (by simp [hz]), if_neg (by simp [hm])]
     clear HPUT hz hm
     have p0 := HX3.out.c0
     have p1 := HX3.out.c1
     have p2 := HX3.out.c2
     have p3 := HX3.out.c3
     have p4 := HX3.out.c4
     have p5 := HX3.out.c5
     have p6 := HX3.out.c6
     go_wp2_with fail
     refine (modPut_any w3 km mc start ad len cap ms HM3.out hL HOK.out HEND.out v b1 b2 b3 b4 b5 recs rd rc HRE3.out HTX.out hrn hwf r HPD.out).mono ?_
     intro e w4 hg
     have hg := gives_put_below HB3.out hg
     obtain ⟨ad', len', cap', ms', rfl, h2, h3, h4⟩ := hg
     have H2 := Lib.hid h2
     have H3 := Lib.hid h3
     have H4 := Lib.hid h4
     obtain ⟨⟨x, y⟩, rb⟩ := r
     clear h2 h3 h4 hg HPD
     simp only
     go_wp2
     go_ret2
     exact ⟨ad', len', cap', ms', rfl, H2.out, H3.out, H4.out⟩
   · have hd5 : (b5 == 0) = false := beq_false_of_ne hm
     have HE : Hid (r = ((-1, 16), bats ms)) := by show r = _; rw [HPUT.out, if_neg (by simp [hz]), if_pos hm]
     have p5 := HX3.out.c5
     clear HPUT hz hm
     go_wp2
     go_ret2
     exact gives_put HE.out HM3.out rfl HG3.out
 · have hd : (q == 0) = false := beq_false_of_ne hz
   have hdn : (q != 0) = true := by unfold bne; rw [hd]; rfl
   have HE : Hid (r = ((-1, q), bats ms)) := by show r = _; rw [HPUT.out, if_pos hz]
   clear HPUT hz
   go_wp2
   go_ret2
   exact gives_put HE.out HM3.out rfl HG3.out
set_option maxRecDepth 100000 in
set_option maxHeartbeats 4000000 in
theorem mark_any (w : World) (km : Nat) (mc start : Int) (ad : Option Addr) (len cap : Nat) (ms : List BM) (h : MOk w km mc start ad len cap ms) (hL : len ≤ 99999) (hok : RowOk (bats ms)) (hend : 0 ≤ endD start (bats ms) ∧ endD start (bats ms) ≤ 1099511627792) (p ep m : Int) (hp : p ≤ 9223372036854775807) (r : (Int × Int) × List Bat) (hput : markD mc start (bats ms) p ep m = r) :
 Calls Try.prog 25 #[.pointer (some ⟨km, 0, none⟩), .int .i64 p, .int .i64 ep, .int .i64 m] w (GivesPut w km mc start r) := by
 have HM := Lib.hid h
 have HOK := Lib.hid hok
 have HEND := Lib.hid hend
 obtain ⟨v, hv⟩ : ∃ v, endD start (bats ms) = v := ⟨_, rfl⟩
 have hput2 : r = if m = 0 then ((-1, 12), bats ms) else putD mc start (bats ms) ⟨v, p, ep, -1, true, m, []⟩ := by
  rw [← hput]
  unfold markD
  rw [hv]
 have HPUT := Lib.hid hput2
 have HV := Lib.hid hv
 clear h hok hend hput hput2 hv
 by_cases hm : m = 0
 · have hd : (m == 0) = true := by rw [hm]; rfl
   have HE : Hid (r = ((-1, 12), bats ms)) := by show r = _; rw [HPUT.out, if_pos hm]
   clear HPUT hm
   go_enter Try.func25, Try.ntmps25
   go_wp2
   go_ret2
   exact gives_put HE.out HM.out rfl (grow_refl w _)
 · have hd : (m == 0) = false := beq_false_of_ne hm
   have HPD : Hid (putD mc start (bats ms) ⟨v, p, ep, -1, true, m, []⟩ = r) := by show _ = _; rw [HPUT.out, if_neg hm]
   clear HPUT hm
   go_enter Try.func25, Try.ntmps25
   go_wp2_with fail
   refine (modEnd_any w km mc start ad len cap ms HM.out.box HM.out.bats (by omega) HOK.out v HV.out).mono ?_
   rintro e w1 ⟨rfl, hb1⟩
   have HM1 := Lib.hid (HM.out.keep hb1)
   have HB1 := Lib.hid hb1
   clear hb1
   go_wp2_with fail
   refine (modPut_any w1 km mc start ad len cap ms HM1.out hL HOK.out HEND.out v p ep (-1) true m [] none 0 (recsAt_nil _) (fun r hr => by cases hr) (by decide) hp r HPD.out).mono ?_
   intro e w4 hg
   have hg := gives_put_below HB1.out hg
   obtain ⟨ad', len', cap', ms', rfl, h2, h3, h4⟩ := hg
   have H2 := Lib.hid h2
   have H3 := Lib.hid h3
   have H4 := Lib.hid h4
   obtain ⟨⟨x, y⟩, rb⟩ := r
   clear h2 h3 h4 hg HPD
   simp only
   go_wp2
   go_ret2
   exact ⟨ad', len', cap', ms', rfl, H2.out, H3.out, H4.out⟩
def GivesPds (w : World) (l : List Pd) (e : Ending) (w' : World) : Prop :=
 ∃ ad len cap ps, e = .returned (.slice ad len cap) ∧ PdsAt w' ad len cap ps ∧ pds ps = l ∧ (∀ a, ad = some a → w.heap.size ≤ a.block) ∧ (∀ m ∈ ps, ∀ a, m.ad = some a → w.heap.size ≤ a.block) ∧ Below w.heap.size w w'
set_option maxRecDepth 100000 in
theorem producers_any (w : World) (km : Nat) (mc start : Int) (ad : Option Addr) (len cap : Nat) (ms : List BM) (h : MOk w km mc start ad len cap ms) (hL : len ≤ 99999) (hok : RowOk (bats ms)) :
 Calls Try.prog 45 #[.pointer (some ⟨km, 0, none⟩)] w (GivesPds w (foldP [] (bats ms))) := by
 have HM := Lib.hid h
 have HBO := Lib.hid (batsOk_of hok)
 have m2 := h.box.c2
 clear h hok
 go_enter Try.func45, Try.ntmps45
 go_wp2_with fail
 refine (fold_any w ad len cap ms HM.out.bats (by omega) HBO.out).mono ?_
 rintro e w1 ⟨kt, tad, tlen, tcap, ps, dd, dn, dc, rfl, htab, hps, _, hkt, hb1⟩
 have HKT := Lib.hid hkt
 have t0 := htab.tab.box.c0
 have HT := Lib.hid htab
 have HPS := Lib.hid hps
 have HB := Lib.hid hb1
 clear htab hps hb1 m2 hkt
 go_wp2
 go_ret
 exact ⟨tad, tlen, tcap, ps, rfl, HT.out.tab.pds, HPS.out, (fun a ha => by have := (HT.out.row a ha).1; have := HKT.out; omega), (fun m hm a ha => by have := (HT.out.ins m hm a ha).1; have := HKT.out; omega), HB.out⟩
end Go.Proofs.Ytipaebflkebdjaa
namespace Go.Proofs.Ytipaebflkebdjaa
open Go.RowKit
open Go.SeqMath
open Go.ProdMath
open Go.BatMath hiding AllB getD_lt take_all
set_option linter.unusedVariables false

/-- All but the batch under way. -/
structure AR (w1 : World) (kt : Nat) (ad : Option Addr) (len cap Z X : Nat) (pad : Option Addr) (plen pcap : Nat) (ps : List PM) (W : World) : Prop where
 tape : TapeT W kt ad len cap
 res : BoxAt W Z 0 0 0 0 false 0 (.slice none 0 0)
 pds : PdsAt W pad plen pcap ps
 gr : w1.grownBy W (some kt)
 row : ∀ a, pad = some a → X < a.block
 ins : ∀ m ∈ ps, ∀ a, m.ad = some a → X < a.block
 lt : kt < Z
 zx : Z < X
 x1 : w1.heap.size ≤ X
section
variable {w1 W W' : World} {kt len cap Z X plen pcap : Nat} {ad pad : Option Addr} {ps : List PM}
theorem AR.s (h : AR w1 kt ad len cap Z X pad plen pcap ps W) (j : Nat) (u : Value) : AR w1 kt ad len cap Z X pad plen pcap ps (W.setCell ⟨X, j, none⟩ u) := by
 have h1 := h.lt
 have h2 := h.zx
 refine ⟨h.tape.other (by omega) _, h.res.off (by omega) _, ⟨h.pds.row.off (fun a ha => by have := h.row a ha; omega) _ _, fun m hm => (h.pds.ins m hm).off (fun a ha => by have := h.ins m hm a ha; omega) _ _⟩, grow_new h.gr h.x1 _, h.row, h.ins, h.lt, h.zx, h.x1⟩
theorem AR.on (h : AR w1 kt ad len cap Z X pad plen pcap ps W) (hb : Below W.heap.size W W') : AR w1 kt ad len cap Z X pad plen pcap ps W' := by
 obtain ⟨i, ht⟩ := h.tape
 exact ⟨⟨i, ht.on hb⟩, h.res.on hb, h.pds.keep hb, grow_below h.gr hb, h.row, h.ins, h.lt, h.zx, h.x1⟩
theorem AR.next (h : AR w1 kt ad len cap Z X pad plen pcap ps W) (hg : W.grownBy W' (some kt)) (ht : TapeT W' kt ad len cap) : AR w1 kt ad len cap Z X pad plen pcap ps W' := by
 have h1 := h.lt
 have h2 := h.zx
 refine ⟨ht, h.res.grows hg (fun e => by have := Option.some.inj e; omega), ⟨h.pds.row.grown hg (fun a ha e => by have := h.row a ha; have := Option.some.inj e; omega), fun m hm => (h.pds.ins m hm).grown hg fun a ha e => by have := h.ins m hm a ha; have := Option.some.inj e; omega⟩, grow_trans h.gr hg, h.row, h.ins, h.lt, h.zx, h.x1⟩
end
def GivesAsk (w : World) (kt : Nat) (ad : Option Addr) (len cap : Nat) (e : Ending) (w' : World) : Prop :=
 ∃ b0 b1 b2 b3 b4 b5 recs rd rc, e = .returned (.agg #[.int .i64 b0, .int .i64 b1, .int .i64 b2, .int .i64 b3, .bool b4, .int .i64 b5, .slice rd (List.length recs) rc]) ∧ Hid (b1 ≤ 9223372036854775807) ∧ Hid (TextsOk recs) ∧ Hid (recs.length ≤ 16) ∧ Hid (RecsAt w' rd recs.length rc recs) ∧ Hid (TapeT w' kt ad len cap) ∧ Hid (w.grownBy w' (some kt)) ∧ Hid (∀ a, rd = some a → w.heap.size ≤ a.block)
theorem resultsAsk {tmps : Array Value} {B : Nat} {W : World} {b0 b1 b2 b3 : Int} {b4 : Bool} {b5 : Int} {v : Value} (h : BoxAt W B b0 b1 b2 b3 b4 b5 v) (ht : tmps.getD 4 undef = .pointer (some ⟨B, 0, none⟩)) :
 (results Try.f24 tmps).run Try.prog W = .ok (.agg #[.int .i64 b0, .int .i64 b1, .int .i64 b2, .int .i64 b3, .bool b4, .int .i64 b5, v]) W := by
 rw [results_cell_one (p := 4) (ty := 52) Try.results24, ht]
 have hl := run_loadVar_row (P := Try.prog) W B 52 52 _ (0, 0) _ h Try.underlying52 rfl (by kernel_rfl)
 simp only [asAddr, Sem.run_pure, Result.andThen, hl]
theorem gives_ask {w w1 W : World} {kt len cap Z : Nat} {ad : Option Addr} {b0 b1 b2 b3 : Int} {b4 : Bool} {b5 : Int} {recs : List Rc} {rd : Option Addr} {rc : Nat} {u0 u1 u2 u3 u4 u5 u6 : Value} (hw : w.grownBy W (some kt)) (hZ : w.heap.size ≤ Z) (hk : kt < Z) (ht : TapeT W kt ad len cap) (hp : b1 ≤ 9223372036854775807) (hx : TextsOk recs) (hn : recs.length ≤ 16) (hr : RecsAt W rd recs.length rc recs) (hb : ∀ a, rd = some a → Z < a.block) :
 GivesAsk w kt ad len cap (.returned (.agg #[.int .i64 b0, .int .i64 b1, .int .i64 b2, .int .i64 b3, .bool b4, .int .i64 b5, .slice rd recs.length rc])) (((((((W.setCell ⟨Z, 0, none⟩ u0).setCell ⟨Z, 1, none⟩ u1).setCell ⟨Z, 2, none⟩ u2).setCell ⟨Z, 3, none⟩ u3).setCell ⟨Z, 4, none⟩ u4).setCell ⟨Z, 5, none⟩ u5).setCell ⟨Z, 6, none⟩ u6) :=
 ⟨b0, b1, b2, b3, b4, b5, recs, rd, rc, rfl, hp, hx, hn, ((((((hr.put hb).put hb).put hb).put hb).put hb).put hb).put hb, ((((((ht.other hk _).other hk _).other hk _).other hk _).other hk _).other hk _).other hk _, grow_new (grow_new (grow_new (grow_new (grow_new (grow_new (grow_new hw hZ _) hZ _) hZ _) hZ _) hZ _) hZ _) hZ _, fun a ha => by have := hb a ha; omega⟩
set_option maxRecDepth 100000 in
set_option maxHeartbeats 8000000 in
theorem ask_any (w : World) (kt : Nat) (ad : Option Addr) (len cap i : Nat) (ht : TapeAt w kt ad len cap i) (km : Nat) (mc start : Int) (mad : Option Addr) (mlen mcap : Nat) (ms : List BM) (hm : MOk w km mc start mad mlen mcap ms) (hkm : kt < km) (hL : mlen ≤ 99999) (hok : RowOk (bats ms)) :
 Calls Try.prog 24 #[.pointer (some ⟨kt, 0, none⟩), .pointer (some ⟨km, 0, none⟩)] w (GivesAsk w kt ad len cap) := by
 have hktw := ht.lt
 obtain ⟨W0, hW0⟩ : ∃ W0, W0 = w.alloc (.cells #[.int .i64 0, .int .i64 0, .int .i64 0, .int .i64 0, .bool false, .int .i64 0, .slice none 0 0] 52) := ⟨_, rfl⟩
 have hb0 : Below w.heap.size w W0 := by rw [hW0]; exact (Below.refl _ _).alloc (Nat.le_refl _) _
 have HZ0 : Hid (BoxAt W0 w.heap.size 0 0 0 0 false 0 (.slice none 0 0)) := by show BoxAt _ _ _ _ _ _ _ _ _; rw [hW0]; exact boxAt_new w _ _ _ _ _ _ _
 have HT0 := Lib.hid (ht.on hb0)
 have HM0 := Lib.hid (hm.keep hb0)
 have HG0 : Hid (w.grownBy W0 (some kt)) := grow_below (grow_refl w _) hb0
 have hs0 : w.heap.size + 1 ≤ W0.heap.size := HZ0.out.lt
 have HOK := Lib.hid hok
 have HW0 := Lib.hid hW0
 clear ht hm hb0 hW0 hok
 obtain ⟨Z, hZ⟩ : ∃ Z, Z = w.heap.size := ⟨_, rfl⟩
 have hZw : w.heap.size ≤ Z := by omega
 have hkZ : kt < Z := by omega
 have hZ0 : Z + 1 ≤ W0.heap.size := by omega
 rw [← hZ] at HZ0
 go_enter Try.func24, Try.ntmps24
 go_upto_region 1 with fail
 rw [← HW0.out, ← hZ]
 clear HW0 hZ hs0
 go_wp2_with fail
 refine (tapeBatch_any W0 kt ad len cap i 0 HT0.out (by omega) (by omega)).mono ?_
 rintro e w1 ⟨b, rd, rc, rfl, hb00, hbr, hbw, hre, hrb, ht1, hg1⟩
 have hbo := ok_of hbr
 have hb1 := hbw.prod.2
 have h16 := hbo.recs
 have HTX := Lib.hid (texts_of hbo.texts)
 have HRE1 := Lib.hid hre
 have HRB : Hid (∀ a, rd = some a → Z < a.block ∧ a.block ≠ kt) := fun a ha => by have := hrb a ha; exact ⟨by omega, by omega⟩
 have HT1 := Lib.hid ht1
 have HG1 := Lib.hid (grow_trans HG0.out hg1)
 have HM1 := Lib.hid (HM0.out.grown hg1 (by omega) (fun a ha e => by have := (HM0.out.row a ha).1; omega) (fun m hm a ha e => by have := (HM0.out.ins m hm a ha).1; omega))
 have HZ1 := Lib.hid (HZ0.out.tape hg1 (by omega))
 have hs1 : Z + 1 ≤ w1.heap.size := Nat.le_trans hZ0 hg1.size
 clear hb00 hbr hbw hbo hre hrb ht1 hg1 HT0 HG0 HM0 HZ0
 obtain ⟨b0, b1, b2, b3, b4, b5, recs⟩ := b
 simp only at hb1 h16 HTX HRE1
 simp only
 go_upto_region 2 with fail
 obtain ⟨w2, hw2⟩ : ∃ w2, w2 = w1.alloc (.cells #[.int .i64 b0, .int .i64 b1, .int .i64 b2, .int .i64 b3, .bool b4, .int .i64 b5, .slice rd recs.length rc] 52) := ⟨_, rfl⟩
 have hb2 : Below w1.heap.size w1 w2 := by rw [hw2]; exact (Below.refl _ _).alloc (Nat.le_refl _) _
 obtain ⟨X, hX⟩ : ∃ X, X = w1.heap.size := ⟨_, rfl⟩
 have HX2 : Hid (BoxAt w2 X b0 b1 b2 b3 b4 b5 (.slice rd recs.length rc)) := by show BoxAt _ _ _ _ _ _ _ _ _; rw [hw2, hX]; exact boxAt_new w1 _ _ _ _ _ _ _
 have hZX : Z < X := by omega
 have hX1 : w1.heap.size ≤ X := by omega
 obtain ⟨i1, ht1⟩ := HT1.out
 have HT2 : Hid (TapeAt w2 kt ad len cap i1) := ht1.on hb2
 have HZ2 := Lib.hid (HZ1.out.on hb2)
 have HM2 := Lib.hid (HM1.out.keep hb2)
 have HG2 : Hid (w1.grownBy w2 (some kt)) := grow_below (grow_refl w1 _) hb2
 rw [← hw2, ← hX]
 clear hw2 hb2 hX HT1 HZ1 HM1 ht1
 have x1 := HX2.out.c1
 by_cases hp : b1 < 0
 · have hd : decide (b1 < 0) = true := decide_eq_true hp
   have HRE2 := Lib.hid (HRE1.out.tape HG2.out (fun a ha => (HRB.out a ha).2))
   clear x1 hp
   have x0 := HX2.out.c0
   have x1 := HX2.out.c1
   have x2 := HX2.out.c2
   have x3 := HX2.out.c3
   have x4 := HX2.out.c4
   have x5 := HX2.out.c5
   have x6 := HX2.out.c6
   have z0 := HZ2.out.c0
   have zf0 := HZ2.out.free 0
   have z1 := HZ2.out.c1
   have zf1 := HZ2.out.free 1
   have z2 := HZ2.out.c2
   have zf2 := HZ2.out.free 2
   have z3 := HZ2.out.c3
   have zf3 := HZ2.out.free 3
   have z4 := HZ2.out.c4
   have zf4 := HZ2.out.free 4
   have z5 := HZ2.out.c5
   have zf5 := HZ2.out.free 5
   have z6 := HZ2.out.c6
   have zf6 := HZ2.out.free 6
   go_wp2
   exact bodyPost_ret (resultsAsk (((((((HZ2.out.s0 b0).s1 b1).s2 b2).s3 b3).s4 b4).s5 b5).s6 (.slice rd recs.length rc)) rfl) rfl (gives_ask (w1 := w1) (grow_trans HG1.out HG2.out) hZw hkZ ⟨i1, HT2.out⟩ hb1 HTX.out h16 HRE2.out (fun a ha => (HRB.out a ha).1))
 · have hd : decide (b1 < 0) = false := decide_eq_false hp
   clear hp
   go_wp2_with fail
   refine (tapeNext_any w2 kt ad len cap i1 8 HT2.out (by omega) (by omega)).mono ?_
   rintro e w3 ⟨z, i3, rfl, hz0, hz1, ht3, hg3⟩
   have HT3 := Lib.hid ht3
   have HX3 := Lib.hid (HX2.out.tape hg3 (by omega))
   have HZ3 := Lib.hid (HZ2.out.tape hg3 (by omega))
   have HG3 := Lib.hid (grow_trans HG2.out hg3)
   have HM3 := Lib.hid (HM2.out.grown hg3 (by omega) (fun a ha e => by have := (HM2.out.row a ha).1; omega) (fun m hm a ha e => by have := (HM2.out.ins m hm a ha).1; omega))
   clear ht3 hg3 HT2 HX2 HZ2 HG2 HM2 x1
   by_cases hz : z = 0
   · have hd2 : (z == 0) = true := by rw [hz]; rfl
     have HRE3 := Lib.hid (HRE1.out.tape HG3.out (fun a ha => (HRB.out a ha).2))
     clear hz hz0 hz1
     have x0 := HX3.out.c0
     have x1 := HX3.out.c1
     have x2 := HX3.out.c2
     have x3 := HX3.out.c3
     have x4 := HX3.out.c4
     have x5 := HX3.out.c5
     have x6 := HX3.out.c6
     have z0 := HZ3.out.c0
     have zf0 := HZ3.out.free 0
     have z1 := HZ3.out.c1
     have zf1 := HZ3.out.free 1
     have z2 := HZ3.out.c2
     have zf2 := HZ3.out.free 2
     have z3 := HZ3.out.c3
     have zf3 := HZ3.out.free 3
     have z4 := HZ3.out.c4
     have zf4 := HZ3.out.free 4
     have z5 := HZ3.out.c5
     have zf5 := HZ3.out.free 5
     have z6 := HZ3.out.c6
     have zf6 := HZ3.out.free 6
     go_wp2
     exact bodyPost_ret (resultsAsk (((((((HZ3.out.s0 b0).s1 b1).s2 b2).s3 b3).s4 b4).s5 b5).s6 (.slice rd recs.length rc)) rfl) rfl (gives_ask (w1 := w1) (grow_trans HG1.out HG3.out) hZw hkZ ⟨i3, HT3.out⟩ hb1 HTX.out h16 HRE3.out (fun a ha => (HRB.out a ha).1))
   · have hd2 : (z == 0) = false := beq_false_of_ne hz
     clear hz hz0 hz1
     go_wp2_with fail
     refine (producers_any w3 km mc start mad mlen mcap ms HM3.out hL HOK.out).mono ?_
     rintro e w4 ⟨pad, plen, pcap, ps, rfl, hpd, hps, hpa, hpi, hb4⟩
     have hXlt := HX3.out.lt
     have HAR4 : Hid (AR w1 kt ad len cap Z X pad plen pcap ps w4) := ⟨⟨i3, HT3.out.on hb4⟩, HZ3.out.on hb4, hpd, grow_below HG3.out hb4, fun a ha => by have := hpa a ha; omega, fun m hm a ha => by have := hpi m hm a ha; omega, hkZ, hZX, hX1⟩
     have HX4 := Lib.hid (HX3.out.on hb4)
     have HFP : Hid (∀ m ∈ ps, m.p.last.length ≤ 5) := by
      intro m hm
      have h1 := foldP_few (l := []) (bats ms) (fun p hp => by cases hp)
      rw [← hps] at h1
      exact h1 m.p (List.mem_map_of_mem hm)
     have hpl : plen ≤ 100000 := by
      have h1 := foldP_len [] (bats ms)
      have h2 := hpd.row.length
      have h3 : (pds ps).length = ps.length := by unfold pds; rw [List.length_map]
      have h4 : (bats ms).length = mlen := by unfold bats; rw [List.length_map]; exact HM3.out.bats.row.length
      rw [← hps, h3] at h1
      simp at h1
      omega
     clear hpd hps hpa hpi hb4 hXlt HT3 HX3 HZ3 HG3 HM3
     go_wp2
     go_loopw [24] (fun v24 wr => ∃ j : Nat, v24 = .int .i64 (j : Int) ∧ j ≤ plen ∧ ∃ c2 c3 c4, AR w1 kt ad len cap Z X pad plen pcap ps wr ∧ BoxAt wr X b0 b1 c2 c3 c4 b5 (.slice rd recs.length rc)) (fun v24 _ => plen - (intOf v24).toNat)
     case atStart => exact ⟨0, rfl, Nat.zero_le _, b2, b3, b4, HAR4.out, HX4.out⟩
     case round =>
      obtain ⟨j, rfl, hj, c2, c3, c4, har, hxx⟩ := hrel
      have HAR := Lib.hid har
      have HX := Lib.hid hxx
      clear har hxx HAR4 HX4
      obtain ⟨wo, hwo⟩ : ∃ wo : World, wo = wr := ⟨_, rfl⟩
      subst hwo
      by_cases hlt : j < plen
      · have hd3 : decide (j < plen) = true := decide_eq_true hlt
        have hjl : (j : Int) < (plen : Int) := by omega
        obtain ⟨bk, off, m, rfl, hbk, hmm, hla, k0, k1, k2, k3⟩ := HAR.out.pds.get hlt
        have hmem := List.mem_of_getElem? hmm
        have hn5 := HFP.out m hmem
        have HLA := Lib.hid hla
        have HMA : Hid (∀ a, m.ad = some a → X < a.block) := HAR.out.ins m hmem
        clear hla hmm hmem hbk
        go_upto_region 7 with fail
        obtain ⟨w5, hw5⟩ : ∃ w5, w5 = wo.alloc (.cells #[.int .i64 m.p.id, .int .i64 m.p.epoch, .slice m.ad m.p.last.length m.cap, .int .i64 m.p.opn] 48) := ⟨_, rfl⟩
        have hb5 : Below wo.heap.size wo w5 := by rw [hw5]; exact (Below.refl _ _).alloc (Nat.le_refl _) _
        obtain ⟨P, hP⟩ : ∃ P, P = wo.heap.size := ⟨_, rfl⟩
        have hPX : X < P := by rw [hP]; exact HX.out.lt
        have HP5 : Hid (PBox w5 P m.p.id m.p.epoch (.slice m.ad m.p.last.length m.cap) m.p.opn) := by show PBox _ _ _ _ _ _; rw [hw5, hP]; exact pbox_new wo _ _ _ _
        have HAR5 := Lib.hid (HAR.out.on hb5)
        have HX5 := Lib.hid (HX.out.on hb5)
        have HLA5 := Lib.hid (HLA.out.keep hb5)
        rw [← hw5, ← hP]
        clear hw5 hb5 hP k0 k1 k2 k3 HAR HX HLA
        have q0 := HP5.out.c0
        have q1 := HP5.out.c1
        have q2 := HP5.out.c2
        have q3 := HP5.out.c3
        have x1 := HX5.out.c1
        have x2 := HX5.out.c2
        have x5 := HX5.out.c5
        have f2 := HX5.out.free 2
        by_cases hid : m.p.id = b1
        · have hd4 : (m.p.id == b1) = true := by rw [hid]; simp
          have hd4n : (m.p.id != b1) = false := by unfold bne; rw [hd4]; rfl
          clear hid
          go_upto_region 9 with fail
          obtain ⟨w6, hw6⟩ : ∃ w6, w6 = w5.setCell ⟨X, 2, none⟩ (.int .i64 m.p.epoch) := ⟨_, rfl⟩
          have HX6 : Hid (BoxAt w6 X b0 b1 m.p.epoch c3 c4 b5 (.slice rd recs.length rc)) := by show BoxAt _ _ _ _ _ _ _ _ _; rw [hw6]; exact HX5.out.s2 _
          have HAR6 : Hid (AR w1 kt ad len cap Z X (some ⟨bk, off, none⟩) plen pcap ps w6) := by show AR _ _ _ _ _ _ _ _ _ _ _ _; rw [hw6]; exact HAR5.out.s 2 _
          have HP6 : Hid (PBox w6 P m.p.id m.p.epoch (.slice m.ad m.p.last.length m.cap) m.p.opn) := by show PBox _ _ _ _ _ _; rw [hw6]; exact HP5.out.off (by omega) _
          have HLA6 : Hid (LastAt w6 m) := by show RowAt _ _ _ _ _ _; rw [hw6]; exact HLA5.out.off (fun a ha => by have := HMA.out a ha; omega) _ _
          rw [← hw6]
          clear hw6 HX5 HAR5 HP5 HLA5 q0 q1 q2 q3 x1 x2 x5 f2
          have x5 := HX6.out.c5
          by_cases hmk : b5 = 0
          · have hd5 : (b5 == 0) = true := by rw [hmk]; rfl
            clear hmk
            have x3 := HX6.out.c3
            have f3 := HX6.out.free 3
            go_upto_region 11 with fail
            obtain ⟨w7, hw7⟩ : ∃ w7, w7 = w6.setCell ⟨X, 3, none⟩ (.int .i64 0) := ⟨_, rfl⟩
            have HX7 : Hid (BoxAt w7 X b0 b1 m.p.epoch 0 c4 b5 (.slice rd recs.length rc)) := by show BoxAt _ _ _ _ _ _ _ _ _; rw [hw7]; exact HX6.out.s3 _
            have HAR7 : Hid (AR w1 kt ad len cap Z X (some ⟨bk, off, none⟩) plen pcap ps w7) := by show AR _ _ _ _ _ _ _ _ _ _ _ _; rw [hw7]; exact HAR6.out.s 3 _
            have HP7 : Hid (PBox w7 P m.p.id m.p.epoch (.slice m.ad m.p.last.length m.cap) m.p.opn) := by show PBox _ _ _ _ _ _; rw [hw7]; exact HP6.out.off (by omega) _
            have HLA7 : Hid (LastAt w7 m) := by show RowAt _ _ _ _ _ _; rw [hw7]; exact HLA6.out.off (fun a ha => by have := HMA.out a ha; omega) _ _
            rw [← hw7]
            clear hw7 HX6 HAR6 HP6 HLA6 x3 x5 f3
            obtain ⟨n, hn⟩ : ∃ n, m.p.last.length = n := ⟨_, rfl⟩
            rw [hn] at HP7 hn5
            have HN := Lib.hid hn
            clear hn
            have q2 := HP7.out.c2
            have q3 := HP7.out.c3
            go_upto_if 44 with (fail)
            go_cut [8] from 43 to 81 (fun s8 wx => s8 = .int .i64 (n : Int) ∧ ∃ y3, AR w1 kt ad len cap Z X (some ⟨bk, off, none⟩) plen pcap ps wx ∧ BoxAt wx X b0 b1 m.p.epoch y3 c4 b5 (.slice rd recs.length rc) ∧ PBox wx P m.p.id m.p.epoch (.slice m.ad n m.cap) m.p.opn ∧ LastAt wx m)
            case first =>
             by_cases h0 : n = 0
             · have hd6 : decide ((0 : Int) < (n : Int)) = false := decide_eq_false (by omega)
               have hd60 : decide (0 < n) = false := decide_eq_false (by omega)
               try rw [hd6]
               try rw [hd60]
               go_wp2
               go_meet
               case rel => exact ⟨rfl, _, HAR7.out, HX7.out, HP7.out, HLA7.out⟩
             · have hd6 : decide ((0 : Int) < (n : Int)) = true := decide_eq_true (by omega)
               have hd60 : decide (0 < n) = true := decide_eq_true (by omega)
               try rw [hd6]
               try rw [hd60]
               obtain ⟨bl, ol, y, hmad, _, _, _, y1, _⟩ := tr_get HLA7.out (i := n - 1) (by rw [HN.out]; omega)
               have x3 := HX7.out.c3
               have f3 := HX7.out.free 3
               have hi1 : (1 : Int) ≤ (n : Int) := by omega
               have hi2 : (n : Int) - 1 < (n : Int) := by omega
               have hi3 : ((n : Int) - 1).toNat = n - 1 := by omega
               have hw1 : wrap64 ((n : Int) - 1) = (n : Int) - 1 := by unfold wrap64; omega
               rw [hmad] at q2
               obtain ⟨z3, hz3⟩ : ∃ z3, bits .and .i64 (wrap64 (y.l + 1)) 2147483647 = z3 := ⟨_, rfl⟩
               go_wp2
               go_meet
               case rel => exact ⟨rfl, z3, HAR7.out.s 3 _, HX7.out.s3 z3, HP7.out.off (by omega) _, HLA7.out.off (fun a ha => by have := HMA.out a ha; omega) _ _⟩
            case rest =>
             obtain ⟨rfl, y3, har, hxx, hpp, hla⟩ := hcut
             have HAR8 := Lib.hid har
             have HX8 := Lib.hid hxx
             have HP8 := Lib.hid hpp
             have HLA8 := Lib.hid hla
             clear har hxx hpp hla HAR7 HX7 HP7 HLA7 q2 q3
             have q2 := HP8.out.c2
             have q3 := HP8.out.c3
             have x4 := HX8.out.c4
             have f4 := HX8.out.free 4
             by_cases hop : 0 ≤ m.p.opn
             · have hd7 : decide (0 ≤ m.p.opn) = true := decide_eq_true hop
               clear hop
               go_upto_region 16 with fail
               obtain ⟨w9, hw9⟩ : ∃ w9, w9 = wc.setCell ⟨X, 4, none⟩ (.bool true) := ⟨_, rfl⟩
               have HX9 : Hid (BoxAt w9 X b0 b1 m.p.epoch y3 true b5 (.slice rd recs.length rc)) := by show BoxAt _ _ _ _ _ _ _ _ _; rw [hw9]; exact HX8.out.s4 _
               have HAR9 : Hid (AR w1 kt ad len cap Z X (some ⟨bk, off, none⟩) plen pcap ps w9) := by show AR _ _ _ _ _ _ _ _ _ _ _ _; rw [hw9]; exact HAR8.out.s 4 _
               have HP9 : Hid (PBox w9 P m.p.id m.p.epoch (.slice m.ad n m.cap) m.p.opn) := by show PBox _ _ _ _ _ _; rw [hw9]; exact HP8.out.off (by omega) _
               have HLA9 : Hid (LastAt w9 m) := by show RowAt _ _ _ _ _ _; rw [hw9]; exact HLA8.out.off (fun a ha => by have := HMA.out a ha; omega) _ _
               rw [← hw9]
               clear hw9 HX8 HAR8 HP8 HLA8 q2 q3 x4 f4
               by_cases h0 : n = 0
               · have hd6 : decide ((0 : Int) < (n : Int)) = false := decide_eq_false (by omega)
                 have hd60 : decide (0 < n) = false := decide_eq_false (by omega)
                 go_wp2
                 go_roundw
                 case rel => exact ⟨j + 1, by go_num, by omega, _, _, _, HAR9.out, HX9.out⟩
                 case measure => simp [intOf]; omega
               · have hd6 : decide ((0 : Int) < (n : Int)) = true := decide_eq_true (by omega)
                 have hd60 : decide (0 < n) = true := decide_eq_true (by omega)
                 obtain ⟨i9, ht9⟩ := HAR9.out.tape
                 have HT9 := Lib.hid ht9
                 clear ht9
                 go_wp2_with fail
                 refine (tapeNext_any w9 kt ad len cap i9 7 HT9.out (by omega) (by omega)).mono ?_
                 rintro e w10 ⟨z7, i10, rfl, hz70, hz71, ht10, hg10⟩
                 have HT10 := Lib.hid ht10
                 have HAR10 := Lib.hid (HAR9.out.next hg10 ⟨i10, ht10⟩)
                 have HX10 := Lib.hid (HX9.out.grows hg10 (fun e => by have := Option.some.inj e; omega))
                 have HP10 := Lib.hid (HP9.out.grown hg10 (fun e => by have := Option.some.inj e; omega))
                 have HLA10 : Hid (LastAt w10 m) := HLA9.out.grown hg10 (fun a ha e => by have := HMA.out a ha; have := Option.some.inj e; omega)
                 clear ht10 hg10 HT9 HAR9 HX9 HP9 HLA9
                 by_cases hz7 : z7 = 0
                 · have hd8 : (z7 == 0) = true := by rw [hz7]; rfl
                   clear hz7 hz70 hz71
                   have KS : Hid (∀ W, PBox W P m.p.id m.p.epoch (.slice m.ad n m.cap) m.p.opn → (fun (W : World) => W.cell? ⟨P, 2, none⟩ = some (.slice m.ad n m.cap)) W) := fun W hW => hW.c2
                   go_upto_region 17 with fail
                   have hPd : PBox w10.drew P m.p.id m.p.epoch (.slice m.ad n m.cap) m.p.opn := HP10.out.on ((Below.refl _ w10).drew)
                   refine wp_region_noPanic ?_
                   refine wp_region_z [9] (fun (W : World) => W.cell? ⟨P, 2, none⟩ = some (.slice m.ad n m.cap)) (by kernel_rfl) ?_
                   have hHeld := KS.out _ hPd
                   obtain ⟨u0, hu0⟩ : ∃ u, u = w10.drew := ⟨_, rfl⟩
                   have HBu0 : Hid (Below w10.heap.size w10 u0) := by show Below _ _ _; rw [hu0]; exact (Below.refl _ w10).drew
                   rw [← hu0] at hHeld hPd
                   rw [← hu0]
                   clear hu0
                   have HTu0 := Lib.hid (HT10.out.on HBu0.out)
                   have HARu0 := Lib.hid (HAR10.out.on HBu0.out)
                   have HXu0 := Lib.hid (HX10.out.on HBu0.out)
                   have HLAu0 : Hid (LastAt u0 m) := HLA10.out.keep HBu0.out
                   refine zt 0 ?_
                   refine zt 1 ?_
                   refine zt 2 ?_
                   refine zt 3 ?_
                   refine zr 4 (fun C hC => ?_)
                   go_simp
                   refine (tapeNext_any u0 kt ad len cap i10 (n : Int) HTu0.out (by omega) (by omega)).mono ?_
                   rintro e u1 ⟨vv, i11, rfl, hv0, hv1, ht11, hg11⟩
                   have hPd1 := hPd.grown hg11 (fun e => by have := Option.some.inj e; omega)
                   have HX11 := Lib.hid (HXu0.out.grows hg11 (fun e => by have := Option.some.inj e; omega))
                   have HAR11 := Lib.hid (HARu0.out.next hg11 ⟨i11, ht11⟩)
                   have HLA11 : Hid (LastAt u1 m) := HLAu0.out.grown hg11 (fun a ha e => by have := HMA.out a ha; have := Option.some.inj e; omega)
                   obtain ⟨k, rfl⟩ : ∃ k : Nat, vv = (k : Int) := ⟨vv.toNat, by omega⟩
                   clear ht11 hg11 hPd
                   have hkn : k < n := by omega
                   go_wp2_with fail
                   have hHeld := KS.out _ hPd1
                   refine zc hC hHeld ?_
                   clear hC C
                   obtain ⟨bl, ol, y, hmad, _, _, y0, _, _⟩ := tr_get HLA11.out (i := k) (by rw [HN.out]; omega)
                   refine wpAnyZ_strengthen (S' := (fun (W : World) => W.cell? ⟨P, 2, none⟩ = some (.slice m.ad n m.cap) ∧ W.cell? ⟨bl, ol + k * 3, none⟩ = some (.int .i64 y.f))) (fun W h => h.1) _ _ _ _ ?_
                   have hHeld2 : (fun (W : World) => W.cell? ⟨P, 2, none⟩ = some (.slice m.ad n m.cap) ∧ W.cell? ⟨bl, ol + k * 3, none⟩ = some (.int .i64 y.f)) u1 := ⟨hHeld, y0⟩
                   clear hHeld
                   have hHeld := hHeld2
                   clear hHeld2 y0
                   rw [hmad] at hHeld ⊢
                   refine zt 5 ?_
                   refine zt 6 ?_
                   refine zt 7 ?_
                   refine zt 8 ?_
                   have x3 := HX11.out.c3
                   have f3 := HX11.out.free 3
                   refine zr 9 (fun C hC => ?_)
                   go_simp
                   refine hC.out _ _ (zfree_no (by kernel_rfl)) (fun _ => ?_)
                   clear hC C
                   (try simp only [Act.put, List.setIfInBounds_toArray, List.set_cons_zero, List.set_cons_succ])
                   refine wpAnyZ_done (by kernel_rfl) ?_ _
                   refine NoPanic.normal ?_
                   obtain ⟨w12, hw12⟩ : ∃ w12, w12 = u1.setCell ⟨X, 3, none⟩ (.int .i64 y.f) := ⟨_, rfl⟩
                   have HX12 : Hid (BoxAt w12 X b0 b1 m.p.epoch y.f true b5 (.slice rd recs.length rc)) := by show BoxAt _ _ _ _ _ _ _ _ _; rw [hw12]; exact HX11.out.s3 _
                   have HAR12 : Hid (AR w1 kt ad len cap Z X (some ⟨bk, off, none⟩) plen pcap ps w12) := by show AR _ _ _ _ _ _ _ _ _ _ _ _; rw [hw12]; exact HAR11.out.s 3 _
                   try rw [← hw12]
                   clear hw12 hHeld
                   go_wp2
                   go_roundw
                   case rel => exact ⟨j + 1, by go_num, by omega, _, _, _, HAR12.out, HX12.out⟩
                   case measure => simp [intOf]; omega
                 · have hd8 : (z7 == 0) = false := beq_false_of_ne hz7
                   clear hz7 hz70 hz71
                   go_wp2
                   go_roundw
                   case rel => exact ⟨j + 1, by go_num, by omega, _, _, _, HAR10.out, HX10.out⟩
                   case measure => simp [intOf]; omega
             · have hd7 : decide (0 ≤ m.p.opn) = false := decide_eq_false hop
               clear hop
               go_upto_region 16 with fail
               obtain ⟨w9, hw9⟩ : ∃ w9, w9 = wc.setCell ⟨X, 4, none⟩ (.bool c4) := ⟨_, rfl⟩
               have HX9 : Hid (BoxAt w9 X b0 b1 m.p.epoch y3 c4 b5 (.slice rd recs.length rc)) := by show BoxAt _ _ _ _ _ _ _ _ _; rw [hw9]; exact HX8.out.s4 _
               have HAR9 : Hid (AR w1 kt ad len cap Z X (some ⟨bk, off, none⟩) plen pcap ps w9) := by show AR _ _ _ _ _ _ _ _ _ _ _ _; rw [hw9]; exact HAR8.out.s 4 _
               have HP9 : Hid (PBox w9 P m.p.id m.p.epoch (.slice m.ad n m.cap) m.p.opn) := by show PBox _ _ _ _ _ _; rw [hw9]; exact HP8.out.off (by omega) _
               have HLA9 : Hid (LastAt w9 m) := by show RowAt _ _ _ _ _ _; rw [hw9]; exact HLA8.out.off (fun a ha => by have := HMA.out a ha; omega) _ _
               rw [← hw9]
               clear hw9 HX8 HAR8 HP8 HLA8 q2 q3 x4 f4
               by_cases h0 : n = 0
               · have hd6 : decide ((0 : Int) < (n : Int)) = false := decide_eq_false (by omega)
                 have hd60 : decide (0 < n) = false := decide_eq_false (by omega)
                 go_wp2
                 go_roundw
                 case rel => exact ⟨j + 1, by go_num, by omega, _, _, _, HAR9.out, HX9.out⟩
                 case measure => simp [intOf]; omega
               · have hd6 : decide ((0 : Int) < (n : Int)) = true := decide_eq_true (by omega)
                 have hd60 : decide (0 < n) = true := decide_eq_true (by omega)
                 obtain ⟨i9, ht9⟩ := HAR9.out.tape
                 have HT9 := Lib.hid ht9
                 clear ht9
                 go_wp2_with fail
                 refine (tapeNext_any w9 kt ad len cap i9 7 HT9.out (by omega) (by omega)).mono ?_
                 rintro e w10 ⟨z7, i10, rfl, hz70, hz71, ht10, hg10⟩
                 have HT10 := Lib.hid ht10
                 have HAR10 := Lib.hid (HAR9.out.next hg10 ⟨i10, ht10⟩)
                 have HX10 := Lib.hid (HX9.out.grows hg10 (fun e => by have := Option.some.inj e; omega))
                 have HP10 := Lib.hid (HP9.out.grown hg10 (fun e => by have := Option.some.inj e; omega))
                 have HLA10 : Hid (LastAt w10 m) := HLA9.out.grown hg10 (fun a ha e => by have := HMA.out a ha; have := Option.some.inj e; omega)
                 clear ht10 hg10 HT9 HAR9 HX9 HP9 HLA9
                 by_cases hz7 : z7 = 0
                 · have hd8 : (z7 == 0) = true := by rw [hz7]; rfl
                   clear hz7 hz70 hz71
                   have KS : Hid (∀ W, PBox W P m.p.id m.p.epoch (.slice m.ad n m.cap) m.p.opn → (fun (W : World) => W.cell? ⟨P, 2, none⟩ = some (.slice m.ad n m.cap)) W) := fun W hW => hW.c2
                   go_upto_region 17 with fail
                   have hPd : PBox w10.drew P m.p.id m.p.epoch (.slice m.ad n m.cap) m.p.opn := HP10.out.on ((Below.refl _ w10).drew)
                   refine wp_region_noPanic ?_
                   refine wp_region_z [9] (fun (W : World) => W.cell? ⟨P, 2, none⟩ = some (.slice m.ad n m.cap)) (by kernel_rfl) ?_
                   have hHeld := KS.out _ hPd
                   obtain ⟨u0, hu0⟩ : ∃ u, u = w10.drew := ⟨_, rfl⟩
                   have HBu0 : Hid (Below w10.heap.size w10 u0) := by show Below _ _ _; rw [hu0]; exact (Below.refl _ w10).drew
                   rw [← hu0] at hHeld hPd
                   rw [← hu0]
                   clear hu0
                   have HTu0 := Lib.hid (HT10.out.on HBu0.out)
                   have HARu0 := Lib.hid (HAR10.out.on HBu0.out)
                   have HXu0 := Lib.hid (HX10.out.on HBu0.out)
                   have HLAu0 : Hid (LastAt u0 m) := HLA10.out.keep HBu0.out
                   refine zt 0 ?_
                   refine zt 1 ?_
                   refine zt 2 ?_
                   refine zt 3 ?_
                   refine zr 4 (fun C hC => ?_)
                   go_simp
                   refine (tapeNext_any u0 kt ad len cap i10 (n : Int) HTu0.out (by omega) (by omega)).mono ?_
                   rintro e u1 ⟨vv, i11, rfl, hv0, hv1, ht11, hg11⟩
                   have hPd1 := hPd.grown hg11 (fun e => by have := Option.some.inj e; omega)
                   have HX11 := Lib.hid (HXu0.out.grows hg11 (fun e => by have := Option.some.inj e; omega))
                   have HAR11 := Lib.hid (HARu0.out.next hg11 ⟨i11, ht11⟩)
                   have HLA11 : Hid (LastAt u1 m) := HLAu0.out.grown hg11 (fun a ha e => by have := HMA.out a ha; have := Option.some.inj e; omega)
                   obtain ⟨k, rfl⟩ : ∃ k : Nat, vv = (k : Int) := ⟨vv.toNat, by omega⟩
                   clear ht11 hg11 hPd
                   have hkn : k < n := by omega
                   go_wp2_with fail
                   have hHeld := KS.out _ hPd1
                   refine zc hC hHeld ?_
                   clear hC C
                   obtain ⟨bl, ol, y, hmad, _, _, y0, _, _⟩ := tr_get HLA11.out (i := k) (by rw [HN.out]; omega)
                   refine wpAnyZ_strengthen (S' := (fun (W : World) => W.cell? ⟨P, 2, none⟩ = some (.slice m.ad n m.cap) ∧ W.cell? ⟨bl, ol + k * 3, none⟩ = some (.int .i64 y.f))) (fun W h => h.1) _ _ _ _ ?_
                   have hHeld2 : (fun (W : World) => W.cell? ⟨P, 2, none⟩ = some (.slice m.ad n m.cap) ∧ W.cell? ⟨bl, ol + k * 3, none⟩ = some (.int .i64 y.f)) u1 := ⟨hHeld, y0⟩
                   clear hHeld
                   have hHeld := hHeld2
                   clear hHeld2 y0
                   rw [hmad] at hHeld ⊢
                   refine zt 5 ?_
                   refine zt 6 ?_
                   refine zt 7 ?_
                   refine zt 8 ?_
                   have x3 := HX11.out.c3
                   have f3 := HX11.out.free 3
                   refine zr 9 (fun C hC => ?_)
                   go_simp
                   refine hC.out _ _ (zfree_no (by kernel_rfl)) (fun _ => ?_)
                   clear hC C
                   (try simp only [Act.put, List.setIfInBounds_toArray, List.set_cons_zero, List.set_cons_succ])
                   refine wpAnyZ_done (by kernel_rfl) ?_ _
                   refine NoPanic.normal ?_
                   obtain ⟨w12, hw12⟩ : ∃ w12, w12 = u1.setCell ⟨X, 3, none⟩ (.int .i64 y.f) := ⟨_, rfl⟩
                   have HX12 : Hid (BoxAt w12 X b0 b1 m.p.epoch y.f c4 b5 (.slice rd recs.length rc)) := by show BoxAt _ _ _ _ _ _ _ _ _; rw [hw12]; exact HX11.out.s3 _
                   have HAR12 : Hid (AR w1 kt ad len cap Z X (some ⟨bk, off, none⟩) plen pcap ps w12) := by show AR _ _ _ _ _ _ _ _ _ _ _ _; rw [hw12]; exact HAR11.out.s 3 _
                   try rw [← hw12]
                   clear hw12 hHeld
                   go_wp2
                   go_roundw
                   case rel => exact ⟨j + 1, by go_num, by omega, _, _, _, HAR12.out, HX12.out⟩
                   case measure => simp [intOf]; omega
                 · have hd8 : (z7 == 0) = false := beq_false_of_ne hz7
                   clear hz7 hz70 hz71
                   go_wp2
                   go_roundw
                   case rel => exact ⟨j + 1, by go_num, by omega, _, _, _, HAR10.out, HX10.out⟩
                   case measure => simp [intOf]; omega
          · have hd5 : (b5 == 0) = false := beq_false_of_ne hmk
            clear hmk
            go_wp2
            go_roundw
            case rel => exact ⟨j + 1, by go_num, by omega, _, _, _, HAR6.out, HX6.out⟩
            case measure => simp [intOf]; omega
        · have hd4 : (m.p.id == b1) = false := beq_false_of_ne hid
          have hd4n : (m.p.id != b1) = true := by unfold bne; rw [hd4]; rfl
          clear hid
          go_wp2
          go_roundw
          case rel => exact ⟨j + 1, by go_num, by omega, _, _, _, HAR5.out, HX5.out⟩
          case measure => simp [intOf]; omega
      · have hd3 : decide (j < plen) = false := decide_eq_false hlt
        have HRE9 := Lib.hid (HRE1.out.tape HAR.out.gr (fun a ha => (HRB.out a ha).2))
        have HT9 := Lib.hid HAR.out.tape
        have HG9 := Lib.hid HAR.out.gr
        have HZ9 := Lib.hid HAR.out.res
        have x0 := HX.out.c0
        have x1 := HX.out.c1
        have x2 := HX.out.c2
        have x3 := HX.out.c3
        have x4 := HX.out.c4
        have x5 := HX.out.c5
        have x6 := HX.out.c6
        have z0 := HZ9.out.c0
        have zf0 := HZ9.out.free 0
        have z1 := HZ9.out.c1
        have zf1 := HZ9.out.free 1
        have z2 := HZ9.out.c2
        have zf2 := HZ9.out.free 2
        have z3 := HZ9.out.c3
        have zf3 := HZ9.out.free 3
        have z4 := HZ9.out.c4
        have zf4 := HZ9.out.free 4
        have z5 := HZ9.out.c5
        have zf5 := HZ9.out.free 5
        have z6 := HZ9.out.c6
        have zf6 := HZ9.out.free 6
        go_wp2
        exact bodyPost_ret (resultsAsk (((((((HZ9.out.s0 b0).s1 b1).s2 c2).s3 c3).s4 c4).s5 b5).s6 (.slice rd recs.length rc)) rfl) rfl (gives_ask (w1 := w1) (grow_trans HG1.out HG9.out) hZw hkZ HT9.out hb1 HTX.out h16 HRE9.out (fun a ha => (HRB.out a ha).1))
end Go.Proofs.Ytipaebflkebdjaa
namespace Go.Proofs.Ytipaebflkebdjaa
open Go.RowKit
open Go.SeqMath
open Go.BatMath hiding AllB getD_lt take_all
open Go.VarMath (longB length_longB)
set_option linter.unusedVariables false

/-- A tape that is made of a slice of numbers. -/
theorem tape_new {w : World} {ad : Option Addr} {len cap : Nat} {zs : List Int} (h : Nums w ad len zs) (hL : len ≤ 140737488355328) : TapeAt (w.alloc (.cells #[.slice ad len cap, .int .i64 0] 65)) w.heap.size ad len cap 0 := by
 refine ⟨heap_alloc_new w _, Nat.zero_le _, hL, fun j hj => ?_⟩
 rcases h.cells with h0 | ⟨b, off, e, hc⟩
 · omega
 · have hcj := hc j hj
   have hb := World.block_lt_of_cell? w _ hcj
   refine ⟨b, off, zs.getD j 0, e, hb, ?_, ?_⟩
   · rw [((Below.refl w.heap.size w).alloc (Nat.le_refl _) _).cell (p := ⟨b, off + j, none⟩) hb]
     exact hcj
   · have hl := h.length
     rw [List.getD_eq_getElem?_getD, List.getElem?_eq_getElem (by omega)]
     exact h.all _ (List.getElem_mem _)
end Go.Proofs.Ytipaebflkebdjaa
