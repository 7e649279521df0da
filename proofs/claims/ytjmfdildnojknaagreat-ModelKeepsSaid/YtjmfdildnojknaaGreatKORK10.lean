/- Parts of a proof. -/
import Derived.Test.YtjmfdildnojknaaGreatKORK9
set_option maxRecDepth 100000
set_option maxHeartbeats 16000000
set_option linter.unusedVariables false
namespace Go.Proofs.YtjmfdildnojknaaGreat
open Go.RowKit
open Go.SeqMath
open Go.ProdMath
open Go.BatMath hiding AllB getD_lt take_all
theorem gives_put_below {N : Nat → Prop} {w w1 w2 : World} {km : Nat} {mc start : Int} {r : (Int × Int) × List Bat} {e : Ending} (hb : Below w.heap.size w w1) (h : GivesPut N w1 km mc start r e w2) : GivesPut N w km mc start r e w2 := by
 obtain ⟨ad, len, cap, ms, he, hm, hbs, hg⟩ := h
 exact ⟨ad, len, cap, ms, he, hm, hbs, grow_trans (grow_below (grow_refl w _) hb) hg⟩
theorem produce_any {N : Nat → Prop} (w : World) (km : Nat) (mc start : Int) (ad : Option Addr) (len cap : Nat) (ms : List BM) (h : MOk N w km mc start ad len cap ms) (hL : len ≤ 99999) (hok : RowOk (bats ms)) (hend : 0 ≤ endD start (bats ms) ∧ endD start (bats ms) ≤ 1099511627792) (b0 b1 b2 b3 : Int) (b4 : Bool) (b5 : Int) (recs : List Rc) (rd : Option Addr) (rc : Nat) (hr : RecsAt w rd recs.length rc recs) (ht : TextsOk recs) (hrn : recs.length ≤ 140737488355328) (hwf : b1 ≤ 9223372036854775807) (r : (Int × Int) × List Bat) (hput : produceD mc start (bats ms) ⟨b0, b1, b2, b3, b4, b5, recs⟩ = r) :
 Calls Tryz.prog 18 #[.pointer (some ⟨km, 0, none⟩), .agg #[.int .i64 b0, .int .i64 b1, .int .i64 b2, .int .i64 b3, .bool b4, .int .i64 b5, .slice rd recs.length rc]] w (GivesPut N w km mc start r) := by
 have hkm := h.box.lt
 have HOW : Hid (∀ a, ad = some a → a.block < w.heap.size) := fun a ha => (h.row a ha).2
 have HOI : Hid (∀ m ∈ ms, ∀ a, m.ad = some a → a.block < w.heap.size) := fun m hm a ha => (h.ins m hm a ha).2
 obtain ⟨W0, hW0⟩ := exq (w.alloc (.cells #[.int .i64 b0, .int .i64 b1, .int .i64 b2, .int .i64 b3, .bool b4, .int .i64 b5, .slice rd recs.length rc] 29))
 have HB0 := hwq hW0
 have HX0 := bx0 hW0
 have HM0 := qh (h.keep HB0.out)
 have HR := qh hr
 have HOK := qh hok
 have HTX := qh ht
 have HEND := qh hend
 have HW0 := qh hW0
 clear h hr hok hW0 ht hend
 obtain ⟨v, hv⟩ : ∃ v, endD start (bats ms) = v := ⟨_, rfl⟩
 obtain ⟨q, hq⟩ : ∃ q, rightE ⟨v, b1, b2, b3, b4, b5, recs⟩ = q := ⟨_, rfl⟩
 have hput2 : r = if q ≠ 0 then ((-1, q), bats ms) else if b5 ≠ 0 then ((-1, 16), bats ms) else putD mc start (bats ms) ⟨v, b1, b2, b3, b4, b5, recs⟩ := by
  rw [← hput]
  unfold produceD
  rw [hv]
  unfold Bat.at
  simp only
  rw [hq]
 have HPUT := qh hput2
 have HV := qh hv
 have HQ := qh hq
 clear hput hput2 hv hq
 obtain ⟨X, hX⟩ := exq w.heap.size
 have hXw : w.heap.size ≤ X := by omega
 have hXk : km ≠ X := by omega
 have HXE := qh hX
 rw [← hX] at HX0
 go_enter Tryz.func18, Tryz.ntmps18
 go_upto_region 1 with fail
 rw [← HW0.out, ← hX]
 clear HW0 hX
 go_wp2_with fail
 refine (modEnd_any W0 km mc start ad len cap ms HM0.out.box HM0.out.bats (by omega) HOK.out v HV.out).mono ?_
 rintro e w1 ⟨rfl, hb1⟩
 have HX1 := qh (HX0.out.on hb1)
 have HM1 := qh (HM0.out.keep hb1)
 have HB1 := qh (HB0.out.trans (hb1.mono HB0.out.size))
 clear hb1 HX0 HM0 HB0
 have p0 := HX1.out.c0
 have f0 := HX1.out.free 0
 go_upto_region 2 with fail
 obtain ⟨w2, hw2⟩ := exq (w1.setCell ⟨X, 0, none⟩ (.int .i64 v))
 have HX2 : Hid (BoxAt w2 X v b1 b2 b3 b4 b5 (.slice rd recs.length rc)) := by rw [hw2]; exact HX1.out.s0 v
 have HM2 : Hid (MOk N w2 km mc start ad len cap ms) := by
  show MOk _ _ _ _ _ _ _ _ _
  rw [hw2]
  exact HM1.out.grown (grow_one w1 X 0 _) hXk.symm (fun a ha e => by have := HOW.out a ha; omega) (fun m hm a ha e => by have := HOI.out m hm a ha; omega)
 have HB2 : Hid (Below w.heap.size w w2) := by rw [hw2]; exact HB1.out.setCell (by have := HXE.out; show w.heap.size ≤ X; omega) _
 have HRE2 := qh (HR.out.keep HB2.out)
 rw [← hw2]
 clear hw2 HX1 HM1 HB1 p0 f0
 obtain ⟨p0, p1, p2, p3, p4, p5, p6⟩ := HX2.out.cs
 go_wp2_with fail
 have CR := refRight_any w2 ⟨v, b1, b2, b3, b4, b5, recs⟩ rd recs.length rc HRE2.out HTX.out hrn hwf
 rw [HQ.out] at CR
 refine CR.mono ?_
 clear CR
 rintro e w3 ⟨rfl, hb3⟩
 have HX3 := qh (HX2.out.on hb3)
 have HM3 := qh (HM2.out.keep hb3)
 have HRE3 := qh (HRE2.out.keep hb3)
 have HB3 := qh (HB2.out.trans (hb3.mono HB2.out.size))
 have HG3 : Hid (w.grownBy w3 (some km)) := grow_below (grow_refl w _) HB3.out
 clear hb3 HX2 HM2 HRE2 HB2 p0 p1 p2 p3 p4 p5 p6
 by_cases hz : q = 0
 rotate_left
 · have hd : (q == 0) = false := beq_false_of_ne hz
   have hdn : (q != 0) = true := by unfold bne; rw [hd]; rfl
   have HE : Hid (r = ((-1, q), bats ms)) := by show r = _; rw [HPUT.out, if_pos hz]
   clear HPUT hz
   go_wp2
   go_ret2
   exact gives_put HE.out HM3.out rfl HG3.out
 have hd : (q == 0) = true := by rw [hz]; rfl
 have hdn : (q != 0) = false := by rw [hz]; rfl
 by_cases hm : b5 = 0
 rotate_left
 · have hd5 : (b5 == 0) = false := beq_false_of_ne hm
   have HE : Hid (r = ((-1, 16), bats ms)) := by show r = _; rw [HPUT.out, if_neg (by simp [hz]), if_pos hm]
   have p5 := HX3.out.c5
   clear HPUT hz hm
   go_wp2
   go_ret2
   exact gives_put HE.out HM3.out rfl HG3.out
 have hd5 : (b5 == 0) = true := by rw [hm]; rfl
 have HPD : Hid (putD mc start (bats ms) ⟨v, b1, b2, b3, b4, b5, recs⟩ = r) := by show _ = _; rw [HPUT.out, if_neg (by simp [hz]), if_neg (by simp [hm])]
 clear HPUT hz hm
 obtain ⟨p0, p1, p2, p3, p4, p5, p6⟩ := HX3.out.cs
 go_wp2_with fail
 refine (modPut_any w3 km mc start ad len cap ms HM3.out hL HOK.out HEND.out v b1 b2 b3 b4 b5 recs rd rc HRE3.out HTX.out hrn hwf r HPD.out).mono ?_
 intro e w4 hg
 have hg := gives_put_below HB3.out hg
 obtain ⟨ad', len', cap', ms', rfl, h2, h3, h4⟩ := hg
 have H2 := qh h2
 have H3 := qh h3
 have H4 := qh h4
 obtain ⟨⟨x, y⟩, rb⟩ := r
 clear h2 h3 h4 hg HPD
 simp only
 go_wp2
 go_ret2
 exact ⟨ad', len', cap', ms', rfl, H2.out, H3.out, H4.out⟩
theorem mark_any {N : Nat → Prop} (w : World) (km : Nat) (mc start : Int) (ad : Option Addr) (len cap : Nat) (ms : List BM) (h : MOk N w km mc start ad len cap ms) (hL : len ≤ 99999) (hok : RowOk (bats ms)) (hend : 0 ≤ endD start (bats ms) ∧ endD start (bats ms) ≤ 1099511627792) (p ep m : Int) (hp : p ≤ 9223372036854775807) (r : (Int × Int) × List Bat) (hput : markD mc start (bats ms) p ep m = r) :
 Calls Tryz.prog 16 #[.pointer (some ⟨km, 0, none⟩), .int .i64 p, .int .i64 ep, .int .i64 m] w (GivesPut N w km mc start r) := by
 have HM := qh h
 have HOK := qh hok
 have HEND := qh hend
 obtain ⟨v, hv⟩ : ∃ v, endD start (bats ms) = v := ⟨_, rfl⟩
 have hput2 : r = if m = 0 then ((-1, 12), bats ms) else putD mc start (bats ms) ⟨v, p, ep, -1, true, m, []⟩ := by
  rw [← hput]
  unfold markD
  rw [hv]
 have HPUT := qh hput2
 have HV := qh hv
 clear h hok hend hput hput2 hv
 by_cases hm : m = 0
 · have hd : (m == 0) = true := by rw [hm]; rfl
   have HE : Hid (r = ((-1, 12), bats ms)) := by show r = _; rw [HPUT.out, if_pos hm]
   clear HPUT hm
   go_enter Tryz.func16, Tryz.ntmps16
   go_wp2
   go_ret2
   exact gives_put HE.out HM.out rfl (grow_refl w _)
 have hd : (m == 0) = false := beq_false_of_ne hm
 have HPD : Hid (putD mc start (bats ms) ⟨v, p, ep, -1, true, m, []⟩ = r) := by show _ = _; rw [HPUT.out, if_neg hm]
 clear HPUT hm
 go_enter Tryz.func16, Tryz.ntmps16
 go_wp2_with fail
 refine (modEnd_any w km mc start ad len cap ms HM.out.box HM.out.bats (by omega) HOK.out v HV.out).mono ?_
 rintro e w1 ⟨rfl, hb1⟩
 have HM1 := qh (HM.out.keep hb1)
 have HB1 := qh hb1
 clear hb1
 go_wp2_with fail
 refine (modPut_any w1 km mc start ad len cap ms HM1.out hL HOK.out HEND.out v p ep (-1) true m [] none 0 (recsAt_nil _) (fun r hr => by cases hr) (by decide) hp r HPD.out).mono ?_
 intro e w4 hg
 have hg := gives_put_below HB1.out hg
 obtain ⟨ad', len', cap', ms', rfl, h2, h3, h4⟩ := hg
 have H2 := qh h2
 have H3 := qh h3
 have H4 := qh h4
 obtain ⟨⟨x, y⟩, rb⟩ := r
 clear h2 h3 h4 hg HPD
 simp only
 go_wp2
 go_ret2
 exact ⟨ad', len', cap', ms', rfl, H2.out, H3.out, H4.out⟩
def GivesPds (w : World) (l : List Pd) (e : Ending) (w' : World) : Prop :=
 ∃ ad len cap ps, e = .returned (.slice ad len cap) ∧ PdsAt w' ad len cap ps ∧ pds ps = l ∧ (∀ a, ad = some a → w.heap.size ≤ a.block) ∧ (∀ m ∈ ps, ∀ a, m.ad = some a → w.heap.size ≤ a.block) ∧ Below w.heap.size w w'
theorem producers_any {N : Nat → Prop} (w : World) (km : Nat) (mc start : Int) (ad : Option Addr) (len cap : Nat) (ms : List BM) (h : MOk N w km mc start ad len cap ms) (hL : len ≤ 99999) (hok : RowOk (bats ms)) :
 Calls Tryz.prog 41 #[.pointer (some ⟨km, 0, none⟩)] w (GivesPds w (foldP [] (bats ms))) := by
 have HM := qh h
 have HBO := qh (batsOk_of hok)
 have m2 := h.box.c2
 clear h hok
 go_enter Tryz.func41, Tryz.ntmps41
 go_wp2_with fail
 refine (fold_any w ad len cap ms HM.out.bats (by omega) HBO.out).mono ?_
 rintro e w1 ⟨kt, tad, tlen, tcap, ps, dd, dn, dc, rfl, htab, hps, _, hkt, hb1⟩
 have HKT := qh hkt
 have t0 := htab.tab.box.c0
 have HT := qh htab
 have HPS := qh hps
 have HB := qh hb1
 clear htab hps hb1 m2 hkt
 go_wp2
 go_ret
 exact ⟨tad, tlen, tcap, ps, rfl, HT.out.tab.pds, HPS.out, (fun a ha => by have := (HT.out.row a ha).1; have := HKT.out; omega), (fun m hm a ha => by have := (HT.out.ins m hm a ha).1; have := HKT.out; omega), HB.out⟩
end Go.Proofs.YtjmfdildnojknaaGreat
namespace Go.Proofs.YtjmfdildnojknaaGreat
open Go.RowKit
open Go.ProdMath
open Go.BatMath hiding AllB getD_lt take_all In64
noncomputable def rawD (cap start : Int) (bs : List Bat) (x : List Nat) : (Int × Int) × List Bat :=
 if (readD x).e ≠ 0 then ((-1, (readD x).e), bs) else if (readD x).n ≠ x.length then ((-1, 12), bs) else produceD cap start bs (readD x).b
theorem raw_any {N : Nat → Prop} (w : World) (km : Nat) (mc start : Int) (ad : Option Addr) (len cap : Nat) (ms : List BM) (h : MOk N w km mc start ad len cap ms) (hL : len ≤ 99999) (hok : RowOk (bats ms)) (hend : 0 ≤ endD start (bats ms) ∧ endD start (bats ms) ≤ 1099511627792) (pad : Option Addr) (plen pcap : Nat) (x : List Nat) (hx : Byt w pad plen pcap x) (hpl : plen ≤ 140737488355328) :
 Calls Tryz.prog 65 #[.pointer (some ⟨km, 0, none⟩), .slice pad plen pcap] w (GivesPut N w km mc start (rawD mc start (bats ms) x)) := by
 have H := qh h
 have HOK := qh hok
 have HEND := qh hend
 have HX := qh hx
 have HXL := qh hx.length
 have hrd := reads_readD hx.all
 obtain ⟨⟨⟨b0, b1, b2, b3, b4, b5, recs⟩, n, ev⟩, ho⟩ : ∃ o, readD x = o := ⟨_, rfl⟩
 rw [ho] at hrd
 have HRD := qh hrd
 have HRAW : Hid (rawD mc start (bats ms) x = if ev ≠ 0 then ((-1, ev), bats ms) else if n ≠ plen then ((-1, 12), bats ms) else produceD mc start (bats ms) ⟨b0, b1, b2, b3, b4, b5, recs⟩) := by
  show rawD _ _ _ _ = _
  unfold rawD
  rw [ho, HXL.out]
 have HO := qh ho
 clear h hok hend hx hrd ho
 go_enter Tryz.func65, Tryz.ntmps65
 go_wp2_with fail
 refine (refRead_any w pad plen pcap x HX.out hpl).mono ?_
 rintro e w1 ⟨rd, rc, rfl, hrec, hnew, hb⟩
 rw [HO.out] at hrec ⊢
 simp only at hrec ⊢
 have HREC := qh hrec
 have HB1 := qh hb
 clear hrec hnew hb
 go_upto_region 2 with fail
 obtain ⟨W1, hW1⟩ := exq (w1.alloc (.cells #[.int .i64 b0, .int .i64 b1, .int .i64 b2, .int .i64 b3, .bool b4, .int .i64 b5, .slice rd recs.length rc] 29))
 obtain ⟨P, hP⟩ := exq w1.heap.size
 have hb1 := wbq hW1
 have HX1 := bxq hW1 hP
 have HREC1 := qh (HREC.out.keep hb1)
 have HBT : Hid (Below w.heap.size w W1) := HB1.out.trans (hb1.mono HB1.out.size)
 have H1 := qh (H.out.keep HBT.out)
 rw [← hW1, ← hP]
 clear hW1 hP hb1 HREC HB1
 by_cases h0 : ev = 0
 rotate_left
 · have hz : (ev != 0) = true := by simpa using h0
   have HFIN : Hid (rawD mc start (bats ms) x = ((-1, ev), bats ms)) := by
    show _ = _
    rw [HRAW.out, if_pos h0]
   clear h0 HRAW
   go_wp2_with fail
   go_ret2
   exact gives_put HFIN.out H1.out rfl (grow_below (grow_refl w _) HBT.out)
 have hz : (ev != 0) = false := by rw [h0]; rfl
 obtain ⟨hg, hn⟩ := HRD.out.fine h0
 have HG : Hid (BatMath.Good x ⟨b0, b1, b2, b3, b4, b5, recs⟩) := hg
 have h00 := h0
 by_cases hnl : n = plen
 rotate_left
 · have hne : ((n : Int) != (plen : Int)) = true := by simp; omega
   have HFIN : Hid (rawD mc start (bats ms) x = ((-1, 12), bats ms)) := by
    show _ = _
    rw [HRAW.out, if_neg (by simp [h0]), if_pos hnl]
   clear h0 h00 hn hg hnl HRAW
   go_wp2_with fail
   go_ret2
   exact gives_put HFIN.out H1.out rfl (grow_below (grow_refl w _) HBT.out)
 have hne : ((n : Int) != (plen : Int)) = false := by rw [hnl]; simp
 have HFIN : Hid (rawD mc start (bats ms) x = produceD mc start (bats ms) ⟨b0, b1, b2, b3, b4, b5, recs⟩) := by
  show _ = _
  rw [HRAW.out, if_neg (by simp [h0]), if_neg (by simp [hnl])]
 have hok2 := ok_of HG.out.right
 have HTX : Hid (TextsOk recs) := texts_of hok2.texts
 have hrl : recs.length ≤ 16 := hok2.recs
 have hpr : b1 ≤ 9223372036854775807 := HG.out.wf.prod.2
 clear h0 h00 hn hg hnl HRAW
 obtain ⟨p0, p1, p2, p3, p4, p5, p6⟩ := HX1.out.cs
 go_wp2_with fail
 refine (produce_any W1 km mc start ad len cap ms H1.out hL HOK.out HEND.out b0 b1 b2 b3 b4 b5 recs rd rc HREC1.out HTX.out (by omega) hpr _ HFIN.out.symm).mono ?_
 rintro e w2 hp
 obtain ⟨ad2, len2, cap2, ms2, rfl, hm2, hb2, hg2⟩ := gives_put_below HBT.out hp
 have HM2 := qh hm2
 have HB2 := qh hb2
 have HG2 := qh hg2
 obtain ⟨r, hr⟩ := exq (rawD mc start (bats ms) x)
 rw [← hr] at HB2 ⊢
 have HRR := qh hr
 obtain ⟨⟨ra, rb⟩, rl⟩ := r
 simp only at HB2 ⊢
 clear hp hm2 hb2 hg2 p0 p1 p2 p3 p4 p5 p6 hr
 go_wp2_with fail
 go_ret2
 exact gives_put HRR.out.symm HM2.out HB2.out HG2.out
end Go.Proofs.YtjmfdildnojknaaGreat
namespace Go.ProdMath
open Go.SeqMath
open Go.BatMath
inductive RowW (start : Int) : List Bat → Prop
 | nil : RowW start []
 | snoc {l : List Bat} {b : Bat} : RowW start l → b.base = endD start l → b.wf → rightE b = 0 → endD start l + countD b ≤ 1099511627776 → RowW start (l ++ [b])
theorem rowW_of {start : Int} {bs : List Bat} (h : RowD start bs) : RowW start bs := by
 induction h with
 | nil => exact .nil
 | @snoc l b h2 hb hw hr hc he ih => exact .snoc ih hb hw (tcheck_right hr) he
theorem rowW_ok {start : Int} {bs : List Bat} (h : RowW start bs) : RowOk bs := by
 induction h with
 | nil => intro b hb; cases hb
 | @snoc l b h2 hb hw hr he ih =>
   intro c hc
   rcases List.mem_append.1 hc with hc | hc
   · exact ih c hc
   rw [List.mem_singleton.1 hc]; exact ⟨hr, hw⟩
theorem endD_snoc {start : Int} {l : List Bat} {b : Bat} : endD start (l ++ [b]) = b.base + countD b := end_last (by simp)
theorem rowW_end {start : Int} {bs : List Bat} (h : RowW start bs) (h1 : start ≤ 1099511627776) : start ≤ endD start bs ∧ endD start bs ≤ 1099511627776 := by
 induction h with
 | nil => exact ⟨Int.le_refl _, h1⟩
 | @snoc l b h2 hb hw hr he ih =>
   have h3 := right_count hr
   rw [endD_snoc, hb]
   omega
theorem rowW_bases {start : Int} {bs : List Bat} (h : RowW start bs) : (bs.Pairwise fun a b => a.base < b.base) ∧ (∀ b ∈ bs, start ≤ b.base ∧ b.base < endD start bs) ∧ start ≤ endD start bs := by
 induction h with
 | nil => exact ⟨List.Pairwise.nil, (fun b hb => by cases hb), Int.le_refl _⟩
 | @snoc l b h2 hb hw hr he ih =>
   obtain ⟨i1, i2, i3⟩ := ih
   have h3 := right_count hr
   have e : endD start (l ++ [b]) = endD start l + countD b := by rw [endD_snoc, hb]
   refine ⟨List.pairwise_append.2 ⟨i1, List.pairwise_singleton _ _, fun a ha c hc => ?_⟩, fun c hc => ?_, by omega⟩
   · rw [List.mem_singleton.1 hc, hb]
     exact (i2 a ha).2
   rcases List.mem_append.1 hc with h4 | h4
   · have := i2 c h4; omega
   rw [List.mem_singleton.1 h4]; omega
theorem rowW_least {start : Int} {bs : List Bat} (h : RowW start bs) (h0 : 0 ≤ start) : IsLeast (foldP [] bs) (firstOpen bs) := by
 have h1 := rowW_bases h
 have h2 := rowW_ok h
 exact fold_least bs (fun b hb => (h2 b hb).1) h1.1 (fun b hb => by have := (h1.2.1 b hb).1; omega) (fun b hb ht => right_txn (h2 b hb).1 ht)
theorem rowW_chain {start : Int} {bs : List Bat} (h : RowW start bs) (h0 : 0 ≤ start) : FoMath.Chain (endD start bs) bs := by
 induction h with
 | nil => exact trivial
 | @snoc l b h2 hb hw hr he ih =>
   have h3 := right_count hr
   have h4 := (rowW_bases h2).2.2
   rw [endD_snoc]
   exact FoMath.chain_app ih ⟨h3, by omega, by omega, (fun c hc => by cases hc), trivial⟩ (by omega) (fun c hc => by rw [List.mem_singleton.1 hc, hb]; exact Int.le_refl _)
def baseD (start : Int) (bs : List Bat) (k : Nat) : Int := match bs[k]? with
 | some b => b.base
 | none => endD start bs
theorem baseD_is {start : Int} {bs : List Bat} (h : RowW start bs) : ∀ k, k ≤ bs.length → baseD start bs k = endD start (bs.take k) := by
 induction h with
 | nil => intro k hk; simp at hk; subst hk; rfl
 | @snoc l b h2 hb hw hr he ih =>
   intro k hk
   rw [List.length_append, List.length_singleton] at hk
   by_cases hk2 : k < l.length
   · have h3 := ih k (Nat.le_of_lt hk2)
     rw [List.take_append_of_le_length (Nat.le_of_lt hk2), ← h3]
     unfold baseD
     rw [List.getElem?_append_left hk2, List.getElem?_eq_getElem hk2]
   by_cases hk3 : k = l.length
   · subst hk3
     rw [List.take_append_of_le_length (Nat.le_refl _), List.take_length]
     unfold baseD
     rw [List.getElem?_append_right (Nat.le_refl _), Nat.sub_self]
     exact hb
   have hk4 : k = (l ++ [b]).length := by rw [List.length_append, List.length_singleton]; omega
   rw [hk4, List.take_length]
   unfold baseD
   rw [List.getElem?_eq_none (Nat.le_refl _)]
theorem endD_drop {start : Int} {bs : List Bat} (k : Nat) (hk : k ≤ bs.length) : endD (baseD start bs k) (bs.drop k) = endD start bs := by
 by_cases h : k = bs.length
 · subst h
   rw [List.drop_length]
   unfold baseD
   rw [List.getElem?_eq_none (Nat.le_refl _)]
   rfl
 unfold endD
 rw [List.getLast?_drop, if_neg (by omega)]
 have hne : bs ≠ [] := fun e => by rw [e] at hk h; simp at hk; subst hk; exact h rfl
 rw [List.getLast?_eq_some_getLast hne]
theorem rowW_drop {start : Int} {bs : List Bat} (h : RowW start bs) : ∀ k, k ≤ bs.length → RowW (baseD start bs k) (bs.drop k) := by
 induction h with
 | nil => intro k hk; rw [List.drop_nil]; exact .nil
 | @snoc l b h2 hb hw hr he ih =>
   intro k hk
   rw [List.length_append, List.length_singleton] at hk
   by_cases hk2 : k ≤ l.length
   · have h3 := ih k hk2
     have e : baseD start (l ++ [b]) k = baseD start l k := by
      rw [baseD_is (RowW.snoc h2 hb hw hr he) k (by rw [List.length_append, List.length_singleton]; omega), baseD_is h2 k hk2, List.take_append_of_le_length hk2]
     rw [List.drop_append_of_le_length hk2, e]
     have h4 := endD_drop (start := start) (bs := l) k hk2
     exact .snoc h3 (by rw [h4]; exact hb) hw hr (by rw [h4]; exact he)
   rw [List.drop_of_length_le (by rw [List.length_append, List.length_singleton]; omega)]
   exact .nil
def keepAt (start top : Int) (bs : List Bat) : Nat → Nat
 | 0 => 0
 | k + 1 => if baseD start bs (k + 1) ≤ top then k + 1 else keepAt start top bs k
end Go.ProdMath
namespace Go.FoMath
open Go.ProdMath
open Go.SnapMath
open Go.BatMath
theorem right_recs {b : Bat} (h : rightE b = 0) : b.recs.length ≤ 16 := by
 unfold rightE at h
 split at h
 · omega
 split at h
 · split at h
   · rename_i h4; rw [h4.2.2.2.2]; exact Nat.zero_le _
   omega
 split at h
 · split at h
   · omega
   rename_i h4
   rw [not_or] at h4
   omega
 omega
end Go.FoMath
namespace Go.ProdMath
open Go.SeqMath
open Go.BatMath
open Go.FoMath
theorem keepAt_le (start top : Int) (bs : List Bat) : ∀ k, keepAt start top bs k ≤ k
 | 0 => Nat.le_refl _
 | k + 1 => by
   show (if baseD start bs (k + 1) ≤ top then k + 1 else keepAt start top bs k) ≤ k + 1
   split
   · exact Nat.le_refl _
   have := keepAt_le start top bs k; omega
theorem keepAt_yes {start top : Int} {bs : List Bat} {k : Nat} (h : baseD start bs k ≤ top) : keepAt start top bs k = k := by
 cases k with
 | zero => rfl
 | succ k => show (if baseD start bs (k + 1) ≤ top then k + 1 else keepAt start top bs k) = k + 1; rw [if_pos h]
theorem keepAt_no {start top : Int} {bs : List Bat} {k : Nat} (h : ¬ baseD start bs (k + 1) ≤ top) : keepAt start top bs (k + 1) = keepAt start top bs k := by
 show (if baseD start bs (k + 1) ≤ top then k + 1 else keepAt start top bs k) = _
 rw [if_neg h]
def keepN (start fr : Int) (bs : List Bat) : Nat := keepAt start (min fr (stableD start bs)) bs bs.length
noncomputable def keepD (start fr : Int) (bs : List Bat) : Int × List Bat :=
 if start < baseD start bs (keepN start fr bs) then (baseD start bs (keepN start fr bs), bs.drop (keepN start fr bs)) else (start, bs)
theorem keep_row {start fr : Int} {bs : List Bat} (h : RowW start bs) : RowW (keepD start fr bs).1 (keepD start fr bs).2 ∧ start ≤ (keepD start fr bs).1 ∧ endD (keepD start fr bs).1 (keepD start fr bs).2 = endD start bs := by
 have hk : keepN start fr bs ≤ bs.length := keepAt_le _ _ _ _
 unfold keepD
 split
 · rename_i h1
   exact ⟨rowW_drop h _ hk, Int.le_of_lt h1, endD_drop _ hk⟩
 exact ⟨h, Int.le_refl _, rfl⟩
end Go.ProdMath
namespace Go.Proofs.YtjmfdildnojknaaGreat
open Go.ProdMath
open Go.FoMath
open Go.BatMath
theorem foRow_ofW {start : Int} {bs : List Bat} (h : RowW start bs) (h0 : 0 ≤ start) (h1 : start ≤ 1099511627776) : FoRow start bs := by
 have hc := rowW_chain h h0
 have he := rowW_end h h1
 refine ⟨rowW_ok h, rowW_least h h0, hc, fun b hb => ?_⟩
 have h2 := hc.base b hb
 exact ⟨h2.1, by omega, right_recs (rowW_ok h b hb).1⟩
end Go.Proofs.YtjmfdildnojknaaGreat
namespace Go.Proofs.YtjmfdildnojknaaGreat
open Go.RowKit
open Go.FoMath
open Go.ProdMath
open Go.BatMath hiding AllB getD_lt take_all In64
theorem MBox.s1 {w : World} {km : Nat} {cap start : Int} {v : Value} (h : MBox w km cap start v) (n : Int) : MBox (w.setCell ⟨km, 1, none⟩ (.int .i64 n)) km cap n v := box_set h 1 _
def GivesKeep (N : Nat → Prop) (w : World) (km : Nat) (mc : Int) (r : Int × List Bat) (e : Ending) (w' : World) : Prop :=
 ∃ ad len cap ms, e = .returned (.int .i64 r.1) ∧ MOk N w' km mc r.1 ad len cap ms ∧ bats ms = r.2 ∧ w.grownBy w' (some km)
theorem gives_keep {N : Nat → Prop} {w w' : World} {km : Nat} {mc s : Int} {r : Int × List Bat} {bs : List Bat} {ad : Option Addr} {len cap : Nat} {ms : List BM} (hr : r = (s, bs)) (h : MOk N w' km mc s ad len cap ms) (hb : bats ms = bs) (hg : w.grownBy w' (some km)) : GivesKeep N w km mc r (.returned (.int .i64 s)) w' := by
 subst hr
 exact ⟨ad, len, cap, ms, rfl, h, hb, hg⟩
theorem baseD_get {start : Int} {ms : List BM} {k : Nat} {m : BM} (h : ms[k]? = some m) : baseD start (bats ms) k = m.b.base := by
 unfold baseD bats
 rw [List.getElem?_map, h]; rfl
theorem keep_ok {N : Nat → Prop} {W W' : World} {km len cap len' cap' : Nat} {mc start s' : Int} {ad ad' : Option Addr} {ms : List BM} (h : MOk N W km mc start ad len cap ms) (hg : W.grownBy W' (some km)) (hb : MBox W' km mc s' (.slice ad' len' cap')) {k : Nat} (hr : RowAt batK W ad' len' cap' (ms.drop k)) (hk : ∀ a, ad' = some a → km < a.block ∧ a.block < W.heap.size) (hkn : ∀ a, ad' = some a → N a.block) (k2 : Nat) (hkk : k2 = k := by rfl) : MOk N W' km mc s' ad' len' cap' (ms.drop k) := by
 refine ⟨hb, ⟨hr.grown hg fun a ha e => by have := (hk a ha).1; have := Option.some.inj e; omega, fun m hm => RecAt.grown (h.bats.ins m (List.mem_of_mem_drop hm)) hg fun a ha e => ?_⟩, fun a ha => ⟨(hk a ha).1, Nat.lt_of_lt_of_le (hk a ha).2 hg.size⟩, fun m hm a ha => ?_, ⟨hkn, fun m hm a ha => h.inN.2 m (List.mem_of_mem_drop hm) a ha⟩, fun k hk2 => h.up k (Nat.le_trans hg.size hk2)⟩
 · have h1 := (h.ins m (List.mem_of_mem_drop hm) a ha).1
   have h2 := Option.some.inj e
   omega
 have := h.ins m (List.mem_of_mem_drop hm) a ha
 exact ⟨this.1, Nat.lt_of_lt_of_le this.2 hg.size⟩
theorem modKeep_any {N : Nat → Prop} (w : World) (km : Nat) (mc start : Int) (ad : Option Addr) (len cap : Nat) (ms : List BM) (h : MOk N w km mc start ad len cap ms) (hL : len ≤ 5000) (hr : FoRow start (bats ms)) (fr : Int) :
 Calls Tryz.prog 32 #[.pointer (some ⟨km, 0, none⟩), .int .i64 fr] w (GivesKeep N w km mc (keepD start fr (bats ms))) := by
 have H := qh h
 have HR := qh hr
 have HLN := qh h.bats.row.length
 have HLL : Hid (len ≤ 5000) := hL
 have HBL : Hid ((bats ms).length = len) := by show _ = _; unfold bats; rw [List.length_map]; exact h.bats.row.length
 obtain ⟨st, hst⟩ := exq (stableD start (bats ms))
 obtain ⟨en, hen⟩ := exq (endD start (bats ms))
 obtain ⟨tp, htp⟩ := exq (min fr st)
 have hm1 : min fr st = tp := htp.symm
 have hm2 : (if st < fr then st else fr) = tp := by rw [htp]; split <;> omega
 have HST := qh hst
 have HEN := qh hen
 have HKP : Hid (keepN start fr (bats ms) = keepAt start tp (bats ms) len) := by show keepN _ _ _ = _; unfold keepN; rw [htp, hst, HBL.out]
 clear h hr hL hst hen htp
 go_enter Tryz.func32, Tryz.ntmps32
 go_upto_region 1 with fail
 have KS : Hid (∀ V, Below w.heap.size w V → (fun (V : World) => V.cell? ⟨km, 1, none⟩ = some (.int .i64 start) ∧ V.cell? ⟨km, 2, none⟩ = some (.slice ad len cap)) V) := fun V hV => ⟨((H.out.keep (Below.refl _ w)).box.on hV).c1, ((H.out.keep (Below.refl _ w)).box.on hV).c2⟩
 refine zs [] KS fun u0 HU0 hHeld => ?_
 refine zt 0 ?_
 refine zt 1 ?_
 refine zt 2 ?_
 refine zt 3 ?_
 refine zt 4 ?_
 refine zt 5 ?_
 refine zt 6 ?_
 refine zt 7 ?_
 refine zt 8 ?_
 refine zr 9 (fun C hC => ?_)
 go_simp
 refine (refStable_any u0 start ad len cap ms (H.out.keep HU0.out).bats HLL.out HR.out).mono ?_
 rintro e u1 ⟨rfl, hb⟩
 rw [← HST.out]
 have HU1 : Hid (Below w.heap.size w u1) := HU0.out.trans (hb.mono HU0.out.size)
 clear hb
 have hHeld := KS.out _ HU1.out
 refine zc hC hHeld ?_
 clear hC C
 refine zt 10 ?_
 refine zt 11 ?_
 refine zd ?_
 clear hHeld KS
 (try rw [hm2])
 (try rw [hm1])
 clear hm1 hm2
 go_upto_region 2 with fail
 have hdr : Below u1.heap.size u1 u1.drew := (Below.refl _ u1).drew
 have KS : Hid (∀ V, Below u1.heap.size u1 V → (fun (V : World) => V.cell? ⟨km, 1, none⟩ = some (.int .i64 start) ∧ V.cell? ⟨km, 2, none⟩ = some (.slice ad len cap)) V) := fun V hV => ⟨((H.out.keep HU1.out).box.on hV).c1, ((H.out.keep HU1.out).box.on hV).c2⟩
 refine wp_region_noPanic ?_
 refine zk [] KS ?_
 have hHeld := KS.out _ hdr
 obtain ⟨u2, hu2⟩ := exq u1.drew
 rw [← hu2] at hHeld hdr
 rw [← hu2]
 clear hu2
 have HU2 := qh (HU1.out.trans (hdr.mono HU1.out.size))
 have HU12 := qh hdr
 clear hdr
 refine zt 0 ?_
 refine zt 1 ?_
 refine zt 2 ?_
 refine zt 3 ?_
 refine zt 4 ?_
 refine zt 5 ?_
 refine zr 6 (fun C hC => ?_)
 go_simp
 refine (modEnd_any u2 km mc start ad len cap ms (H.out.keep HU2.out).box (H.out.keep HU2.out).bats (Nat.le_trans HLL.out (by decide)) HR.out.ok en HEN.out.symm).mono ?_
 rintro e u3 ⟨rfl, hb⟩
 have HU3 : Hid (Below w.heap.size w u3) := HU2.out.trans (hb.mono HU2.out.size)
 have HU13 : Hid (Below u1.heap.size u1 u3) := HU12.out.trans (hb.mono HU12.out.size)
 clear hb
 have hHeld := KS.out _ HU13.out
 refine zc hC hHeld ?_
 clear hC C
 refine zt 7 ?_
 refine zt 8 ?_
 refine zd ?_
 clear hHeld KS
 have HB2 : Hid (Below w.heap.size w u3) := HU3.out
 have HBE : Hid (baseD start (bats ms) len = en) := by
  show baseD _ _ _ = _
  unfold baseD
  rw [List.getElem?_eq_none (by rw [HBL.out]; exact Nat.le_refl _)]
  exact HEN.out.symm
 go_wp2_with fail
 go_loopw [6, 7] (fun v6 v7 wr => ∃ k : Nat, v6 = .int .i64 (k : Int) ∧ v7 = .int .i64 (baseD start (bats ms) k) ∧ k ≤ len ∧ Hid (keepN start fr (bats ms) = keepAt start tp (bats ms) k) ∧ Hid (Below w.heap.size w wr)) (fun v6 _ _ => (intOf v6).toNat)
 case atStart => exact ⟨len, rfl, by rw [HBE.out], Nat.le_refl _, HKP.out, HB2.out⟩
 obtain ⟨k, rfl, rfl, hk, HKK, HB⟩ := hrel
 obtain ⟨wo, hwo⟩ := exq wr
 subst hwo
 clear HB2
 obtain ⟨bk, hbk⟩ : ∃ x, baseD start (bats ms) k = x := ⟨_, rfl⟩
 rw [hbk]
 by_cases hgo : 0 < k ∧ tp < bk
 · obtain ⟨hk0, hlt⟩ := hgo
   have hd1 : decide (0 < k) = true := decide_eq_true hk0
   have hd1i : decide ((0 : Int) < (k : Int)) = true := decide_eq_true (by omega)
   have hd2 : decide (tp < bk) = true := decide_eq_true hlt
   obtain ⟨j, hj⟩ : ∃ j, k = j + 1 := ⟨k - 1, by omega⟩
   obtain ⟨b, off, m, hae, hblk, hm, hrec, c0, c1, c2, c3, c4, c5, c6⟩ := (H.out.keep HB.out).bats.get (show j < len by omega)
   have HM : Hid (ms[j]? = some m) := hm
   have HKJ : Hid (keepN start fr (bats ms) = keepAt start tp (bats ms) j) := by
    show _ = _
    rw [HKK.out, hj]
    exact keepAt_no (by rw [← hj, hbk]; omega)
   have HBJ : Hid (baseD start (bats ms) j = m.b.base) := baseD_get hm
   have hw1 : wrap64 ((k : Int) - 1) = (j : Int) := by unfold wrap64; have := HLL.out; omega
   have hw2 : (k : Int) - 1 = (j : Int) := by omega
   have hw3 : wrap64 (j : Int) = (j : Int) := by unfold wrap64; have := HLL.out; omega
   have hjn : (j : Int) < (len : Int) := by omega
   have HJK : Hid (j < k ∧ j ≤ len) := by show _ ∧ _; omega
   have hbx := (H.out.keep HB.out).box
   have q2 := hbx.c2
   obtain ⟨bb, hbb⟩ : ∃ x, m.b.base = x := ⟨_, rfl⟩
   rw [hbb] at c0 HBJ
   have HAE := qh hae
   subst hae
   clear hm hrec c1 c2 c3 c4 c5 c6 hbb hj hk0 hlt hk hblk HKK
   go_wp2_with fail
   go_roundw
   case rel => exact ⟨j, by first | rfl | rw [hw3], by rw [HBJ.out], HJK.out.2, HKJ.out, HB.out⟩
   have h1 := HJK.out.1
   clear hw1 hw2 hd1 hd1i hd2 hjn
   first | (rw [hw3]; simp only [intOf]; omega) | (simp only [intOf]; omega)
 have hcs : decide (0 < k) = false ∨ (decide (0 < k) = true ∧ decide (tp < bk) = false) := by
  simp only [decide_eq_true_eq, decide_eq_false_iff_not]
  omega
 have HKF : Hid (keepN start fr (bats ms) = k) := by
  show _ = _
  rw [HKK.out]
  rcases Nat.eq_zero_or_pos k with h0 | h0
  · rw [h0]; rfl
  exact keepAt_yes (by rw [hbk]; omega)
 have HKL : Hid (k ≤ len) := hk
 have HBK : Hid (baseD start (bats ms) k = bk) := hbk
 clear hgo HKK hbk hk
 rcases hcs with hd1 | ⟨hd1, hd2⟩
 · have hd1i : decide ((0 : Int) < (k : Int)) = false := by rw [← hd1]; simp
   have hbx := (H.out.keep HB.out).box
   have q1 := hbx.c1
   by_cases hgt : start < bk
   rotate_left
   · have hd3 : decide (start < bk) = false := decide_eq_false hgt
     have HKD : Hid (keepD start fr (bats ms) = (start, bats ms)) := by
      show keepD _ _ _ = _
      unfold keepD
      rw [HKF.out, HBK.out, if_neg hgt]
     clear hgt
     go_wp2_with fail
     go_ret
     exact gives_keep HKD.out (H.out.keep HB.out) rfl (grow_below (grow_refl w _) HB.out)
   have hd3 : decide (start < bk) = true := decide_eq_true hgt
   have HKD : Hid (keepD start fr (bats ms) = (bk, (bats ms).drop k)) := by
    show keepD _ _ _ = _
    unfold keepD
    rw [HKF.out, HBK.out, if_pos hgt]
   clear hgt
   go_upto_region 7 with fail
   clear q1
   obtain ⟨fa, fc, hsf, hfr, hfa⟩ := row_from batK_ok (H.out.keep HB.out).bats.row k HKL.out
   have hsf2 : ∀ V, (Instr.slice 42 (.slice ad len cap) (some (.int .i64 (k : Int))) none none).run Tryz.prog V = .ok (.slice fa (len - k) fc) V := hsf
   have q2 := hbx.c2
   obtain ⟨v1, hv1⟩ := exq (wo.alloc (.cells #[] 29))
   have hbb := wbq hv1
   have HLIT : Hid (OwnRow batK v1 wo.heap.size (.slice (some ⟨wo.heap.size, 0, none⟩) 0 0) []) := by
    show OwnRow _ _ _ _ _
    rw [hv1]
    exact ownRow_lit batK_ok wo _ [] (Nat.le_refl _) (by decide) _ rfl 0 rfl
   have HFR := qh (hfr.keep hbb)
   have HV1 := qh hbb
   have HW1 := qh hv1
   have q2v := (hbx.on hbb).c2
   have HLD : Hid (([] : List BM).length + (len - k) ≤ 100000000000) := by show _ ≤ _; have := HLL.out; simp only [List.length_nil]; omega
   rw [hv1] at q2v
   clear hv1 hbb hfr hfa hsf
   go_wp2_with (at_builtin; rw [← HW1.out]; refine list_row (by rfl) batK_ok (.tmp 51) (.tmp 57) rfl wo.heap.size [] (ms.drop k) _ rfl HLIT.out HV1.out.size fa (len - k) fc rfl HFR.out HLD.out ?_)
   intro v9 v2 hap
   (try rw [List.nil_append] at hap)
   obtain ⟨n9, hn9⟩ : ∃ n, (ms.drop k).length = n := ⟨_, rfl⟩
   obtain ⟨ad9, cap9, rfl, hr9, hk9⟩ := OwnRow.row batK_ok hap.1 hn9
   have HR9 := qh hr9
   have HK9 := qh hk9
   have HV2 : Hid (Below wo.heap.size wo v2) := appended_below hap HLIT.out HV1.out (Nat.le_refl _) HV1.out.size
   have hbx2 : MBox v2 km mc start (.slice ad len cap) := hbx.on HV2.out
   have HBX2 := qh hbx2
   have f2 := hbx2.free 2
   have p2 := hbx2.c2
   have f1 := (hbx2.s2 (.slice ad9 n9 cap9)).free 1
   have p1 := (hbx2.s2 (.slice ad9 n9 cap9)).c1
   clear hap hr9 hk9 hn9 HLIT HFR HV1 HW1 q2v q2 hbx hsf2 hbx2
   go_upto_region 8 with fail
   obtain ⟨v4, hv4⟩ : ∃ z, z = (v2.setCell ⟨km, 2, none⟩ (.slice ad9 n9 cap9)).setCell ⟨km, 1, none⟩ (.int .i64 bk) := ⟨_, rfl⟩
   have HBX4 : Hid (MBox v4 km mc bk (.slice ad9 n9 cap9)) := by rw [hv4]; exact (HBX2.out.s2 _).s1 _
   have HG4 : Hid (v2.grownBy v4 (some km)) := by show World.grownBy _ _ _; rw [hv4]; exact grow_trans (grow_one _ _ _ _) (grow_one _ _ _ _)
   rw [← hv4]
   clear hv4 f1 p1 f2 p2
   have HMK : Hid (MOk N v4 km mc bk ad9 n9 cap9 (ms.drop k)) := keep_ok (H.out.keep (HB.out.trans (HV2.out.mono HB.out.size))) HG4.out HBX4.out HR9.out (fun a ha => ⟨Nat.lt_of_lt_of_le (H.out.keep HB.out).box.lt (HK9.out a ha).1, (HK9.out a ha).2⟩) (fun a ha => (H.out.keep HB.out).up _ (HK9.out a ha).1) k
   have HGF : Hid (w.grownBy v4 (some km)) := grow_trans (grow_below (grow_refl w _) (HB.out.trans (HV2.out.mono HB.out.size))) HG4.out
   have HBF : Hid (bats (ms.drop k) = (bats ms).drop k) := by show _ = _; unfold bats; rw [List.map_drop]
   have q1 := HBX4.out.c1
   go_wp2_with fail
   go_ret
   exact gives_keep HKD.out HMK.out HBF.out HGF.out
 have hd1i : decide ((0 : Int) < (k : Int)) = true := by rw [← hd1]; simp
 have hbx := (H.out.keep HB.out).box
 have q1 := hbx.c1
 by_cases hgt : start < bk
 rotate_left
 · have hd3 : decide (start < bk) = false := decide_eq_false hgt
   have HKD : Hid (keepD start fr (bats ms) = (start, bats ms)) := by
    show keepD _ _ _ = _
    unfold keepD
    rw [HKF.out, HBK.out, if_neg hgt]
   clear hgt
   go_wp2_with fail
   go_ret
   exact gives_keep HKD.out (H.out.keep HB.out) rfl (grow_below (grow_refl w _) HB.out)
 have hd3 : decide (start < bk) = true := decide_eq_true hgt
 have HKD : Hid (keepD start fr (bats ms) = (bk, (bats ms).drop k)) := by
  show keepD _ _ _ = _
  unfold keepD
  rw [HKF.out, HBK.out, if_pos hgt]
 clear hgt
 go_upto_region 7 with fail
 clear q1
 obtain ⟨fa, fc, hsf, hfr, hfa⟩ := row_from batK_ok (H.out.keep HB.out).bats.row k HKL.out
 have hsf2 : ∀ V, (Instr.slice 42 (.slice ad len cap) (some (.int .i64 (k : Int))) none none).run Tryz.prog V = .ok (.slice fa (len - k) fc) V := hsf
 have q2 := hbx.c2
 obtain ⟨v1, hv1⟩ := exq (wo.alloc (.cells #[] 29))
 have hbb := wbq hv1
 have HLIT : Hid (OwnRow batK v1 wo.heap.size (.slice (some ⟨wo.heap.size, 0, none⟩) 0 0) []) := by
  show OwnRow _ _ _ _ _
  rw [hv1]
  exact ownRow_lit batK_ok wo _ [] (Nat.le_refl _) (by decide) _ rfl 0 rfl
 have HFR := qh (hfr.keep hbb)
 have HV1 := qh hbb
 have HW1 := qh hv1
 have q2v := (hbx.on hbb).c2
 have HLD : Hid (([] : List BM).length + (len - k) ≤ 100000000000) := by show _ ≤ _; have := HLL.out; simp only [List.length_nil]; omega
 rw [hv1] at q2v
 clear hv1 hbb hfr hfa hsf
 go_wp2_with (at_builtin; rw [← HW1.out]; refine list_row (by rfl) batK_ok (.tmp 51) (.tmp 57) rfl wo.heap.size [] (ms.drop k) _ rfl HLIT.out HV1.out.size fa (len - k) fc rfl HFR.out HLD.out ?_)
 intro v9 v2 hap
 (try rw [List.nil_append] at hap)
 obtain ⟨n9, hn9⟩ : ∃ n, (ms.drop k).length = n := ⟨_, rfl⟩
 obtain ⟨ad9, cap9, rfl, hr9, hk9⟩ := OwnRow.row batK_ok hap.1 hn9
 have HR9 := qh hr9
 have HK9 := qh hk9
 have HV2 : Hid (Below wo.heap.size wo v2) := appended_below hap HLIT.out HV1.out (Nat.le_refl _) HV1.out.size
 have hbx2 : MBox v2 km mc start (.slice ad len cap) := hbx.on HV2.out
 have HBX2 := qh hbx2
 have f2 := hbx2.free 2
 have p2 := hbx2.c2
 have f1 := (hbx2.s2 (.slice ad9 n9 cap9)).free 1
 have p1 := (hbx2.s2 (.slice ad9 n9 cap9)).c1
 clear hap hr9 hk9 hn9 HLIT HFR HV1 HW1 q2v q2 hbx hsf2 hbx2
 go_upto_region 8 with fail
 obtain ⟨v4, hv4⟩ : ∃ z, z = (v2.setCell ⟨km, 2, none⟩ (.slice ad9 n9 cap9)).setCell ⟨km, 1, none⟩ (.int .i64 bk) := ⟨_, rfl⟩
 have HBX4 : Hid (MBox v4 km mc bk (.slice ad9 n9 cap9)) := by rw [hv4]; exact (HBX2.out.s2 _).s1 _
 have HG4 : Hid (v2.grownBy v4 (some km)) := by show World.grownBy _ _ _; rw [hv4]; exact grow_trans (grow_one _ _ _ _) (grow_one _ _ _ _)
 rw [← hv4]
 clear hv4 f1 p1 f2 p2
 have HMK : Hid (MOk N v4 km mc bk ad9 n9 cap9 (ms.drop k)) := keep_ok (H.out.keep (HB.out.trans (HV2.out.mono HB.out.size))) HG4.out HBX4.out HR9.out (fun a ha => ⟨Nat.lt_of_lt_of_le (H.out.keep HB.out).box.lt (HK9.out a ha).1, (HK9.out a ha).2⟩) (fun a ha => (H.out.keep HB.out).up _ (HK9.out a ha).1) k
 have HGF : Hid (w.grownBy v4 (some km)) := grow_trans (grow_below (grow_refl w _) (HB.out.trans (HV2.out.mono HB.out.size))) HG4.out
 have HBF : Hid (bats (ms.drop k) = (bats ms).drop k) := by show _ = _; unfold bats; rw [List.map_drop]
 have q1 := HBX4.out.c1
 go_wp2_with fail
 go_ret
 exact gives_keep HKD.out HMK.out HBF.out HGF.out
end Go.Proofs.YtjmfdildnojknaaGreat
namespace Go.Proofs.YtjmfdildnojknaaGreat
open Go.RowKit
open Go.SeqMath
open Go.ProdMath
open Go.BatMath hiding AllB getD_lt take_all
structure AR (w1 : World) (kt : Nat) (ad : Option Addr) (len cap Z X : Nat) (pad : Option Addr) (plen pcap : Nat) (ps : List PM) (W : World) : Prop where
 tape : TapeT W kt ad len cap
 res : BoxAt W Z 0 0 0 0 false 0 (.slice none 0 0)
 pds : PdsAt W pad plen pcap ps
 gr : w1.grownBy W (some kt)
 row : ∀ a, pad = some a → X < a.block
 ins : ∀ m ∈ ps, ∀ a, m.ad = some a → X < a.block
 lt : kt < Z
 zx : Z < X
 x1 : w1.heap.size ≤ X
section
variable {w1 W W' : World} {kt len cap Z X plen pcap : Nat} {ad pad : Option Addr} {ps : List PM}
theorem AR.s (h : AR w1 kt ad len cap Z X pad plen pcap ps W) (j : Nat) (u : Value) : AR w1 kt ad len cap Z X pad plen pcap ps (W.setCell ⟨X, j, none⟩ u) := by
 have h1 := h.lt
 have h2 := h.zx
 refine ⟨h.tape.other (by omega) _, h.res.off (by omega) _, ⟨h.pds.row.off (fun a ha => by have := h.row a ha; omega) _ _, fun m hm => (h.pds.ins m hm).off (fun a ha => by have := h.ins m hm a ha; omega) _ _⟩, grow_new h.gr h.x1 _, h.row, h.ins, h.lt, h.zx, h.x1⟩
theorem AR.on (h : AR w1 kt ad len cap Z X pad plen pcap ps W) (hb : Below W.heap.size W W') : AR w1 kt ad len cap Z X pad plen pcap ps W' := by
 obtain ⟨i, ht⟩ := h.tape
 exact ⟨⟨i, ht.on hb⟩, h.res.on hb, h.pds.keep hb, grow_below h.gr hb, h.row, h.ins, h.lt, h.zx, h.x1⟩
theorem AR.next (h : AR w1 kt ad len cap Z X pad plen pcap ps W) (hg : W.grownBy W' (some kt)) (ht : TapeT W' kt ad len cap) : AR w1 kt ad len cap Z X pad plen pcap ps W' := by
 have h1 := h.lt
 have h2 := h.zx
 refine ⟨ht, h.res.grows hg (fun e => by have := Option.some.inj e; omega), ⟨h.pds.row.grown hg (fun a ha e => by have := h.row a ha; have := Option.some.inj e; omega), fun m hm => (h.pds.ins m hm).grown hg fun a ha e => by have := h.ins m hm a ha; have := Option.some.inj e; omega⟩, grow_trans h.gr hg, h.row, h.ins, h.lt, h.zx, h.x1⟩
end
def GivesAsk (w : World) (kt : Nat) (ad : Option Addr) (len cap : Nat) (e : Ending) (w' : World) : Prop :=
 ∃ b0 b1 b2 b3 b4 b5 recs rd rc, e = .returned (.agg #[.int .i64 b0, .int .i64 b1, .int .i64 b2, .int .i64 b3, .bool b4, .int .i64 b5, .slice rd (List.length recs) rc]) ∧ Hid (b1 ≤ 9223372036854775807) ∧ Hid (TextsOk recs) ∧ Hid (recs.length ≤ 16) ∧ Hid (RecsAt w' rd recs.length rc recs) ∧ Hid (TapeT w' kt ad len cap) ∧ Hid (w.grownBy w' (some kt)) ∧ Hid (∀ a, rd = some a → w.heap.size ≤ a.block)
theorem resultsAsk {tmps : Array Value} {B : Nat} {W : World} {b0 b1 b2 b3 : Int} {b4 : Bool} {b5 : Int} {v : Value} (h : BoxAt W B b0 b1 b2 b3 b4 b5 v) (ht : tmps.getD 4 undef = .pointer (some ⟨B, 0, none⟩)) :
 (results Tryz.f14 tmps).run Tryz.prog W = .ok (.agg #[.int .i64 b0, .int .i64 b1, .int .i64 b2, .int .i64 b3, .bool b4, .int .i64 b5, v]) W := by
 rw [results_cell_one (p := 4) (ty := 29) Tryz.results14, ht]
 have hl := run_loadVar_row (P := Tryz.prog) W B 29 29 _ (0, 0) _ h Tryz.underlying29 rfl (by kernel_rfl)
 simp only [asAddr, Sem.run_pure, Result.andThen, hl]
theorem gives_ask {w w1 W : World} {kt len cap Z : Nat} {ad : Option Addr} {b0 b1 b2 b3 : Int} {b4 : Bool} {b5 : Int} {recs : List Rc} {rd : Option Addr} {rc : Nat} {u0 u1 u2 u3 u4 u5 u6 : Value} (hw : w.grownBy W (some kt)) (hZ : w.heap.size ≤ Z) (hk : kt < Z) (ht : TapeT W kt ad len cap) (hp : b1 ≤ 9223372036854775807) (hx : TextsOk recs) (hn : recs.length ≤ 16) (hr : RecsAt W rd recs.length rc recs) (hb : ∀ a, rd = some a → Z < a.block) :
 GivesAsk w kt ad len cap (.returned (.agg #[.int .i64 b0, .int .i64 b1, .int .i64 b2, .int .i64 b3, .bool b4, .int .i64 b5, .slice rd recs.length rc])) (((((((W.setCell ⟨Z, 0, none⟩ u0).setCell ⟨Z, 1, none⟩ u1).setCell ⟨Z, 2, none⟩ u2).setCell ⟨Z, 3, none⟩ u3).setCell ⟨Z, 4, none⟩ u4).setCell ⟨Z, 5, none⟩ u5).setCell ⟨Z, 6, none⟩ u6) :=
 ⟨b0, b1, b2, b3, b4, b5, recs, rd, rc, rfl, hp, hx, hn, ((((((hr.put hb).put hb).put hb).put hb).put hb).put hb).put hb, ((((((ht.other hk _).other hk _).other hk _).other hk _).other hk _).other hk _).other hk _, grow_new (grow_new (grow_new (grow_new (grow_new (grow_new (grow_new hw hZ _) hZ _) hZ _) hZ _) hZ _) hZ _) hZ _, fun a ha => by have := hb a ha; omega⟩
theorem ask_any {N : Nat → Prop} (w : World) (kt : Nat) (ad : Option Addr) (len cap i : Nat) (ht : TapeAt w kt ad len cap i) (km : Nat) (mc start : Int) (mad : Option Addr) (mlen mcap : Nat) (ms : List BM) (hm : MOk N w km mc start mad mlen mcap ms) (hkm : kt ≠ km) (hNk : ∀ k, N k → k ≠ kt) (hL : mlen ≤ 99999) (hok : RowOk (bats ms)) :
 Calls Tryz.prog 14 #[.pointer (some ⟨kt, 0, none⟩), .pointer (some ⟨km, 0, none⟩)] w (GivesAsk w kt ad len cap) := by
 have hktw := ht.lt
 obtain ⟨W0, hW0⟩ := exq (w.alloc (.cells #[.int .i64 0, .int .i64 0, .int .i64 0, .int .i64 0, .bool false, .int .i64 0, .slice none 0 0] 29))
 have hb0 := wbq hW0
 have HZ0 := bx0 hW0
 have HT0 := qh (ht.on hb0)
 have HM0 := qh (hm.keep hb0)
 have HG0 : Hid (w.grownBy W0 (some kt)) := grow_below (grow_refl w _) hb0
 have hs0 : w.heap.size + 1 ≤ W0.heap.size := HZ0.out.lt
 have HOK := qh hok
 have HW0 := qh hW0
 clear ht hm hb0 hW0 hok
 obtain ⟨Z, hZ⟩ := exq w.heap.size
 have hZw : w.heap.size ≤ Z := by omega
 have hkZ : kt < Z := by omega
 have hZ0 : Z + 1 ≤ W0.heap.size := by omega
 rw [← hZ] at HZ0
 go_enter Tryz.func14, Tryz.ntmps14
 go_upto_region 1 with fail
 rw [← HW0.out, ← hZ]
 clear HW0 hZ hs0
 go_wp2_with fail
 refine (tapeBatch_any W0 kt ad len cap i 0 HT0.out (by omega) (by omega)).mono ?_
 rintro e w1 ⟨b, rd, rc, rfl, hb00, hbr, hbw, hre, hrb, ht1, hg1⟩
 have hbo := ok_of hbr
 have hb1 := hbw.prod.2
 have h16 := hbo.recs
 have HTX := qh (texts_of hbo.texts)
 have HRE1 := qh hre
 have HRB : Hid (∀ a, rd = some a → Z < a.block ∧ a.block ≠ kt) := fun a ha => by have := hrb a ha; exact ⟨by omega, by omega⟩
 have HT1 := qh ht1
 have HG1 := qh (grow_trans HG0.out hg1)
 have HM1 := qh (HM0.out.grown hg1 (by omega) (fun a ha => hNk _ (HM0.out.inN.1 a ha)) (fun m hm a ha => hNk _ (HM0.out.inN.2 m hm a ha)))
 have HZ1 := qh (HZ0.out.tape hg1 (by omega))
 have hs1 : Z + 1 ≤ w1.heap.size := Nat.le_trans hZ0 hg1.size
 clear hb00 hbr hbw hbo hre hrb ht1 hg1 HT0 HG0 HM0 HZ0
 obtain ⟨b0, b1, b2, b3, b4, b5, recs⟩ := b
 simp only at hb1 h16 HTX HRE1
 simp only
 go_upto_region 2 with fail
 obtain ⟨w2, hw2⟩ := exq (w1.alloc (.cells #[.int .i64 b0, .int .i64 b1, .int .i64 b2, .int .i64 b3, .bool b4, .int .i64 b5, .slice rd recs.length rc] 29))
 have hb2 := wbq hw2
 obtain ⟨X, hX⟩ := exq w1.heap.size
 have HX2 := bxq hw2 hX
 have hZX : Z < X := by omega
 have hX1 : w1.heap.size ≤ X := by omega
 obtain ⟨i1, ht1⟩ := HT1.out
 have HT2 : Hid (TapeAt w2 kt ad len cap i1) := ht1.on hb2
 have HZ2 := qh (HZ1.out.on hb2)
 have HM2 := qh (HM1.out.keep hb2)
 have HG2 : Hid (w1.grownBy w2 (some kt)) := grow_below (grow_refl w1 _) hb2
 rw [← hw2, ← hX]
 clear hw2 hb2 hX HT1 HZ1 HM1 ht1
 have x1 := HX2.out.c1
 by_cases hp : b1 < 0
 · have hd : decide (b1 < 0) = true := decide_eq_true hp
   have HRE2 := qh (HRE1.out.tape HG2.out (fun a ha => (HRB.out a ha).2))
   clear x1 hp
   obtain ⟨x0, x1, x2, x3, x4, x5, x6⟩ := HX2.out.cs
   have z0 := HZ2.out.c0
   have zf0 := HZ2.out.free 0
   have z1 := HZ2.out.c1
   have zf1 := HZ2.out.free 1
   have z2 := HZ2.out.c2
   have zf2 := HZ2.out.free 2
   have z3 := HZ2.out.c3
   have zf3 := HZ2.out.free 3
   have z4 := HZ2.out.c4
   have zf4 := HZ2.out.free 4
   have z5 := HZ2.out.c5
   have zf5 := HZ2.out.free 5
   have z6 := HZ2.out.c6
   have zf6 := HZ2.out.free 6
   go_wp2
   exact bodyPost_ret (resultsAsk (((((((HZ2.out.s0 b0).s1 b1).s2 b2).s3 b3).s4 b4).s5 b5).s6 (.slice rd recs.length rc)) rfl) rfl (gives_ask (w1 := w1) (grow_trans HG1.out HG2.out) hZw hkZ ⟨i1, HT2.out⟩ hb1 HTX.out h16 HRE2.out (fun a ha => (HRB.out a ha).1))
 have hd : decide (b1 < 0) = false := decide_eq_false hp
 clear hp
 go_wp2_with fail
 refine (tapeNext_any w2 kt ad len cap i1 8 HT2.out (by omega) (by omega)).mono ?_
 rintro e w3 ⟨z, i3, rfl, hz0, hz1, ht3, hg3⟩
 have HT3 := qh ht3
 have HX3 := qh (HX2.out.tape hg3 (by omega))
 have HZ3 := qh (HZ2.out.tape hg3 (by omega))
 have HG3 := qh (grow_trans HG2.out hg3)
 have HM3 := qh (HM2.out.grown hg3 (by omega) (fun a ha => hNk _ (HM2.out.inN.1 a ha)) (fun m hm a ha => hNk _ (HM2.out.inN.2 m hm a ha)))
 clear ht3 hg3 HT2 HX2 HZ2 HG2 HM2 x1
 by_cases hz : z = 0
 · have hd2 : (z == 0) = true := by rw [hz]; rfl
   have HRE3 := qh (HRE1.out.tape HG3.out (fun a ha => (HRB.out a ha).2))
   clear hz hz0 hz1
   obtain ⟨x0, x1, x2, x3, x4, x5, x6⟩ := HX3.out.cs
   have z0 := HZ3.out.c0
   have zf0 := HZ3.out.free 0
   have z1 := HZ3.out.c1
   have zf1 := HZ3.out.free 1
   have z2 := HZ3.out.c2
   have zf2 := HZ3.out.free 2
   have z3 := HZ3.out.c3
   have zf3 := HZ3.out.free 3
   have z4 := HZ3.out.c4
   have zf4 := HZ3.out.free 4
   have z5 := HZ3.out.c5
   have zf5 := HZ3.out.free 5
   have z6 := HZ3.out.c6
   have zf6 := HZ3.out.free 6
   go_wp2
   exact bodyPost_ret (resultsAsk (((((((HZ3.out.s0 b0).s1 b1).s2 b2).s3 b3).s4 b4).s5 b5).s6 (.slice rd recs.length rc)) rfl) rfl (gives_ask (w1 := w1) (grow_trans HG1.out HG3.out) hZw hkZ ⟨i3, HT3.out⟩ hb1 HTX.out h16 HRE3.out (fun a ha => (HRB.out a ha).1))
 have hd2 : (z == 0) = false := beq_false_of_ne hz
 clear hz hz0 hz1
 go_wp2_with fail
 refine (producers_any w3 km mc start mad mlen mcap ms HM3.out hL HOK.out).mono ?_
 rintro e w4 ⟨pad, plen, pcap, ps, rfl, hpd, hps, hpa, hpi, hb4⟩
 have hXlt := HX3.out.lt
 have HAR4 : Hid (AR w1 kt ad len cap Z X pad plen pcap ps w4) := ⟨⟨i3, HT3.out.on hb4⟩, HZ3.out.on hb4, hpd, grow_below HG3.out hb4, fun a ha => by have := hpa a ha; omega, fun m hm a ha => by have := hpi m hm a ha; omega, hkZ, hZX, hX1⟩
 have HX4 := qh (HX3.out.on hb4)
 have HFP : Hid (∀ m ∈ ps, m.p.last.length ≤ 5) := by
  intro m hm
  have h1 := foldP_few (l := []) (bats ms) (fun p hp => by cases hp)
  rw [← hps] at h1
  exact h1 m.p (List.mem_map_of_mem hm)
 have hpl : plen ≤ 100000 := by
  have h1 := foldP_len [] (bats ms)
  have h2 := hpd.row.length
  have h3 : (pds ps).length = ps.length := by unfold pds; rw [List.length_map]
  have h4 : (bats ms).length = mlen := by unfold bats; rw [List.length_map]; exact HM3.out.bats.row.length
  rw [← hps, h3] at h1
  simp at h1
  omega
 clear hpd hps hpa hpi hb4 hXlt HT3 HX3 HZ3 HG3 HM3
 go_wp2
 go_loopw [24] (fun v24 wr => ∃ j : Nat, v24 = .int .i64 (j : Int) ∧ j ≤ plen ∧ ∃ c2 c3 c4, AR w1 kt ad len cap Z X pad plen pcap ps wr ∧ BoxAt wr X b0 b1 c2 c3 c4 b5 (.slice rd recs.length rc)) (fun v24 _ => plen - (intOf v24).toNat)
 case atStart => exact ⟨0, rfl, Nat.zero_le _, b2, b3, b4, HAR4.out, HX4.out⟩
 obtain ⟨j, rfl, hj, c2, c3, c4, har, hxx⟩ := hrel
 have HAR := qh har
 have HX := qh hxx
 clear har hxx HAR4 HX4
 obtain ⟨wo, hwo⟩ := exq wr
 subst hwo
 by_cases hlt : j < plen
 rotate_left
 · have hd3 : decide (j < plen) = false := decide_eq_false hlt
   have HRE9 := qh (HRE1.out.tape HAR.out.gr (fun a ha => (HRB.out a ha).2))
   have HT9 := qh HAR.out.tape
   have HG9 := qh HAR.out.gr
   have HZ9 := qh HAR.out.res
   obtain ⟨x0, x1, x2, x3, x4, x5, x6⟩ := HX.out.cs
   have z0 := HZ9.out.c0
   have zf0 := HZ9.out.free 0
   have z1 := HZ9.out.c1
   have zf1 := HZ9.out.free 1
   have z2 := HZ9.out.c2
   have zf2 := HZ9.out.free 2
   have z3 := HZ9.out.c3
   have zf3 := HZ9.out.free 3
   have z4 := HZ9.out.c4
   have zf4 := HZ9.out.free 4
   have z5 := HZ9.out.c5
   have zf5 := HZ9.out.free 5
   have z6 := HZ9.out.c6
   have zf6 := HZ9.out.free 6
   go_wp2
   exact bodyPost_ret (resultsAsk (((((((HZ9.out.s0 b0).s1 b1).s2 c2).s3 c3).s4 c4).s5 b5).s6 (.slice rd recs.length rc)) rfl) rfl (gives_ask (w1 := w1) (grow_trans HG1.out HG9.out) hZw hkZ HT9.out hb1 HTX.out h16 HRE9.out (fun a ha => (HRB.out a ha).1))
 have hd3 : decide (j < plen) = true := decide_eq_true hlt
 have hjl : (j : Int) < (plen : Int) := by omega
 obtain ⟨bk, off, m, rfl, hbk, hmm, hla, k0, k1, k2, k3⟩ := HAR.out.pds.get hlt
 have hmem := List.mem_of_getElem? hmm
 have hn5 := HFP.out m hmem
 have HLA := qh hla
 have HMA : Hid (∀ a, m.ad = some a → X < a.block) := HAR.out.ins m hmem
 clear hla hmm hmem hbk
 go_upto_region 7 with fail
 obtain ⟨w5, hw5⟩ := exq (wo.alloc (.cells #[.int .i64 m.p.id, .int .i64 m.p.epoch, .slice m.ad m.p.last.length m.cap, .int .i64 m.p.opn] 58))
 have hb5 := wbq hw5
 obtain ⟨P, hP⟩ := exq wo.heap.size
 have hPX : X < P := by rw [hP]; exact HX.out.lt
 have HP5 : Hid (PBox w5 P m.p.id m.p.epoch (.slice m.ad m.p.last.length m.cap) m.p.opn) := by rw [hw5, hP]; exact pbox_new wo _ _ _ _
 have HAR5 := qh (HAR.out.on hb5)
 have HX5 := qh (HX.out.on hb5)
 have HLA5 := qh (HLA.out.keep hb5)
 rw [← hw5, ← hP]
 clear hw5 hb5 hP k0 k1 k2 k3 HAR HX HLA
 have q0 := HP5.out.c0
 have q1 := HP5.out.c1
 have q2 := HP5.out.c2
 have q3 := HP5.out.c3
 have x1 := HX5.out.c1
 have x2 := HX5.out.c2
 have x5 := HX5.out.c5
 have f2 := HX5.out.free 2
 by_cases hid : m.p.id = b1
 rotate_left
 · have hd4 : (m.p.id == b1) = false := beq_false_of_ne hid
   have hd4n : (m.p.id != b1) = true := by unfold bne; rw [hd4]; rfl
   clear hid
   go_wp2
   go_roundw
   case rel => exact ⟨j + 1, by go_num, by omega, _, _, _, HAR5.out, HX5.out⟩
   simp [intOf]; omega
 have hd4 : (m.p.id == b1) = true := by rw [hid]; simp
 have hd4n : (m.p.id != b1) = false := by unfold bne; rw [hd4]; rfl
 clear hid
 go_upto_region 9 with fail
 obtain ⟨w6, hw6⟩ := exq (w5.setCell ⟨X, 2, none⟩ (.int .i64 m.p.epoch))
 have HX6 : Hid (BoxAt w6 X b0 b1 m.p.epoch c3 c4 b5 (.slice rd recs.length rc)) := by rw [hw6]; exact HX5.out.s2 _
 have HAR6 : Hid (AR w1 kt ad len cap Z X (some ⟨bk, off, none⟩) plen pcap ps w6) := by rw [hw6]; exact HAR5.out.s 2 _
 have HP6 : Hid (PBox w6 P m.p.id m.p.epoch (.slice m.ad m.p.last.length m.cap) m.p.opn) := by rw [hw6]; exact HP5.out.off (by omega) _
 have HLA6 : Hid (LastAt w6 m) := by show RowAt _ _ _ _ _ _; rw [hw6]; exact HLA5.out.off (fun a ha => by have := HMA.out a ha; omega) _ _
 rw [← hw6]
 clear hw6 HX5 HAR5 HP5 HLA5 q0 q1 q2 q3 x1 x2 x5 f2
 have x5 := HX6.out.c5
 by_cases hmk : b5 = 0
 rotate_left
 · have hd5 : (b5 == 0) = false := beq_false_of_ne hmk
   clear hmk
   go_wp2
   go_roundw
   case rel => exact ⟨j + 1, by go_num, by omega, _, _, _, HAR6.out, HX6.out⟩
   simp [intOf]; omega
 have hd5 : (b5 == 0) = true := by rw [hmk]; rfl
 clear hmk
 have x3 := HX6.out.c3
 have f3 := HX6.out.free 3
 go_upto_region 11 with fail
 obtain ⟨w7, hw7⟩ := exq (w6.setCell ⟨X, 3, none⟩ (.int .i64 0))
 have HX7 : Hid (BoxAt w7 X b0 b1 m.p.epoch 0 c4 b5 (.slice rd recs.length rc)) := by rw [hw7]; exact HX6.out.s3 _
 have HAR7 : Hid (AR w1 kt ad len cap Z X (some ⟨bk, off, none⟩) plen pcap ps w7) := by rw [hw7]; exact HAR6.out.s 3 _
 have HP7 : Hid (PBox w7 P m.p.id m.p.epoch (.slice m.ad m.p.last.length m.cap) m.p.opn) := by rw [hw7]; exact HP6.out.off (by omega) _
 have HLA7 : Hid (LastAt w7 m) := by show RowAt _ _ _ _ _ _; rw [hw7]; exact HLA6.out.off (fun a ha => by have := HMA.out a ha; omega) _ _
 rw [← hw7]
 clear hw7 HX6 HAR6 HP6 HLA6 x3 x5 f3
 obtain ⟨n, hn⟩ : ∃ n, m.p.last.length = n := ⟨_, rfl⟩
 rw [hn] at HP7 hn5
 have HN := qh hn
 clear hn
 have q2 := HP7.out.c2
 have q3 := HP7.out.c3
 go_upto_if 44 with (fail)
 go_cut [8] from 43 to 81 (fun s8 wx => s8 = .int .i64 (n : Int) ∧ ∃ y3, AR w1 kt ad len cap Z X (some ⟨bk, off, none⟩) plen pcap ps wx ∧ BoxAt wx X b0 b1 m.p.epoch y3 c4 b5 (.slice rd recs.length rc) ∧ PBox wx P m.p.id m.p.epoch (.slice m.ad n m.cap) m.p.opn ∧ LastAt wx m)
 case first =>
  by_cases h0 : n = 0
  · have hd6 : decide ((0 : Int) < (n : Int)) = false := decide_eq_false (by omega)
    have hd60 : decide (0 < n) = false := decide_eq_false (by omega)
    try rw [hd6]
    try rw [hd60]
    go_wp2
    go_meet
    case rel => exact ⟨rfl, _, HAR7.out, HX7.out, HP7.out, HLA7.out⟩
  have hd6 : decide ((0 : Int) < (n : Int)) = true := decide_eq_true (by omega)
  have hd60 : decide (0 < n) = true := decide_eq_true (by omega)
  try rw [hd6]
  try rw [hd60]
  obtain ⟨bl, ol, y, hmad, _, _, _, y1, _⟩ := tr_get HLA7.out (i := n - 1) (by rw [HN.out]; omega)
  have x3 := HX7.out.c3
  have f3 := HX7.out.free 3
  have hi1 : (1 : Int) ≤ (n : Int) := by omega
  have hi2 : (n : Int) - 1 < (n : Int) := by omega
  have hi3 : ((n : Int) - 1).toNat = n - 1 := by omega
  have hw1 : wrap64 ((n : Int) - 1) = (n : Int) - 1 := by unfold wrap64; omega
  rw [hmad] at q2
  obtain ⟨z3, hz3⟩ : ∃ z3, bits .and .i64 (wrap64 (y.l + 1)) 2147483647 = z3 := ⟨_, rfl⟩
  go_wp2
  go_meet
  case rel => exact ⟨rfl, z3, HAR7.out.s 3 _, HX7.out.s3 z3, HP7.out.off (by omega) _, HLA7.out.off (fun a ha => by have := HMA.out a ha; omega) _ _⟩
 case rest =>
  obtain ⟨rfl, y3, har, hxx, hpp, hla⟩ := hcut
  have HAR8 := qh har
  have HX8 := qh hxx
  have HP8 := qh hpp
  have HLA8 := qh hla
  clear har hxx hpp hla HAR7 HX7 HP7 HLA7 q2 q3
  have q2 := HP8.out.c2
  have q3 := HP8.out.c3
  have x4 := HX8.out.c4
  have f4 := HX8.out.free 4
  by_cases hop : 0 ≤ m.p.opn
  · have hd7 : decide (0 ≤ m.p.opn) = true := decide_eq_true hop
    clear hop
    go_upto_region 16 with fail
    obtain ⟨w9, hw9⟩ := exq (wc.setCell ⟨X, 4, none⟩ (.bool true))
    have HX9 : Hid (BoxAt w9 X b0 b1 m.p.epoch y3 true b5 (.slice rd recs.length rc)) := by rw [hw9]; exact HX8.out.s4 _
    have HAR9 : Hid (AR w1 kt ad len cap Z X (some ⟨bk, off, none⟩) plen pcap ps w9) := by rw [hw9]; exact HAR8.out.s 4 _
    have HP9 : Hid (PBox w9 P m.p.id m.p.epoch (.slice m.ad n m.cap) m.p.opn) := by rw [hw9]; exact HP8.out.off (by omega) _
    have HLA9 : Hid (LastAt w9 m) := by show RowAt _ _ _ _ _ _; rw [hw9]; exact HLA8.out.off (fun a ha => by have := HMA.out a ha; omega) _ _
    rw [← hw9]
    clear hw9 HX8 HAR8 HP8 HLA8 q2 q3 x4 f4
    by_cases h0 : n = 0
    · have hd6 : decide ((0 : Int) < (n : Int)) = false := decide_eq_false (by omega)
      have hd60 : decide (0 < n) = false := decide_eq_false (by omega)
      go_wp2
      go_roundw
      case rel => exact ⟨j + 1, by go_num, by omega, _, _, _, HAR9.out, HX9.out⟩
      simp [intOf]; omega
    have hd6 : decide ((0 : Int) < (n : Int)) = true := decide_eq_true (by omega)
    have hd60 : decide (0 < n) = true := decide_eq_true (by omega)
    obtain ⟨i9, ht9⟩ := HAR9.out.tape
    have HT9 := qh ht9
    clear ht9
    go_wp2_with fail
    refine (tapeNext_any w9 kt ad len cap i9 7 HT9.out (by omega) (by omega)).mono ?_
    rintro e w10 ⟨z7, i10, rfl, hz70, hz71, ht10, hg10⟩
    have HT10 := qh ht10
    have HAR10 := qh (HAR9.out.next hg10 ⟨i10, ht10⟩)
    have HX10 := qh (HX9.out.grows hg10 (fun e => by have := Option.some.inj e; omega))
    have HP10 := qh (HP9.out.grown hg10 (fun e => by have := Option.some.inj e; omega))
    have HLA10 : Hid (LastAt w10 m) := HLA9.out.grown hg10 (fun a ha e => by have := HMA.out a ha; have := Option.some.inj e; omega)
    clear ht10 hg10 HT9 HAR9 HX9 HP9 HLA9
    by_cases hz7 : z7 = 0
    rotate_left
    · have hd8 : (z7 == 0) = false := beq_false_of_ne hz7
      clear hz7 hz70 hz71
      go_wp2
      go_roundw
      case rel => exact ⟨j + 1, by go_num, by omega, _, _, _, HAR10.out, HX10.out⟩
      simp [intOf]; omega
    have hd8 : (z7 == 0) = true := by rw [hz7]; rfl
    clear hz7 hz70 hz71
    have KS : Hid (∀ W, PBox W P m.p.id m.p.epoch (.slice m.ad n m.cap) m.p.opn → (fun (W : World) => W.cell? ⟨P, 2, none⟩ = some (.slice m.ad n m.cap)) W) := fun W hW => hW.c2
    go_upto_region 17 with fail
    have hPd : PBox w10.drew P m.p.id m.p.epoch (.slice m.ad n m.cap) m.p.opn := HP10.out.on ((Below.refl _ w10).drew)
    refine wp_region_noPanic ?_
    refine zk [9] KS ?_
    have hHeld := KS.out _ hPd
    obtain ⟨u0, hu0⟩ := exq w10.drew
    have HBu0 : Hid (Below w10.heap.size w10 u0) := by rw [hu0]; exact (Below.refl _ w10).drew
    rw [← hu0] at hHeld hPd
    rw [← hu0]
    clear hu0
    have HTu0 := qh (HT10.out.on HBu0.out)
    have HARu0 := qh (HAR10.out.on HBu0.out)
    have HXu0 := qh (HX10.out.on HBu0.out)
    have HLAu0 : Hid (LastAt u0 m) := HLA10.out.keep HBu0.out
    refine zt 0 ?_
    refine zt 1 ?_
    refine zt 2 ?_
    refine zt 3 ?_
    refine zr 4 (fun C hC => ?_)
    go_simp
    refine (tapeNext_any u0 kt ad len cap i10 (n : Int) HTu0.out (by omega) (by omega)).mono ?_
    rintro e u1 ⟨vv, i11, rfl, hv0, hv1, ht11, hg11⟩
    have hPd1 := hPd.grown hg11 (fun e => by have := Option.some.inj e; omega)
    have HX11 := qh (HXu0.out.grows hg11 (fun e => by have := Option.some.inj e; omega))
    have HAR11 := qh (HARu0.out.next hg11 ⟨i11, ht11⟩)
    have HLA11 : Hid (LastAt u1 m) := HLAu0.out.grown hg11 (fun a ha e => by have := HMA.out a ha; have := Option.some.inj e; omega)
    obtain ⟨k, rfl⟩ : ∃ k : Nat, vv = (k : Int) := ⟨vv.toNat, by omega⟩
    clear ht11 hg11 hPd
    have hkn : k < n := by omega
    go_wp2_with fail
    have hHeld := KS.out _ hPd1
    refine zc hC hHeld ?_
    clear hC C
    obtain ⟨bl, ol, y, hmad, _, _, y0, _, _⟩ := tr_get HLA11.out (i := k) (by rw [HN.out]; omega)
    refine wpAnyZ_strengthen (S' := (fun (W : World) => W.cell? ⟨P, 2, none⟩ = some (.slice m.ad n m.cap) ∧ W.cell? ⟨bl, ol + k * 3, none⟩ = some (.int .i64 y.f))) (fun W h => h.1) _ _ _ _ ?_
    have hHeld2 : (fun (W : World) => W.cell? ⟨P, 2, none⟩ = some (.slice m.ad n m.cap) ∧ W.cell? ⟨bl, ol + k * 3, none⟩ = some (.int .i64 y.f)) u1 := ⟨hHeld, y0⟩
    clear hHeld
    have hHeld := hHeld2
    clear hHeld2 y0
    rw [hmad] at hHeld ⊢
    refine zt 5 ?_
    refine zt 6 ?_
    refine zt 7 ?_
    refine zt 8 ?_
    have x3 := HX11.out.c3
    have f3 := HX11.out.free 3
    refine zr 9 (fun C hC => ?_)
    go_simp
    refine zl hC ?_
    clear hC C
    refine zd ?_
    obtain ⟨w12, hw12⟩ := exq (u1.setCell ⟨X, 3, none⟩ (.int .i64 y.f))
    have HX12 : Hid (BoxAt w12 X b0 b1 m.p.epoch y.f true b5 (.slice rd recs.length rc)) := by rw [hw12]; exact HX11.out.s3 _
    have HAR12 : Hid (AR w1 kt ad len cap Z X (some ⟨bk, off, none⟩) plen pcap ps w12) := by rw [hw12]; exact HAR11.out.s 3 _
    try rw [← hw12]
    clear hw12 hHeld
    go_wp2
    go_roundw
    case rel => exact ⟨j + 1, by go_num, by omega, _, _, _, HAR12.out, HX12.out⟩
    simp [intOf]; omega
  have hd7 : decide (0 ≤ m.p.opn) = false := decide_eq_false hop
  clear hop
  go_upto_region 16 with fail
  obtain ⟨w9, hw9⟩ := exq (wc.setCell ⟨X, 4, none⟩ (.bool c4))
  have HX9 : Hid (BoxAt w9 X b0 b1 m.p.epoch y3 c4 b5 (.slice rd recs.length rc)) := by rw [hw9]; exact HX8.out.s4 _
  have HAR9 : Hid (AR w1 kt ad len cap Z X (some ⟨bk, off, none⟩) plen pcap ps w9) := by rw [hw9]; exact HAR8.out.s 4 _
  have HP9 : Hid (PBox w9 P m.p.id m.p.epoch (.slice m.ad n m.cap) m.p.opn) := by rw [hw9]; exact HP8.out.off (by omega) _
  have HLA9 : Hid (LastAt w9 m) := by show RowAt _ _ _ _ _ _; rw [hw9]; exact HLA8.out.off (fun a ha => by have := HMA.out a ha; omega) _ _
  rw [← hw9]
  clear hw9 HX8 HAR8 HP8 HLA8 q2 q3 x4 f4
  by_cases h0 : n = 0
  · have hd6 : decide ((0 : Int) < (n : Int)) = false := decide_eq_false (by omega)
    have hd60 : decide (0 < n) = false := decide_eq_false (by omega)
    go_wp2
    go_roundw
    case rel => exact ⟨j + 1, by go_num, by omega, _, _, _, HAR9.out, HX9.out⟩
    simp [intOf]; omega
  have hd6 : decide ((0 : Int) < (n : Int)) = true := decide_eq_true (by omega)
  have hd60 : decide (0 < n) = true := decide_eq_true (by omega)
  obtain ⟨i9, ht9⟩ := HAR9.out.tape
  have HT9 := qh ht9
  clear ht9
  go_wp2_with fail
  refine (tapeNext_any w9 kt ad len cap i9 7 HT9.out (by omega) (by omega)).mono ?_
  rintro e w10 ⟨z7, i10, rfl, hz70, hz71, ht10, hg10⟩
  have HT10 := qh ht10
  have HAR10 := qh (HAR9.out.next hg10 ⟨i10, ht10⟩)
  have HX10 := qh (HX9.out.grows hg10 (fun e => by have := Option.some.inj e; omega))
  have HP10 := qh (HP9.out.grown hg10 (fun e => by have := Option.some.inj e; omega))
  have HLA10 : Hid (LastAt w10 m) := HLA9.out.grown hg10 (fun a ha e => by have := HMA.out a ha; have := Option.some.inj e; omega)
  clear ht10 hg10 HT9 HAR9 HX9 HP9 HLA9
  by_cases hz7 : z7 = 0
  rotate_left
  · have hd8 : (z7 == 0) = false := beq_false_of_ne hz7
    clear hz7 hz70 hz71
    go_wp2
    go_roundw
    case rel => exact ⟨j + 1, by go_num, by omega, _, _, _, HAR10.out, HX10.out⟩
    simp [intOf]; omega
  have hd8 : (z7 == 0) = true := by rw [hz7]; rfl
  clear hz7 hz70 hz71
  have KS : Hid (∀ W, PBox W P m.p.id m.p.epoch (.slice m.ad n m.cap) m.p.opn → (fun (W : World) => W.cell? ⟨P, 2, none⟩ = some (.slice m.ad n m.cap)) W) := fun W hW => hW.c2
  go_upto_region 17 with fail
  have hPd : PBox w10.drew P m.p.id m.p.epoch (.slice m.ad n m.cap) m.p.opn := HP10.out.on ((Below.refl _ w10).drew)
  refine wp_region_noPanic ?_
  refine zk [9] KS ?_
  have hHeld := KS.out _ hPd
  obtain ⟨u0, hu0⟩ := exq w10.drew
  have HBu0 : Hid (Below w10.heap.size w10 u0) := by rw [hu0]; exact (Below.refl _ w10).drew
  rw [← hu0] at hHeld hPd
  rw [← hu0]
  clear hu0
  have HTu0 := qh (HT10.out.on HBu0.out)
  have HARu0 := qh (HAR10.out.on HBu0.out)
  have HXu0 := qh (HX10.out.on HBu0.out)
  have HLAu0 : Hid (LastAt u0 m) := HLA10.out.keep HBu0.out
  refine zt 0 ?_
  refine zt 1 ?_
  refine zt 2 ?_
  refine zt 3 ?_
  refine zr 4 (fun C hC => ?_)
  go_simp
  refine (tapeNext_any u0 kt ad len cap i10 (n : Int) HTu0.out (by omega) (by omega)).mono ?_
  rintro e u1 ⟨vv, i11, rfl, hv0, hv1, ht11, hg11⟩
  have hPd1 := hPd.grown hg11 (fun e => by have := Option.some.inj e; omega)
  have HX11 := qh (HXu0.out.grows hg11 (fun e => by have := Option.some.inj e; omega))
  have HAR11 := qh (HARu0.out.next hg11 ⟨i11, ht11⟩)
  have HLA11 : Hid (LastAt u1 m) := HLAu0.out.grown hg11 (fun a ha e => by have := HMA.out a ha; have := Option.some.inj e; omega)
  obtain ⟨k, rfl⟩ : ∃ k : Nat, vv = (k : Int) := ⟨vv.toNat, by omega⟩
  clear ht11 hg11 hPd
  have hkn : k < n := by omega
  go_wp2_with fail
  have hHeld := KS.out _ hPd1
  refine zc hC hHeld ?_
  clear hC C
  obtain ⟨bl, ol, y, hmad, _, _, y0, _, _⟩ := tr_get HLA11.out (i := k) (by rw [HN.out]; omega)
  refine wpAnyZ_strengthen (S' := (fun (W : World) => W.cell? ⟨P, 2, none⟩ = some (.slice m.ad n m.cap) ∧ W.cell? ⟨bl, ol + k * 3, none⟩ = some (.int .i64 y.f))) (fun W h => h.1) _ _ _ _ ?_
  have hHeld2 : (fun (W : World) => W.cell? ⟨P, 2, none⟩ = some (.slice m.ad n m.cap) ∧ W.cell? ⟨bl, ol + k * 3, none⟩ = some (.int .i64 y.f)) u1 := ⟨hHeld, y0⟩
  clear hHeld
  have hHeld := hHeld2
  clear hHeld2 y0
  rw [hmad] at hHeld ⊢
  refine zt 5 ?_
  refine zt 6 ?_
  refine zt 7 ?_
  refine zt 8 ?_
  have x3 := HX11.out.c3
  have f3 := HX11.out.free 3
  refine zr 9 (fun C hC => ?_)
  go_simp
  refine zl hC ?_
  clear hC C
  refine zd ?_
  obtain ⟨w12, hw12⟩ := exq (u1.setCell ⟨X, 3, none⟩ (.int .i64 y.f))
  have HX12 : Hid (BoxAt w12 X b0 b1 m.p.epoch y.f c4 b5 (.slice rd recs.length rc)) := by rw [hw12]; exact HX11.out.s3 _
  have HAR12 : Hid (AR w1 kt ad len cap Z X (some ⟨bk, off, none⟩) plen pcap ps w12) := by rw [hw12]; exact HAR11.out.s 3 _
  try rw [← hw12]
  clear hw12 hHeld
  go_wp2
  go_roundw
  case rel => exact ⟨j + 1, by go_num, by omega, _, _, _, HAR12.out, HX12.out⟩
  simp [intOf]; omega
end Go.Proofs.YtjmfdildnojknaaGreat
namespace Go.Proofs.YtjmfdildnojknaaGreat
open Go.RowKit
open Go.SeqMath
open Go.BatMath hiding AllB getD_lt take_all
open Go.VarMath (longB length_longB)
theorem tape_new {w : World} {ad : Option Addr} {len cap : Nat} {zs : List Int} (h : Nums w ad len zs) (hL : len ≤ 140737488355328) : TapeAt (w.alloc (.cells #[.slice ad len cap, .int .i64 0] 47)) w.heap.size ad len cap 0 := by
 refine ⟨heap_alloc_new w _, Nat.zero_le _, hL, fun j hj => ?_⟩
 rcases h.cells with h0 | ⟨b, off, e, hc⟩
 · omega
 have hcj := hc j hj
 have hb := World.block_lt_of_cell? w _ hcj
 refine ⟨b, off, zs.getD j 0, e, hb, ?_, ?_⟩
 · rw [((Below.refl w.heap.size w).alloc (Nat.le_refl _) _).cell (p := ⟨b, off + j, none⟩) hb]
   exact hcj
 have hl := h.length
 rw [List.getD_eq_getElem?_getD, List.getElem?_eq_getElem (by omega)]
 exact h.all _ (List.getElem_mem _)
end Go.Proofs.YtjmfdildnojknaaGreat
namespace Go.Proofs.YtjmfdildnojknaaGreat
open Go.RowKit
open Go.SeqMath
open Go.ProdMath
open Go.BatMath hiding AllB getD_lt take_all
theorem wf_right {b : Bat} (h : rightE b = 0) (hp : b.prod ≤ 9223372036854775807) : b.wf := by
 have := ok_of h
 exact ⟨⟨by have := this.base0; omega, by have := this.base1; omega⟩, ⟨by have := this.prod; omega, hp⟩, ⟨by have := this.epoch0; omega, by have := this.epoch1; omega⟩, ⟨by have := this.seq0; omega, by have := this.seq1; omega⟩, ⟨by have := this.marker0; omega, by have := this.marker1; omega⟩⟩
end Go.Proofs.YtjmfdildnojknaaGreat
namespace Go.Proofs.YtjmfdildnojknaaGreat
open Go.ProdMath
open Go.SeqMath
open Go.BatMath hiding AllB getD_lt take_all
theorem count_few {b : Bat} (h : rightE b = 0) : countD b ≤ 16 := by
 have := (ok_of h).recs
 unfold countD
 split <;> omega
def GrowsW (start : Int) (bs : List Bat) (r : (Int × Int) × List Bat) : Prop := RowW start r.2 ∧ r.2.length ≤ bs.length + 1 ∧ endD start r.2 ≤ endD start bs + 16
theorem putW_grows {cap start : Int} {bs : List Bat} {b : Bat} (h : RowW start bs) (hb : b.base = endD start bs) (hp : b.prod ≤ 9223372036854775807) : GrowsW start bs (putD cap start bs b) := by
 have h0 : ∀ x, GrowsW start bs (x, bs) := fun x => ⟨h, by show bs.length ≤ _; omega, by show endD start bs ≤ _; omega⟩
 unfold putD
 split
 · exact h0 _
 rename_i h1
 split
 · exact h0 _
 split
 · exact h0 _
 split
 · exact h0 _
 rename_i h3 h4
 have hz : (tcheckD (foldP [] bs) b).2 = 0 := Classical.byContradiction fun h => h1 h
 exact ⟨RowW.snoc h hb (wf_right (tcheck_right hz) hp) (tcheck_right hz) (by omega), by show (bs ++ [b]).length ≤ _; simp, by
  show endD start (bs ++ [b]) ≤ _
  rw [endD_snoc, hb]
  have := count_few (tcheck_right hz)
  omega⟩
theorem produceW_grows {cap start : Int} {bs : List Bat} {b : Bat} (h : RowW start bs) (hp : b.prod ≤ 9223372036854775807) : GrowsW start bs (produceD cap start bs b) := by
 have h0 : ∀ x, GrowsW start bs (x, bs) := fun x => ⟨h, by show bs.length ≤ _; omega, by show endD start bs ≤ _; omega⟩
 unfold produceD
 split
 · exact h0 _
 split
 · exact h0 _
 exact putW_grows h rfl hp
theorem markW_grows {cap start : Int} {bs : List Bat} {p e m : Int} (h : RowW start bs) (hp : p ≤ 9223372036854775807) : GrowsW start bs (markD cap start bs p e m) := by
 have h0 : ∀ x, GrowsW start bs (x, bs) := fun x => ⟨h, by show bs.length ≤ _; omega, by show endD start bs ≤ _; omega⟩
 unfold markD
 split
 · exact h0 _
 exact putW_grows h rfl hp
theorem rawW_grows {cap start : Int} {bs : List Bat} {x : List Nat} (h : RowW start bs) (hx : VarMath.AllB x) : GrowsW start bs (rawD cap start bs x) := by
 have h0 : ∀ y, GrowsW start bs (y, bs) := fun y => ⟨h, by show bs.length ≤ _; omega, by show endD start bs ≤ _; omega⟩
 unfold rawD
 split
 · exact h0 _
 rename_i he
 split
 · exact h0 _
 have he0 : (readD x).e = 0 := Classical.byContradiction fun h => he h
 have hg := ((reads_readD hx).fine he0).1
 exact produceW_grows h hg.wf.prod.2
end Go.Proofs.YtjmfdildnojknaaGreat
namespace Go.Proofs.YtjmfdildnojknaaGreat
open Go.RowKit
structure Kept (w w' : World) (F : Nat → Prop) : Prop where
 os : w'.os = w.os
 tape : w'.tape = w.tape
 output : w'.output = w.output
 size : w.heap.size ≤ w'.heap.size
 block : ∀ j, j < w.heap.size → ¬ F j → w'.heap[j]? = w.heap[j]?
section
variable {w w1 w2 : World} {F G : Nat → Prop}
theorem Kept.refl (w : World) (F : Nat → Prop) : Kept w w F := ⟨rfl, rfl, rfl, Nat.le_refl _, fun _ _ _ => rfl⟩
theorem Kept.trans (h : Kept w w1 F) (h2 : Kept w1 w2 G) (hg : ∀ i, G i → F i ∨ w.heap.size ≤ i) : Kept w w2 F :=
 ⟨h2.os.trans h.os, h2.tape.trans h.tape, h2.output.trans h.output, Nat.le_trans h.size h2.size, fun j hj hn => (h2.block j (Nat.lt_of_lt_of_le hj h.size) fun e => by
  rcases hg j e with h3 | h3
  · exact hn h3
  omega).trans (h.block j hj hn)⟩
theorem Kept.of_grown {k : Nat} (h : w.grownBy w1 (some k)) (hk : F k ∨ w.heap.size ≤ k) : Kept w w1 F := ⟨h.os, h.tape, h.output, h.size, fun j hj hn => h.block j hj fun e => by
 cases e
 rcases hk with h1 | h1
 · exact hn h1
 omega⟩
theorem Kept.of_own {v : Value} (h : w.grownBy w1 v.ownBlock) (hv : ∀ k, v.ownBlock = some k → F k ∨ w.heap.size ≤ k) : Kept w w1 F := ⟨h.os, h.tape, h.output, h.size, fun j hj hn => h.block j hj fun e => by
 rcases hv j e.symm with h1 | h1
 · exact hn h1
 omega⟩
theorem Kept.of_below (h : Below w.heap.size w w1) : Kept w w1 F := ⟨h.os, h.tape, h.output, h.size, fun j hj _ => h.block j hj⟩
theorem Kept.more (h : Kept w w1 F) (hf : ∀ i, F i → G i) : Kept w w1 G := ⟨h.os, h.tape, h.output, h.size, fun j hj hn => h.block j hj fun e => hn (hf j e)⟩
theorem Kept.below {B : Nat} (h : Kept w w1 F) (hf : ∀ i, F i → B ≤ i) (hB : B ≤ w.heap.size) : Below B w w1 := ⟨h.os, h.tape, h.output, h.size, fun j hj => h.block j (by omega) fun e => by have := hf j e; omega⟩
theorem Kept.row {α : Type} {K : Kind α} {ad : Option Addr} {len cap : Nat} {l : List α} (hk : Kept w w1 F) (hr : RowAt K w ad len cap l) (ha : ∀ a, ad = some a → ¬ F a.block) : RowAt K w1 ad len cap l := by
 refine ⟨hr.length, hr.fits, hr.room, ?_⟩
 rcases hr.cells with h0 | ⟨b, off, e, hlt, hc⟩
 · exact .inl h0
 refine .inr ⟨b, off, e, Nat.lt_of_lt_of_le hlt hk.size, fun i x hi j u hj => ?_⟩
 have h1 := hc i x hi j u hj
 have e1 := hk.block b hlt (ha _ e)
 unfold World.cell? at h1 ⊢
 simp only [e1]
 exact h1
end
theorem OwnRow.same {α : Type} {K : Kind α} {w w' : World} {base : Nat} {v : Value} {l : List α} (h : OwnRow K w base v l) (hs : ∀ q, v.ownBlock = some q → w'.heap[q]? = w.heap[q]?) : OwnRow K w' base v l := by
 refine ⟨h.1, ?_⟩
 rcases h.2 with h0 | ⟨g, cap, cur, h1, h2, h3, h4⟩
 · exact .inl h0
 exact .inr ⟨g, cap, cur, h1, h2, (hs g (by rw [h1]; rfl)).trans h3, h4⟩
end Go.Proofs.YtjmfdildnojknaaGreat
namespace Go.Proofs.YtjmfdildnojknaaGreat
open Go.RowKit
open Go.FoMath
open Go.ProdMath
open Go.BatMath hiding AllB getD_lt take_all In64
structure LogRow (s : Int) (bs : List Bat) : Prop where
 row : RowW s bs
 lo : 0 ≤ s
 hi : s ≤ 1099511627776
 few : bs.length ≤ 5000
theorem LogRow.ok {s : Int} {bs : List Bat} (h : LogRow s bs) : RowOk bs := rowW_ok h.row
theorem LogRow.fo {s : Int} {bs : List Bat} (h : LogRow s bs) : FoRow s bs := foRow_ofW h.row h.lo h.hi
theorem LogRow.end_ {s : Int} {bs : List Bat} (h : LogRow s bs) : 0 ≤ endD s bs ∧ endD s bs ≤ 1099511627776 := by
 have h1 := rowW_end h.row h.hi
 have h2 := h.lo
 omega
abbrev LogP := (Nat → Prop) → World → Addr → Int → Int → List Bat → Prop
def LTurns (R : LogP) (F : Nat → Prop) (W : World) (a : Addr) (c : Int) (s : Int) (bs : List Bat) (v : Value) (e : Ending) (w' : World) : Prop :=
 ∃ F', e = .returned v ∧ R F' w' a c s bs ∧ Kept W w' F ∧ ∀ k, F' k → F k ∨ W.heap.size ≤ k
def LMakes (R : LogP) (W : World) (c s : Int) (bs : List Bat) (e : Ending) (w' : World) : Prop :=
 ∃ a F, e = .returned (.pointer (some a)) ∧ R F w' a c s bs ∧ (∀ k, F k → W.heap.size ≤ k) ∧ Below W.heap.size W w'
def LBats (F : Nat → Prop) (W : World) (bs : List Bat) (e : Ending) (w' : World) : Prop :=
 ∃ ad len cap ms, e = .returned (.slice ad len cap) ∧ BatsAt w' ad len cap ms ∧ bats ms = bs ∧ (∀ a, ad = some a → ¬ F a.block ∧ a.block < w'.heap.size) ∧ (∀ m ∈ ms, ∀ a, m.ad = some a → ¬ F a.block ∧ a.block < w'.heap.size) ∧ Below W.heap.size W w'
def LPds (F : Nat → Prop) (W : World) (ps : List Pd) (e : Ending) (w' : World) : Prop :=
 ∃ ad len cap ms, e = .returned (.slice ad len cap) ∧ PdsAt w' ad len cap ms ∧ pds ms = ps ∧ (∀ a, ad = some a → ¬ F a.block ∧ a.block < w'.heap.size) ∧ (∀ m ∈ ms, ∀ a, m.ad = some a → ¬ F a.block ∧ a.block < w'.heap.size) ∧ Below W.heap.size W w'
structure MdCode (R : LogP) : Prop where
 lt : ∀ F W a c s bs, R F W a c s bs → ∀ k, F k → k < W.heap.size
 kept : ∀ F G W W' a c s bs, R F W a c s bs → Kept W W' G → (∀ k, F k → ¬ G k) → R F W' a c s bs
 new : ∀ W (x y z c : Int), 1 ≤ c → c ≤ 1073741824 → Calls Tryz.prog 13 #[.agg #[.int .i64 x, .int .i64 y, .int .i64 z, .int .i64 c]] W (LMakes R W c 0 [])
 produce : ∀ F W a c s bs (b : Bat) rd rc, R F W a c s bs → LogRow s bs → RecsAt W rd b.recs.length rc b.recs → TextsOk b.recs → b.recs.length ≤ 140737488355328 → b.prod ≤ 9223372036854775807 →
  Calls Tryz.prog 17 #[.pointer (some a), .agg #[.int .i64 b.base, .int .i64 b.prod, .int .i64 b.epoch, .int .i64 b.seq, .bool b.txn, .int .i64 b.marker, .slice rd b.recs.length rc]] W (LTurns R F W a c s (produceD c s bs b).2 (.tuple #[.int .i64 (produceD c s bs b).1.1, .int .i64 (produceD c s bs b).1.2]))
 raw : ∀ F W a c s bs pad plen pcap (x : List Nat), R F W a c s bs → LogRow s bs → Byt W pad plen pcap x → plen ≤ 140737488355328 →
  Calls Tryz.prog 34 #[.pointer (some a), .slice pad plen pcap] W (LTurns R F W a c s (rawD c s bs x).2 (.tuple #[.int .i64 (rawD c s bs x).1.1, .int .i64 (rawD c s bs x).1.2]))
 mark : ∀ F W a c s bs (p ep m : Int), R F W a c s bs → LogRow s bs → p ≤ 9223372036854775807 →
  Calls Tryz.prog 15 #[.pointer (some a), .int .i64 p, .int .i64 ep, .int .i64 m] W (LTurns R F W a c s (markD c s bs p ep m).2 (.tuple #[.int .i64 (markD c s bs p ep m).1.1, .int .i64 (markD c s bs p ep m).1.2]))
 fetch : ∀ F W a c s bs (o n : Int) (only : Bool), R F W a c s bs → LogRow s bs →
  Calls Tryz.prog 29 #[.pointer (some a), .int .i64 o, .int .i64 n, .bool only] W (GivesFd W (fetchD s bs o n only))
 keep : ∀ F W a c s bs (fr : Int), R F W a c s bs → LogRow s bs →
  Calls Tryz.prog 27 #[.pointer (some a), .int .i64 fr] W (LTurns R F W a c (keepD s fr bs).1 (keepD s fr bs).2 (.int .i64 (keepD s fr bs).1))
 start : ∀ F W a c s bs, R F W a c s bs → LogRow s bs → Calls Tryz.prog 26 #[.pointer (some a)] W (GivesI W s)
 end_ : ∀ F W a c s bs, R F W a c s bs → LogRow s bs → Calls Tryz.prog 19 #[.pointer (some a)] W (GivesI W (endD s bs))
 batches : ∀ F W a c s bs, R F W a c s bs → LogRow s bs → Calls Tryz.prog 21 #[.pointer (some a)] W (LBats F W bs)
 producers : ∀ F W a c s bs, R F W a c s bs → LogRow s bs → Calls Tryz.prog 20 #[.pointer (some a)] W (LPds F W (foldP [] bs))
 cut : ∀ F W a c s bs (k : Nat), R F W a c s bs → LogRow s bs → k ≤ bs.length → Calls Tryz.prog 37 #[.pointer (some a), .int .i64 (k : Int)] W (LTurns R F W a c s (bs.take k) (.tuple #[]))
 copy : ∀ F W a c s bs, R F W a c s bs → LogRow s bs → Calls Tryz.prog 36 #[.pointer (some a)] W (LMakes R W c s bs)
section
variable {R : LogP}
theorem MdCode.keep' (C : MdCode R) {F : Nat → Prop} {W W' : World} {a : Addr} {c s : Int} {bs : List Bat} (h : R F W a c s bs) (hb : Below W.heap.size W W') : R F W' a c s bs := C.kept F (fun _ => False) W W' a c s bs h (Kept.of_below hb) (fun k _ h => h)
end
structure LogAt (R : LogP) (B : Nat) (X : Nat → Prop) (W : World) (a : Addr) (c s : Int) (bs : List Bat) : Prop where
 is : ∃ F, R F W a c s bs ∧ (∀ k, F k → B ≤ k) ∧ ∀ k, F k → ¬ X k
 row : LogRow s bs
section
variable {R : LogP} {B : Nat} {X : Nat → Prop} {W W' : World} {a : Addr} {c s : Int} {bs : List Bat}
theorem LogAt.on (C : MdCode R) (h : LogAt R B X W a c s bs) (hb : Below W.heap.size W W') : LogAt R B X W' a c s bs := by
 obtain ⟨F, h1, h2⟩ := h.is
 exact ⟨⟨F, C.keep' h1 hb, h2⟩, h.row⟩
theorem LogAt.other (C : MdCode R) (h : LogAt R B X W a c s bs) {G : Nat → Prop} (hk : Kept W W' G) (hg : ∀ k, G k → X k ∨ k < B ∨ W.heap.size ≤ k) : LogAt R B X W' a c s bs := by
 obtain ⟨F, h1, h2, h3⟩ := h.is
 refine ⟨⟨F, C.kept F G W W' a c s bs h1 hk (fun k hf hgk => ?_), h2, h3⟩, h.row⟩
 rcases hg k hgk with h4 | h4 | h4
 · exact h3 k hf h4
 · have := h2 k hf; omega
 have := C.lt F W a c s bs h1 k hf; omega
theorem LogAt.made (C : MdCode R) {e : Ending} (h : LMakes R W c s bs e W') (hr : LogRow s bs) (hB : B ≤ W.heap.size) (hX : ∀ k, X k → k < W.heap.size) : ∃ a, e = .returned (.pointer (some a)) ∧ LogAt R B X W' a c s bs ∧ Below W.heap.size W W' := by
 obtain ⟨a, F, e1, h1, h2, h3⟩ := h
 exact ⟨a, e1, ⟨⟨F, h1, fun k hk => by have := h2 k hk; omega, fun k hk hx => by have := h2 k hk; have := hX k hx; omega⟩, hr⟩, h3⟩
theorem LogAt.turn {F : Nat → Prop} {s' : Int} {bs' : List Bat} {v : Value} {e : Ending} (h : LTurns R F W a c s' bs' v e W') (hr : LogRow s' bs') (hF : ∀ k, F k → B ≤ k) (hFX : ∀ k, F k → ¬ X k) (hB : B ≤ W.heap.size) (hX : ∀ k, X k → k < W.heap.size) : e = .returned v ∧ LogAt R B X W' a c s' bs' ∧ Kept W W' (fun k => B ≤ k ∧ ¬ X k) := by
 obtain ⟨F', e1, h1, h2, h3⟩ := h
 refine ⟨e1, ⟨⟨F', h1, fun k hk => ?_, fun k hk hx => ?_⟩, hr⟩, h2.more fun k hk => ⟨hF k hk, hFX k hk⟩⟩
 · rcases h3 k hk with h4 | h4
   · exact hF k h4
   omega
 rcases h3 k hk with h4 | h4
 · exact hFX k h4 hx
 have := hX k hx; omega
end
theorem LogAt.more {R : LogP} {B : Nat} {X X' : Nat → Prop} {W : World} {a : Addr} {c s : Int} {bs : List Bat} (C : MdCode R) (h : LogAt R B X W a c s bs) (hx : ∀ k, X' k → X k ∨ W.heap.size ≤ k) : LogAt R B X' W a c s bs := by
 obtain ⟨F, h1, h2, h3⟩ := h.is
 refine ⟨⟨F, h1, h2, fun k hf hk => ?_⟩, h.row⟩
 rcases hx k hk with h4 | h4
 · exact h3 k hf h4
 have := C.lt F W a c s bs h1 k hf; omega
theorem LogAt.claim {R : LogP} {B : Nat} {X : Nat → Prop} {W : World} {a : Addr} {c s : Int} {bs : List Bat} (h : LogAt R B X W a c s bs) : ∃ F, R F W a c s bs ∧ (∀ k, F k → B ≤ k) ∧ (∀ k, F k → ¬ X k) ∧ ∀ X' : Nat → Prop, (∀ k, F k → ¬ X' k) → LogAt R B X' W a c s bs := by
 obtain ⟨F, h1, h2, h3⟩ := h.is
 exact ⟨F, h1, h2, h3, fun X' hx => ⟨⟨F, h1, h2, hx⟩, h.row⟩⟩
theorem LogAt.less {R : LogP} {B : Nat} {X X' : Nat → Prop} {W : World} {a : Addr} {c s : Int} {bs : List Bat} (h : LogAt R B X W a c s bs) (hx : ∀ k, X' k → X k) : LogAt R B X' W a c s bs := by
 obtain ⟨F, h1, h2, h3⟩ := h.is
 exact ⟨⟨F, h1, h2, fun k hf h => h3 k hf (hx k h)⟩, h.row⟩
theorem Kept.box {W W' : World} {G : Nat → Prop} (hk : Kept W W' G) {k : Nat} {b : Obj} (h : W.heap[k]? = some b) (hg : ¬ G k) : W'.heap[k]? = some b := (hk.block k (lt_of_block h) hg).trans h
theorem RecsAt.kept {W W' : World} {G : Nat → Prop} {ad : Option Addr} {len cap : Nat} {l : List Rc} (hk : Kept W W' G) (h : RecsAt W ad len cap l) (h1 : ∀ a, ad = some a → ¬ G a.block) : RecsAt W' ad len cap l := recsAt_row.2 (hk.row (recsAt_row.1 h) h1)
theorem BatsAt.kept {W W' : World} {G : Nat → Prop} {ad : Option Addr} {len cap : Nat} {ms : List BM} (h : BatsAt W ad len cap ms) (hk : Kept W W' G) (h1 : ∀ a, ad = some a → ¬ G a.block) (h2 : ∀ m ∈ ms, ∀ a, m.ad = some a → ¬ G a.block) : BatsAt W' ad len cap ms :=
 ⟨hk.row h.row h1, fun m hm => recsAt_row.2 (hk.row (recsAt_row.1 (h.ins m hm)) (h2 m hm))⟩
theorem PdsAt.kept {W W' : World} {G : Nat → Prop} {ad : Option Addr} {len cap : Nat} {ms : List PM} (h : PdsAt W ad len cap ms) (hk : Kept W W' G) (h1 : ∀ a, ad = some a → ¬ G a.block) (h2 : ∀ m ∈ ms, ∀ a, m.ad = some a → ¬ G a.block) : PdsAt W' ad len cap ms :=
 ⟨hk.row h.row h1, fun m hm => hk.row (h.ins m hm) (h2 m hm)⟩
end Go.Proofs.YtjmfdildnojknaaGreat
