/- Parts of a proof, merged: ModAsk, BatLaw2, ModRow, TapeRow, SnNumbers. -/
import Derived.Deep.RegionHeld3
import Derived.Test.YtgohekjkbgfeeaaGreatKg20
import Derived.Test.YtgohekjkbgfeeaaGreatKg6
import Derived.Test.YtgohekjkbgfeeaaGreatKg3
import Derived.Test.YtgohekjkbgfeeaaGreatKg2
import Derived.Test.YtgohekjkbgfeeaaGreatKg5
import Derived.Test.YtgohekjkbgfeeaaGreatKg19
namespace Go.Proofs.YtgohekjkbgfeeaaGreat
open Go.RowKit
open Go.SeqMath
open Go.ProdMath
open Go.BatMath hiding AllB getD_lt take_all
set_option linter.unusedVariables false

/-- All but the batch under way. -/
structure AR (w1 : World) (kt : Nat) (ad : Option Addr) (len cap Z X : Nat) (pad : Option Addr) (plen pcap : Nat) (ps : List PM) (W : World) : Prop where
  tape : TapeT W kt ad len cap
  res : BoxAt W Z 0 0 0 0 false 0 (.slice none 0 0)
  pds : PdsAt W pad plen pcap ps
  gr : w1.grownBy W (some kt)
  row : ∀ a, pad = some a → X < a.block
  ins : ∀ m ∈ ps, ∀ a, m.ad = some a → X < a.block
  lt : kt < Z
  zx : Z < X
  x1 : w1.heap.size ≤ X
section
variable {w1 W W' : World} {kt len cap Z X plen pcap : Nat} {ad pad : Option Addr} {ps : List PM}
theorem AR.s (h : AR w1 kt ad len cap Z X pad plen pcap ps W) (j : Nat) (u : Value) : AR w1 kt ad len cap Z X pad plen pcap ps (W.setCell ⟨X, j, none⟩ u) := by
  have h1 := h.lt
  have h2 := h.zx
  refine ⟨h.tape.other (by omega) _, h.res.off (by omega) _, ⟨h.pds.row.off (fun a ha => by have := h.row a ha; omega) _ _, fun m hm => (h.pds.ins m hm).off (fun a ha => by have := h.ins m hm a ha; omega) _ _⟩, grow_new h.gr h.x1 _, h.row, h.ins, h.lt, h.zx, h.x1⟩
theorem AR.on (h : AR w1 kt ad len cap Z X pad plen pcap ps W) (hb : Below W.heap.size W W') : AR w1 kt ad len cap Z X pad plen pcap ps W' := by
  obtain ⟨i, ht⟩ := h.tape
  exact ⟨⟨i, ht.on hb⟩, h.res.on hb, h.pds.keep hb, grow_below h.gr hb, h.row, h.ins, h.lt, h.zx, h.x1⟩
theorem AR.next (h : AR w1 kt ad len cap Z X pad plen pcap ps W) (hg : W.grownBy W' (some kt)) (ht : TapeT W' kt ad len cap) : AR w1 kt ad len cap Z X pad plen pcap ps W' := by
  have h1 := h.lt
  have h2 := h.zx
  refine ⟨ht, h.res.grows hg (fun e => by have := Option.some.inj e; omega), ⟨h.pds.row.grown hg (fun a ha e => by have := h.row a ha; have := Option.some.inj e; omega), fun m hm => (h.pds.ins m hm).grown hg fun a ha e => by have := h.ins m hm a ha; have := Option.some.inj e; omega⟩, grow_trans h.gr hg, h.row, h.ins, h.lt, h.zx, h.x1⟩
end
def GivesAsk (w : World) (kt : Nat) (ad : Option Addr) (len cap : Nat) (e : Ending) (w' : World) : Prop :=
  ∃ b0 b1 b2 b3 b4 b5 recs rd rc, e = .returned (.agg #[.int .i64 b0, .int .i64 b1, .int .i64 b2, .int .i64 b3, .bool b4, .int .i64 b5, .slice rd (List.length recs) rc]) ∧ Hid (b1 ≤ 9223372036854775807) ∧ Hid (TextsOk recs) ∧ Hid (recs.length ≤ 16) ∧ Hid (RecsAt w' rd recs.length rc recs) ∧ Hid (TapeT w' kt ad len cap) ∧ Hid (w.grownBy w' (some kt))
theorem resultsAsk {tmps : Array Value} {B : Nat} {W : World} {b0 b1 b2 b3 : Int} {b4 : Bool} {b5 : Int} {v : Value} (h : BoxAt W B b0 b1 b2 b3 b4 b5 v) (ht : tmps.getD 4 undef = .pointer (some ⟨B, 0, none⟩)) :
    (results Tryz.f24 tmps).run Tryz.prog W = .ok (.agg #[.int .i64 b0, .int .i64 b1, .int .i64 b2, .int .i64 b3, .bool b4, .int .i64 b5, v]) W := by
  rw [results_cell_one (p := 4) (ty := 56) Tryz.results24, ht]
  have hl := run_loadVar_row (P := Tryz.prog) W B 56 56 _ (0, 0) _ h Tryz.underlying56 rfl (by kernel_rfl)
  simp only [asAddr, Sem.run_pure, Result.andThen, hl]
theorem gives_ask {w w1 W : World} {kt len cap Z : Nat} {ad : Option Addr} {b0 b1 b2 b3 : Int} {b4 : Bool} {b5 : Int} {recs : List Rc} {rd : Option Addr} {rc : Nat} {u0 u1 u2 u3 u4 u5 u6 : Value} (hw : w.grownBy W (some kt)) (hZ : w.heap.size ≤ Z) (hk : kt < Z) (ht : TapeT W kt ad len cap) (hp : b1 ≤ 9223372036854775807) (hx : TextsOk recs) (hn : recs.length ≤ 16) (hr : RecsAt W rd recs.length rc recs) (hb : ∀ a, rd = some a → Z < a.block) :
    GivesAsk w kt ad len cap (.returned (.agg #[.int .i64 b0, .int .i64 b1, .int .i64 b2, .int .i64 b3, .bool b4, .int .i64 b5, .slice rd recs.length rc])) (((((((W.setCell ⟨Z, 0, none⟩ u0).setCell ⟨Z, 1, none⟩ u1).setCell ⟨Z, 2, none⟩ u2).setCell ⟨Z, 3, none⟩ u3).setCell ⟨Z, 4, none⟩ u4).setCell ⟨Z, 5, none⟩ u5).setCell ⟨Z, 6, none⟩ u6) :=
  ⟨b0, b1, b2, b3, b4, b5, recs, rd, rc, rfl, hp, hx, hn, ((((((hr.put hb).put hb).put hb).put hb).put hb).put hb).put hb, ((((((ht.other hk _).other hk _).other hk _).other hk _).other hk _).other hk _).other hk _, grow_new (grow_new (grow_new (grow_new (grow_new (grow_new (grow_new hw hZ _) hZ _) hZ _) hZ _) hZ _) hZ _) hZ _⟩
set_option maxRecDepth 100000 in
set_option maxHeartbeats 8000000 in
theorem ask_any (w : World) (kt : Nat) (ad : Option Addr) (len cap i : Nat) (ht : TapeAt w kt ad len cap i) (km : Nat) (mc start : Int) (mad : Option Addr) (mlen mcap : Nat) (ms : List BM) (hm : MOk w km mc start mad mlen mcap ms) (hkm : kt < km) (hL : mlen ≤ 99999) (hok : RowOk (bats ms)) :
    Calls Tryz.prog 24 #[.pointer (some ⟨kt, 0, none⟩), .pointer (some ⟨km, 0, none⟩)] w (GivesAsk w kt ad len cap) := by
  have hktw := ht.lt
  obtain ⟨W0, hW0⟩ : ∃ W0, W0 = w.alloc (.cells #[.int .i64 0, .int .i64 0, .int .i64 0, .int .i64 0, .bool false, .int .i64 0, .slice none 0 0] 56) := ⟨_, rfl⟩
  have hb0 : Below w.heap.size w W0 := by rw [hW0]; exact (Below.refl _ _).alloc (Nat.le_refl _) _
  have HZ0 : Hid (BoxAt W0 w.heap.size 0 0 0 0 false 0 (.slice none 0 0)) := by show BoxAt _ _ _ _ _ _ _ _ _; rw [hW0]; exact boxAt_new w _ _ _ _ _ _ _
  have HT0 := Lib.hid (ht.on hb0)
  have HM0 := Lib.hid (hm.keep hb0)
  have HG0 : Hid (w.grownBy W0 (some kt)) := grow_below (grow_refl w _) hb0
  have hs0 : w.heap.size + 1 ≤ W0.heap.size := HZ0.out.lt
  have HOK := Lib.hid hok
  have HW0 := Lib.hid hW0
  clear ht hm hb0 hW0 hok
  obtain ⟨Z, hZ⟩ : ∃ Z, Z = w.heap.size := ⟨_, rfl⟩
  have hZw : w.heap.size ≤ Z := by omega
  have hkZ : kt < Z := by omega
  have hZ0 : Z + 1 ≤ W0.heap.size := by omega
  rw [← hZ] at HZ0
  go_enter Tryz.func24, Tryz.ntmps24
  go_upto_region 1 with fail
  rw [← HW0.out, ← hZ]
  clear HW0 hZ hs0
  go_wp2_with fail
  refine (tapeBatch_any W0 kt ad len cap i 0 HT0.out (by omega) (by omega)).mono ?_
  rintro e w1 ⟨b, rd, rc, rfl, hb00, hbr, hbw, hre, hrb, ht1, hg1⟩
  have hbo := ok_of hbr
  have hb1 := hbw.prod.2
  have h16 := hbo.recs
  have HTX := Lib.hid (texts_of hbo.texts)
  have HRE1 := Lib.hid hre
  have HRB : Hid (∀ a, rd = some a → Z < a.block ∧ a.block ≠ kt) := fun a ha => by have := hrb a ha; exact ⟨by omega, by omega⟩
  have HT1 := Lib.hid ht1
  have HG1 := Lib.hid (grow_trans HG0.out hg1)
  have HM1 := Lib.hid (HM0.out.grown hg1 (by omega) (fun a ha e => by have := (HM0.out.row a ha).1; omega) (fun m hm a ha e => by have := (HM0.out.ins m hm a ha).1; omega))
  have HZ1 := Lib.hid (HZ0.out.tape hg1 (by omega))
  have hs1 : Z + 1 ≤ w1.heap.size := Nat.le_trans hZ0 hg1.size
  clear hb00 hbr hbw hbo hre hrb ht1 hg1 HT0 HG0 HM0 HZ0
  obtain ⟨b0, b1, b2, b3, b4, b5, recs⟩ := b
  simp only at hb1 h16 HTX HRE1
  simp only
  go_upto_region 2 with fail
  obtain ⟨w2, hw2⟩ : ∃ w2, w2 = w1.alloc (.cells #[.int .i64 b0, .int .i64 b1, .int .i64 b2, .int .i64 b3, .bool b4, .int .i64 b5, .slice rd recs.length rc] 56) := ⟨_, rfl⟩
  have hb2 : Below w1.heap.size w1 w2 := by rw [hw2]; exact (Below.refl _ _).alloc (Nat.le_refl _) _
  obtain ⟨X, hX⟩ : ∃ X, X = w1.heap.size := ⟨_, rfl⟩
  have HX2 : Hid (BoxAt w2 X b0 b1 b2 b3 b4 b5 (.slice rd recs.length rc)) := by show BoxAt _ _ _ _ _ _ _ _ _; rw [hw2, hX]; exact boxAt_new w1 _ _ _ _ _ _ _
  have hZX : Z < X := by omega
  have hX1 : w1.heap.size ≤ X := by omega
  obtain ⟨i1, ht1⟩ := HT1.out
  have HT2 : Hid (TapeAt w2 kt ad len cap i1) := ht1.on hb2
  have HZ2 := Lib.hid (HZ1.out.on hb2)
  have HM2 := Lib.hid (HM1.out.keep hb2)
  have HG2 : Hid (w1.grownBy w2 (some kt)) := grow_below (grow_refl w1 _) hb2
  rw [← hw2, ← hX]
  clear hw2 hb2 hX HT1 HZ1 HM1 ht1
  have x1 := HX2.out.c1
  by_cases hp : b1 < 0
  · have hd : decide (b1 < 0) = true := decide_eq_true hp
    have HRE2 := Lib.hid (HRE1.out.tape HG2.out (fun a ha => (HRB.out a ha).2))
    clear x1 hp
    have x0 := HX2.out.c0
    have x1 := HX2.out.c1
    have x2 := HX2.out.c2
    have x3 := HX2.out.c3
    have x4 := HX2.out.c4
    have x5 := HX2.out.c5
    have x6 := HX2.out.c6
    have z0 := HZ2.out.c0
    have zf0 := HZ2.out.free 0
    have z1 := HZ2.out.c1
    have zf1 := HZ2.out.free 1
    have z2 := HZ2.out.c2
    have zf2 := HZ2.out.free 2
    have z3 := HZ2.out.c3
    have zf3 := HZ2.out.free 3
    have z4 := HZ2.out.c4
    have zf4 := HZ2.out.free 4
    have z5 := HZ2.out.c5
    have zf5 := HZ2.out.free 5
    have z6 := HZ2.out.c6
    have zf6 := HZ2.out.free 6
    go_wp2
    exact bodyPost_ret (resultsAsk (((((((HZ2.out.s0 b0).s1 b1).s2 b2).s3 b3).s4 b4).s5 b5).s6 (.slice rd recs.length rc)) rfl) rfl (gives_ask (w1 := w1) (grow_trans HG1.out HG2.out) hZw hkZ ⟨i1, HT2.out⟩ hb1 HTX.out h16 HRE2.out (fun a ha => (HRB.out a ha).1))
  · have hd : decide (b1 < 0) = false := decide_eq_false hp
    clear hp
    go_wp2_with fail
    refine (tapeNext_any w2 kt ad len cap i1 8 HT2.out (by omega) (by omega)).mono ?_
    rintro e w3 ⟨z, i3, rfl, hz0, hz1, ht3, hg3⟩
    have HT3 := Lib.hid ht3
    have HX3 := Lib.hid (HX2.out.tape hg3 (by omega))
    have HZ3 := Lib.hid (HZ2.out.tape hg3 (by omega))
    have HG3 := Lib.hid (grow_trans HG2.out hg3)
    have HM3 := Lib.hid (HM2.out.grown hg3 (by omega) (fun a ha e => by have := (HM2.out.row a ha).1; omega) (fun m hm a ha e => by have := (HM2.out.ins m hm a ha).1; omega))
    clear ht3 hg3 HT2 HX2 HZ2 HG2 HM2 x1
    by_cases hz : z = 0
    · have hd2 : (z == 0) = true := by rw [hz]; rfl
      have HRE3 := Lib.hid (HRE1.out.tape HG3.out (fun a ha => (HRB.out a ha).2))
      clear hz hz0 hz1
      have x0 := HX3.out.c0
      have x1 := HX3.out.c1
      have x2 := HX3.out.c2
      have x3 := HX3.out.c3
      have x4 := HX3.out.c4
      have x5 := HX3.out.c5
      have x6 := HX3.out.c6
      have z0 := HZ3.out.c0
      have zf0 := HZ3.out.free 0
      have z1 := HZ3.out.c1
      have zf1 := HZ3.out.free 1
      have z2 := HZ3.out.c2
      have zf2 := HZ3.out.free 2
      have z3 := HZ3.out.c3
      have zf3 := HZ3.out.free 3
      have z4 := HZ3.out.c4
      have zf4 := HZ3.out.free 4
      have z5 := HZ3.out.c5
      have zf5 := HZ3.out.free 5
      have z6 := HZ3.out.c6
      have zf6 := HZ3.out.free 6
      go_wp2
      exact bodyPost_ret (resultsAsk (((((((HZ3.out.s0 b0).s1 b1).s2 b2).s3 b3).s4 b4).s5 b5).s6 (.slice rd recs.length rc)) rfl) rfl (gives_ask (w1 := w1) (grow_trans HG1.out HG3.out) hZw hkZ ⟨i3, HT3.out⟩ hb1 HTX.out h16 HRE3.out (fun a ha => (HRB.out a ha).1))
    · have hd2 : (z == 0) = false := beq_false_of_ne hz
      clear hz hz0 hz1
      go_wp2_with fail
      refine (producers_any w3 km mc start mad mlen mcap ms HM3.out hL HOK.out).mono ?_
      rintro e w4 ⟨pad, plen, pcap, ps, rfl, hpd, hps, hpa, hpi, hb4⟩
      have hXlt := HX3.out.lt
      have HAR4 : Hid (AR w1 kt ad len cap Z X pad plen pcap ps w4) := ⟨⟨i3, HT3.out.on hb4⟩, HZ3.out.on hb4, hpd, grow_below HG3.out hb4, fun a ha => by have := hpa a ha; omega, fun m hm a ha => by have := hpi m hm a ha; omega, hkZ, hZX, hX1⟩
      have HX4 := Lib.hid (HX3.out.on hb4)
      have HFP : Hid (∀ m ∈ ps, m.p.last.length ≤ 5) := by
        intro m hm
        have h1 := foldP_few (l := []) (bats ms) (fun p hp => by cases hp)
        rw [← hps] at h1
        exact h1 m.p (List.mem_map_of_mem hm)
      have hpl : plen ≤ 100000 := by
        have h1 := foldP_len [] (bats ms)
        have h2 := hpd.row.length
        have h3 : (pds ps).length = ps.length := by unfold pds; rw [List.length_map]
        have h4 : (bats ms).length = mlen := by unfold bats; rw [List.length_map]; exact HM3.out.bats.row.length
        rw [← hps, h3] at h1
        simp at h1
        omega
      clear hpd hps hpa hpi hb4 hXlt HT3 HX3 HZ3 HG3 HM3
      go_wp2
      go_loopw [24] (fun v24 wr => ∃ j : Nat, v24 = .int .i64 (j : Int) ∧ j ≤ plen ∧ ∃ c2 c3 c4, AR w1 kt ad len cap Z X pad plen pcap ps wr ∧ BoxAt wr X b0 b1 c2 c3 c4 b5 (.slice rd recs.length rc)) (fun v24 _ => plen - (intOf v24).toNat)
      case atStart => exact ⟨0, rfl, Nat.zero_le _, b2, b3, b4, HAR4.out, HX4.out⟩
      case round =>
        obtain ⟨j, rfl, hj, c2, c3, c4, har, hxx⟩ := hrel
        have HAR := Lib.hid har
        have HX := Lib.hid hxx
        clear har hxx HAR4 HX4
        obtain ⟨wo, hwo⟩ : ∃ wo : World, wo = wr := ⟨_, rfl⟩
        subst hwo
        by_cases hlt : j < plen
        · have hd3 : decide (j < plen) = true := decide_eq_true hlt
          have hjl : (j : Int) < (plen : Int) := by omega
          obtain ⟨bk, off, m, rfl, hbk, hmm, hla, k0, k1, k2, k3⟩ := HAR.out.pds.get hlt
          have hmem := List.mem_of_getElem? hmm
          have hn5 := HFP.out m hmem
          have HLA := Lib.hid hla
          have HMA : Hid (∀ a, m.ad = some a → X < a.block) := HAR.out.ins m hmem
          clear hla hmm hmem hbk
          go_upto_region 7 with fail
          obtain ⟨w5, hw5⟩ : ∃ w5, w5 = wo.alloc (.cells #[.int .i64 m.p.id, .int .i64 m.p.epoch, .slice m.ad m.p.last.length m.cap, .int .i64 m.p.opn] 78) := ⟨_, rfl⟩
          have hb5 : Below wo.heap.size wo w5 := by rw [hw5]; exact (Below.refl _ _).alloc (Nat.le_refl _) _
          obtain ⟨P, hP⟩ : ∃ P, P = wo.heap.size := ⟨_, rfl⟩
          have hPX : X < P := by rw [hP]; exact HX.out.lt
          have HP5 : Hid (PBox w5 P m.p.id m.p.epoch (.slice m.ad m.p.last.length m.cap) m.p.opn) := by show PBox _ _ _ _ _ _; rw [hw5, hP]; exact pbox_new wo _ _ _ _
          have HAR5 := Lib.hid (HAR.out.on hb5)
          have HX5 := Lib.hid (HX.out.on hb5)
          have HLA5 := Lib.hid (HLA.out.keep hb5)
          rw [← hw5, ← hP]
          clear hw5 hb5 hP k0 k1 k2 k3 HAR HX HLA
          have q0 := HP5.out.c0
          have q1 := HP5.out.c1
          have q2 := HP5.out.c2
          have q3 := HP5.out.c3
          have x1 := HX5.out.c1
          have x2 := HX5.out.c2
          have x5 := HX5.out.c5
          have f2 := HX5.out.free 2
          by_cases hid : m.p.id = b1
          · have hd4 : (m.p.id == b1) = true := by rw [hid]; simp
            have hd4n : (m.p.id != b1) = false := by unfold bne; rw [hd4]; rfl
            clear hid
            go_upto_region 9 with fail
            obtain ⟨w6, hw6⟩ : ∃ w6, w6 = w5.setCell ⟨X, 2, none⟩ (.int .i64 m.p.epoch) := ⟨_, rfl⟩
            have HX6 : Hid (BoxAt w6 X b0 b1 m.p.epoch c3 c4 b5 (.slice rd recs.length rc)) := by show BoxAt _ _ _ _ _ _ _ _ _; rw [hw6]; exact HX5.out.s2 _
            have HAR6 : Hid (AR w1 kt ad len cap Z X (some ⟨bk, off, none⟩) plen pcap ps w6) := by show AR _ _ _ _ _ _ _ _ _ _ _ _; rw [hw6]; exact HAR5.out.s 2 _
            have HP6 : Hid (PBox w6 P m.p.id m.p.epoch (.slice m.ad m.p.last.length m.cap) m.p.opn) := by show PBox _ _ _ _ _ _; rw [hw6]; exact HP5.out.off (by omega) _
            have HLA6 : Hid (LastAt w6 m) := by show RowAt _ _ _ _ _ _; rw [hw6]; exact HLA5.out.off (fun a ha => by have := HMA.out a ha; omega) _ _
            rw [← hw6]
            clear hw6 HX5 HAR5 HP5 HLA5 q0 q1 q2 q3 x1 x2 x5 f2
            have x5 := HX6.out.c5
            by_cases hmk : b5 = 0
            · have hd5 : (b5 == 0) = true := by rw [hmk]; rfl
              clear hmk
              have x3 := HX6.out.c3
              have f3 := HX6.out.free 3
              go_upto_region 11 with fail
              obtain ⟨w7, hw7⟩ : ∃ w7, w7 = w6.setCell ⟨X, 3, none⟩ (.int .i64 0) := ⟨_, rfl⟩
              have HX7 : Hid (BoxAt w7 X b0 b1 m.p.epoch 0 c4 b5 (.slice rd recs.length rc)) := by show BoxAt _ _ _ _ _ _ _ _ _; rw [hw7]; exact HX6.out.s3 _
              have HAR7 : Hid (AR w1 kt ad len cap Z X (some ⟨bk, off, none⟩) plen pcap ps w7) := by show AR _ _ _ _ _ _ _ _ _ _ _ _; rw [hw7]; exact HAR6.out.s 3 _
              have HP7 : Hid (PBox w7 P m.p.id m.p.epoch (.slice m.ad m.p.last.length m.cap) m.p.opn) := by show PBox _ _ _ _ _ _; rw [hw7]; exact HP6.out.off (by omega) _
              have HLA7 : Hid (LastAt w7 m) := by show RowAt _ _ _ _ _ _; rw [hw7]; exact HLA6.out.off (fun a ha => by have := HMA.out a ha; omega) _ _
              rw [← hw7]
              clear hw7 HX6 HAR6 HP6 HLA6 x3 x5 f3
              obtain ⟨n, hn⟩ : ∃ n, m.p.last.length = n := ⟨_, rfl⟩
              rw [hn] at HP7 hn5
              have HN := Lib.hid hn
              clear hn
              have q2 := HP7.out.c2
              have q3 := HP7.out.c3
              go_upto_if 44 with (fail)
              go_cut [8] from 43 to 81 (fun s8 wx => s8 = .int .i64 (n : Int) ∧ ∃ y3, AR w1 kt ad len cap Z X (some ⟨bk, off, none⟩) plen pcap ps wx ∧ BoxAt wx X b0 b1 m.p.epoch y3 c4 b5 (.slice rd recs.length rc) ∧ PBox wx P m.p.id m.p.epoch (.slice m.ad n m.cap) m.p.opn ∧ LastAt wx m)
              case first =>
                by_cases h0 : n = 0
                · have hd6 : decide ((0 : Int) < (n : Int)) = false := decide_eq_false (by omega)
                  have hd60 : decide (0 < n) = false := decide_eq_false (by omega)
                  try rw [hd6]
                  try rw [hd60]
                  go_wp2
                  go_meet
                  case rel => exact ⟨rfl, _, HAR7.out, HX7.out, HP7.out, HLA7.out⟩
                · have hd6 : decide ((0 : Int) < (n : Int)) = true := decide_eq_true (by omega)
                  have hd60 : decide (0 < n) = true := decide_eq_true (by omega)
                  try rw [hd6]
                  try rw [hd60]
                  obtain ⟨bl, ol, y, hmad, _, _, _, y1, _⟩ := tr_get HLA7.out (i := n - 1) (by rw [HN.out]; omega)
                  have x3 := HX7.out.c3
                  have f3 := HX7.out.free 3
                  have hi1 : (1 : Int) ≤ (n : Int) := by omega
                  have hi2 : (n : Int) - 1 < (n : Int) := by omega
                  have hi3 : ((n : Int) - 1).toNat = n - 1 := by omega
                  have hw1 : wrap64 ((n : Int) - 1) = (n : Int) - 1 := by unfold wrap64; omega
                  rw [hmad] at q2
                  obtain ⟨z3, hz3⟩ : ∃ z3, bits .and .i64 (wrap64 (y.l + 1)) 2147483647 = z3 := ⟨_, rfl⟩
                  go_wp2
                  go_meet
                  case rel => exact ⟨rfl, z3, HAR7.out.s 3 _, HX7.out.s3 z3, HP7.out.off (by omega) _, HLA7.out.off (fun a ha => by have := HMA.out a ha; omega) _ _⟩
              case rest =>
                obtain ⟨rfl, y3, har, hxx, hpp, hla⟩ := hcut
                have HAR8 := Lib.hid har
                have HX8 := Lib.hid hxx
                have HP8 := Lib.hid hpp
                have HLA8 := Lib.hid hla
                clear har hxx hpp hla HAR7 HX7 HP7 HLA7 q2 q3
                have q2 := HP8.out.c2
                have q3 := HP8.out.c3
                have x4 := HX8.out.c4
                have f4 := HX8.out.free 4
                by_cases hop : 0 ≤ m.p.opn
                · have hd7 : decide (0 ≤ m.p.opn) = true := decide_eq_true hop
                  clear hop
                  go_upto_region 16 with fail
                  obtain ⟨w9, hw9⟩ : ∃ w9, w9 = wc.setCell ⟨X, 4, none⟩ (.bool true) := ⟨_, rfl⟩
                  have HX9 : Hid (BoxAt w9 X b0 b1 m.p.epoch y3 true b5 (.slice rd recs.length rc)) := by show BoxAt _ _ _ _ _ _ _ _ _; rw [hw9]; exact HX8.out.s4 _
                  have HAR9 : Hid (AR w1 kt ad len cap Z X (some ⟨bk, off, none⟩) plen pcap ps w9) := by show AR _ _ _ _ _ _ _ _ _ _ _ _; rw [hw9]; exact HAR8.out.s 4 _
                  have HP9 : Hid (PBox w9 P m.p.id m.p.epoch (.slice m.ad n m.cap) m.p.opn) := by show PBox _ _ _ _ _ _; rw [hw9]; exact HP8.out.off (by omega) _
                  have HLA9 : Hid (LastAt w9 m) := by show RowAt _ _ _ _ _ _; rw [hw9]; exact HLA8.out.off (fun a ha => by have := HMA.out a ha; omega) _ _
                  rw [← hw9]
                  clear hw9 HX8 HAR8 HP8 HLA8 q2 q3 x4 f4
                  by_cases h0 : n = 0
                  · have hd6 : decide ((0 : Int) < (n : Int)) = false := decide_eq_false (by omega)
                    have hd60 : decide (0 < n) = false := decide_eq_false (by omega)
                    go_wp2
                    go_roundw
                    case rel => exact ⟨j + 1, by go_num, by omega, _, _, _, HAR9.out, HX9.out⟩
                    case measure => simp [intOf]; omega
                  · have hd6 : decide ((0 : Int) < (n : Int)) = true := decide_eq_true (by omega)
                    have hd60 : decide (0 < n) = true := decide_eq_true (by omega)
                    obtain ⟨i9, ht9⟩ := HAR9.out.tape
                    have HT9 := Lib.hid ht9
                    clear ht9
                    go_wp2_with fail
                    refine (tapeNext_any w9 kt ad len cap i9 7 HT9.out (by omega) (by omega)).mono ?_
                    rintro e w10 ⟨z7, i10, rfl, hz70, hz71, ht10, hg10⟩
                    have HT10 := Lib.hid ht10
                    have HAR10 := Lib.hid (HAR9.out.next hg10 ⟨i10, ht10⟩)
                    have HX10 := Lib.hid (HX9.out.grows hg10 (fun e => by have := Option.some.inj e; omega))
                    have HP10 := Lib.hid (HP9.out.grown hg10 (fun e => by have := Option.some.inj e; omega))
                    have HLA10 : Hid (LastAt w10 m) := HLA9.out.grown hg10 (fun a ha e => by have := HMA.out a ha; have := Option.some.inj e; omega)
                    clear ht10 hg10 HT9 HAR9 HX9 HP9 HLA9
                    by_cases hz7 : z7 = 0
                    · have hd8 : (z7 == 0) = true := by rw [hz7]; rfl
                      clear hz7 hz70 hz71
                      have KS : Hid (∀ W, PBox W P m.p.id m.p.epoch (.slice m.ad n m.cap) m.p.opn → (fun (W : World) => W.cell? ⟨P, 2, none⟩ = some (.slice m.ad n m.cap)) W) := fun W hW => hW.c2
                      go_upto_region 17 with fail
                      have hPd : PBox w10.drew P m.p.id m.p.epoch (.slice m.ad n m.cap) m.p.opn := HP10.out.on ((Below.refl _ w10).drew)
                      refine wp_region_noPanic ?_
                      refine wp_region_z [9] (fun (W : World) => W.cell? ⟨P, 2, none⟩ = some (.slice m.ad n m.cap)) (by kernel_rfl) ?_
                      have hHeld : (fun (W : World) => W.cell? ⟨P, 2, none⟩ = some (.slice m.ad n m.cap)) _ := KS.out _ hPd
                      obtain ⟨u0, hu0⟩ : ∃ u, u = w10.drew := ⟨_, rfl⟩
                      have HBu0 : Hid (Below w10.heap.size w10 u0) := by show Below _ _ _; rw [hu0]; exact (Below.refl _ w10).drew
                      rw [← hu0] at hHeld hPd
                      rw [← hu0]
                      clear hu0
                      have HTu0 := Lib.hid (HT10.out.on HBu0.out)
                      have HARu0 := Lib.hid (HAR10.out.on HBu0.out)
                      have HXu0 := Lib.hid (HX10.out.on HBu0.out)
                      have HLAu0 : Hid (LastAt u0 m) := HLA10.out.keep HBu0.out
                      refine wpAnyZ_take (i := 0) (oi := ⟨_, _, _, _, _, _⟩) (v := ?_) rfl (by kernel_rfl) (by kernel_rfl) (by kernel_rfl) (by kernel_rfl) (by kernel_rfl) (fun _ _ _ h => h) (Or.inl ⟨by rfl, ?_⟩) (by assumption) ?_
                      rotate_left
                      · intro W hSw
                        (try dsimp only at hSw)
                        go_simp
                        (try with_reducible rfl)
                      (try simp only [Act.put, List.setIfInBounds_toArray, List.set_cons_zero, List.set_cons_succ])
                      refine wpAnyZ_take (i := 1) (oi := ⟨_, _, _, _, _, _⟩) (v := ?_) rfl (by kernel_rfl) (by kernel_rfl) (by kernel_rfl) (by kernel_rfl) (by kernel_rfl) (fun _ _ _ h => h) (Or.inl ⟨by rfl, ?_⟩) (by assumption) ?_
                      rotate_left
                      · intro W hSw
                        (try dsimp only at hSw)
                        go_simp
                        (try with_reducible rfl)
                      (try simp only [Act.put, List.setIfInBounds_toArray, List.set_cons_zero, List.set_cons_succ])
                      refine wpAnyZ_take (i := 2) (oi := ⟨_, _, _, _, _, _⟩) (v := ?_) rfl (by kernel_rfl) (by kernel_rfl) (by kernel_rfl) (by kernel_rfl) (by kernel_rfl) (fun _ _ _ h => h) (Or.inl ⟨by rfl, ?_⟩) (by assumption) ?_
                      rotate_left
                      · intro W hSw
                        (try dsimp only at hSw)
                        go_simp
                        (try with_reducible rfl)
                      (try simp only [Act.put, List.setIfInBounds_toArray, List.set_cons_zero, List.set_cons_succ])
                      refine wpAnyZ_take (i := 3) (oi := ⟨_, _, _, _, _, _⟩) (v := ?_) rfl (by kernel_rfl) (by kernel_rfl) (by kernel_rfl) (by kernel_rfl) (by kernel_rfl) (fun _ _ _ h => h) (Or.inl ⟨by rfl, ?_⟩) (by assumption) ?_
                      rotate_left
                      · intro W hSw
                        (try dsimp only at hSw)
                        go_simp
                        (try with_reducible rfl)
                      (try simp only [Act.put, List.setIfInBounds_toArray, List.set_cons_zero, List.set_cons_succ])
                      refine wpAnyZ_ready (rs := [4]) (by kernel_rfl) (by simp) ?_
                      refine AllReadyZ.cons (o := ⟨_, _, _, _, _, _⟩) rfl (fun C hC => ?_) AllReadyZ.nil
                      go_simp
                      refine (tapeNext_any u0 kt ad len cap i10 (n : Int) HTu0.out (by omega) (by omega)).mono ?_
                      rintro e u1 ⟨vv, i11, rfl, hv0, hv1, ht11, hg11⟩
                      have hPd1 := hPd.grown hg11 (fun e => by have := Option.some.inj e; omega)
                      have HX11 := Lib.hid (HXu0.out.grows hg11 (fun e => by have := Option.some.inj e; omega))
                      have HAR11 := Lib.hid (HARu0.out.next hg11 ⟨i11, ht11⟩)
                      have HLA11 : Hid (LastAt u1 m) := HLAu0.out.grown hg11 (fun a ha e => by have := HMA.out a ha; have := Option.some.inj e; omega)
                      obtain ⟨k, rfl⟩ : ∃ k : Nat, vv = (k : Int) := ⟨vv.toNat, by omega⟩
                      clear ht11 hg11 hPd
                      have hkn : k < n := by omega
                      go_wp2_with fail
                      have hHeld : (fun (W : World) => W.cell? ⟨P, 2, none⟩ = some (.slice m.ad n m.cap)) u1 := KS.out _ hPd1
                      refine hC.out _ _ (fun _ => hHeld) (fun _ => ?_)
                      clear hC C
                      (try simp only [Act.put, List.setIfInBounds_toArray, List.set_cons_zero, List.set_cons_succ])
                      obtain ⟨bl, ol, y, hmad, _, _, y0, _, _⟩ := tr_get HLA11.out (i := k) (by rw [HN.out]; omega)
                      refine wpAnyZ_strengthen (S' := (fun (W : World) => W.cell? ⟨P, 2, none⟩ = some (.slice m.ad n m.cap) ∧ W.cell? ⟨bl, ol + k * 3, none⟩ = some (.int .i64 y.f))) (fun W h => h.1) _ _ _ _ ?_
                      have hHeld2 : (fun (W : World) => W.cell? ⟨P, 2, none⟩ = some (.slice m.ad n m.cap) ∧ W.cell? ⟨bl, ol + k * 3, none⟩ = some (.int .i64 y.f)) u1 := ⟨hHeld, y0⟩
                      clear hHeld
                      have hHeld := hHeld2
                      clear hHeld2 y0
                      rw [hmad] at hHeld ⊢
                      refine wpAnyZ_take (i := 5) (oi := ⟨_, _, _, _, _, _⟩) (v := ?_) rfl (by kernel_rfl) (by kernel_rfl) (by kernel_rfl) (by kernel_rfl) (by kernel_rfl) (fun _ _ _ h => h) (Or.inl ⟨by rfl, ?_⟩) (by assumption) ?_
                      rotate_left
                      · intro W hSw
                        (try dsimp only at hSw)
                        go_simp
                        (try with_reducible rfl)
                      (try simp only [Act.put, List.setIfInBounds_toArray, List.set_cons_zero, List.set_cons_succ])
                      refine wpAnyZ_take (i := 6) (oi := ⟨_, _, _, _, _, _⟩) (v := ?_) rfl (by kernel_rfl) (by kernel_rfl) (by kernel_rfl) (by kernel_rfl) (by kernel_rfl) (fun _ _ _ h => h) (Or.inl ⟨by rfl, ?_⟩) (by assumption) ?_
                      rotate_left
                      · intro W hSw
                        (try dsimp only at hSw)
                        go_simp
                        (try with_reducible rfl)
                      (try simp only [Act.put, List.setIfInBounds_toArray, List.set_cons_zero, List.set_cons_succ])
                      refine wpAnyZ_take (i := 7) (oi := ⟨_, _, _, _, _, _⟩) (v := ?_) rfl (by kernel_rfl) (by kernel_rfl) (by kernel_rfl) (by kernel_rfl) (by kernel_rfl) (fun _ _ _ h => h) (Or.inl ⟨by rfl, ?_⟩) (by assumption) ?_
                      rotate_left
                      · intro W hSw
                        (try dsimp only at hSw)
                        go_simp
                        (try with_reducible rfl)
                      (try simp only [Act.put, List.setIfInBounds_toArray, List.set_cons_zero, List.set_cons_succ])
                      refine wpAnyZ_take (i := 8) (oi := ⟨_, _, _, _, _, _⟩) (v := ?_) rfl (by kernel_rfl) (by kernel_rfl) (by kernel_rfl) (by kernel_rfl) (by kernel_rfl) (fun _ _ _ h => h) (Or.inl ⟨by rfl, ?_⟩) (by assumption) ?_
                      rotate_left
                      · intro W hSw
                        (try dsimp only at hSw)
                        go_simp
                        (try with_reducible rfl)
                      (try simp only [Act.put, List.setIfInBounds_toArray, List.set_cons_zero, List.set_cons_succ])
                      have x3 := HX11.out.c3
                      have f3 := HX11.out.free 3
                      refine wpAnyZ_ready (rs := [9]) (by kernel_rfl) (by simp) ?_
                      refine AllReadyZ.cons (o := ⟨_, _, _, _, _, _⟩) rfl (fun C hC => ?_) AllReadyZ.nil
                      go_simp
                      refine hC.out _ _ (zfree_no (by kernel_rfl)) (fun _ => ?_)
                      clear hC C
                      (try simp only [Act.put, List.setIfInBounds_toArray, List.set_cons_zero, List.set_cons_succ])
                      refine wpAnyZ_done (by kernel_rfl) ?_ _
                      refine NoPanic.normal ?_
                      obtain ⟨w12, hw12⟩ : ∃ w12, w12 = u1.setCell ⟨X, 3, none⟩ (.int .i64 y.f) := ⟨_, rfl⟩
                      have HX12 : Hid (BoxAt w12 X b0 b1 m.p.epoch y.f true b5 (.slice rd recs.length rc)) := by show BoxAt _ _ _ _ _ _ _ _ _; rw [hw12]; exact HX11.out.s3 _
                      have HAR12 : Hid (AR w1 kt ad len cap Z X (some ⟨bk, off, none⟩) plen pcap ps w12) := by show AR _ _ _ _ _ _ _ _ _ _ _ _; rw [hw12]; exact HAR11.out.s 3 _
                      try rw [← hw12]
                      clear hw12 hHeld
                      go_wp2
                      go_roundw
                      case rel => exact ⟨j + 1, by go_num, by omega, _, _, _, HAR12.out, HX12.out⟩
                      case measure => simp [intOf]; omega
                    · have hd8 : (z7 == 0) = false := beq_false_of_ne hz7
                      clear hz7 hz70 hz71
                      go_wp2
                      go_roundw
                      case rel => exact ⟨j + 1, by go_num, by omega, _, _, _, HAR10.out, HX10.out⟩
                      case measure => simp [intOf]; omega
                · have hd7 : decide (0 ≤ m.p.opn) = false := decide_eq_false hop
                  clear hop
                  go_upto_region 16 with fail
                  obtain ⟨w9, hw9⟩ : ∃ w9, w9 = wc.setCell ⟨X, 4, none⟩ (.bool c4) := ⟨_, rfl⟩
                  have HX9 : Hid (BoxAt w9 X b0 b1 m.p.epoch y3 c4 b5 (.slice rd recs.length rc)) := by show BoxAt _ _ _ _ _ _ _ _ _; rw [hw9]; exact HX8.out.s4 _
                  have HAR9 : Hid (AR w1 kt ad len cap Z X (some ⟨bk, off, none⟩) plen pcap ps w9) := by show AR _ _ _ _ _ _ _ _ _ _ _ _; rw [hw9]; exact HAR8.out.s 4 _
                  have HP9 : Hid (PBox w9 P m.p.id m.p.epoch (.slice m.ad n m.cap) m.p.opn) := by show PBox _ _ _ _ _ _; rw [hw9]; exact HP8.out.off (by omega) _
                  have HLA9 : Hid (LastAt w9 m) := by show RowAt _ _ _ _ _ _; rw [hw9]; exact HLA8.out.off (fun a ha => by have := HMA.out a ha; omega) _ _
                  rw [← hw9]
                  clear hw9 HX8 HAR8 HP8 HLA8 q2 q3 x4 f4
                  by_cases h0 : n = 0
                  · have hd6 : decide ((0 : Int) < (n : Int)) = false := decide_eq_false (by omega)
                    have hd60 : decide (0 < n) = false := decide_eq_false (by omega)
                    go_wp2
                    go_roundw
                    case rel => exact ⟨j + 1, by go_num, by omega, _, _, _, HAR9.out, HX9.out⟩
                    case measure => simp [intOf]; omega
                  · have hd6 : decide ((0 : Int) < (n : Int)) = true := decide_eq_true (by omega)
                    have hd60 : decide (0 < n) = true := decide_eq_true (by omega)
                    obtain ⟨i9, ht9⟩ := HAR9.out.tape
                    have HT9 := Lib.hid ht9
                    clear ht9
                    go_wp2_with fail
                    refine (tapeNext_any w9 kt ad len cap i9 7 HT9.out (by omega) (by omega)).mono ?_
                    rintro e w10 ⟨z7, i10, rfl, hz70, hz71, ht10, hg10⟩
                    have HT10 := Lib.hid ht10
                    have HAR10 := Lib.hid (HAR9.out.next hg10 ⟨i10, ht10⟩)
                    have HX10 := Lib.hid (HX9.out.grows hg10 (fun e => by have := Option.some.inj e; omega))
                    have HP10 := Lib.hid (HP9.out.grown hg10 (fun e => by have := Option.some.inj e; omega))
                    have HLA10 : Hid (LastAt w10 m) := HLA9.out.grown hg10 (fun a ha e => by have := HMA.out a ha; have := Option.some.inj e; omega)
                    clear ht10 hg10 HT9 HAR9 HX9 HP9 HLA9
                    by_cases hz7 : z7 = 0
                    · have hd8 : (z7 == 0) = true := by rw [hz7]; rfl
                      clear hz7 hz70 hz71
                      have KS : Hid (∀ W, PBox W P m.p.id m.p.epoch (.slice m.ad n m.cap) m.p.opn → (fun (W : World) => W.cell? ⟨P, 2, none⟩ = some (.slice m.ad n m.cap)) W) := fun W hW => hW.c2
                      go_upto_region 17 with fail
                      have hPd : PBox w10.drew P m.p.id m.p.epoch (.slice m.ad n m.cap) m.p.opn := HP10.out.on ((Below.refl _ w10).drew)
                      refine wp_region_noPanic ?_
                      refine wp_region_z [9] (fun (W : World) => W.cell? ⟨P, 2, none⟩ = some (.slice m.ad n m.cap)) (by kernel_rfl) ?_
                      have hHeld : (fun (W : World) => W.cell? ⟨P, 2, none⟩ = some (.slice m.ad n m.cap)) _ := KS.out _ hPd
                      obtain ⟨u0, hu0⟩ : ∃ u, u = w10.drew := ⟨_, rfl⟩
                      have HBu0 : Hid (Below w10.heap.size w10 u0) := by show Below _ _ _; rw [hu0]; exact (Below.refl _ w10).drew
                      rw [← hu0] at hHeld hPd
                      rw [← hu0]
                      clear hu0
                      have HTu0 := Lib.hid (HT10.out.on HBu0.out)
                      have HARu0 := Lib.hid (HAR10.out.on HBu0.out)
                      have HXu0 := Lib.hid (HX10.out.on HBu0.out)
                      have HLAu0 : Hid (LastAt u0 m) := HLA10.out.keep HBu0.out
                      refine wpAnyZ_take (i := 0) (oi := ⟨_, _, _, _, _, _⟩) (v := ?_) rfl (by kernel_rfl) (by kernel_rfl) (by kernel_rfl) (by kernel_rfl) (by kernel_rfl) (fun _ _ _ h => h) (Or.inl ⟨by rfl, ?_⟩) (by assumption) ?_
                      rotate_left
                      · intro W hSw
                        (try dsimp only at hSw)
                        go_simp
                        (try with_reducible rfl)
                      (try simp only [Act.put, List.setIfInBounds_toArray, List.set_cons_zero, List.set_cons_succ])
                      refine wpAnyZ_take (i := 1) (oi := ⟨_, _, _, _, _, _⟩) (v := ?_) rfl (by kernel_rfl) (by kernel_rfl) (by kernel_rfl) (by kernel_rfl) (by kernel_rfl) (fun _ _ _ h => h) (Or.inl ⟨by rfl, ?_⟩) (by assumption) ?_
                      rotate_left
                      · intro W hSw
                        (try dsimp only at hSw)
                        go_simp
                        (try with_reducible rfl)
                      (try simp only [Act.put, List.setIfInBounds_toArray, List.set_cons_zero, List.set_cons_succ])
                      refine wpAnyZ_take (i := 2) (oi := ⟨_, _, _, _, _, _⟩) (v := ?_) rfl (by kernel_rfl) (by kernel_rfl) (by kernel_rfl) (by kernel_rfl) (by kernel_rfl) (fun _ _ _ h => h) (Or.inl ⟨by rfl, ?_⟩) (by assumption) ?_
                      rotate_left
                      · intro W hSw
                        (try dsimp only at hSw)
                        go_simp
                        (try with_reducible rfl)
                      (try simp only [Act.put, List.setIfInBounds_toArray, List.set_cons_zero, List.set_cons_succ])
                      refine wpAnyZ_take (i := 3) (oi := ⟨_, _, _, _, _, _⟩) (v := ?_) rfl (by kernel_rfl) (by kernel_rfl) (by kernel_rfl) (by kernel_rfl) (by kernel_rfl) (fun _ _ _ h => h) (Or.inl ⟨by rfl, ?_⟩) (by assumption) ?_
                      rotate_left
                      · intro W hSw
                        (try dsimp only at hSw)
                        go_simp
                        (try with_reducible rfl)
                      (try simp only [Act.put, List.setIfInBounds_toArray, List.set_cons_zero, List.set_cons_succ])
                      refine wpAnyZ_ready (rs := [4]) (by kernel_rfl) (by simp) ?_
                      refine AllReadyZ.cons (o := ⟨_, _, _, _, _, _⟩) rfl (fun C hC => ?_) AllReadyZ.nil
                      go_simp
                      refine (tapeNext_any u0 kt ad len cap i10 (n : Int) HTu0.out (by omega) (by omega)).mono ?_
                      rintro e u1 ⟨vv, i11, rfl, hv0, hv1, ht11, hg11⟩
                      have hPd1 := hPd.grown hg11 (fun e => by have := Option.some.inj e; omega)
                      have HX11 := Lib.hid (HXu0.out.grows hg11 (fun e => by have := Option.some.inj e; omega))
                      have HAR11 := Lib.hid (HARu0.out.next hg11 ⟨i11, ht11⟩)
                      have HLA11 : Hid (LastAt u1 m) := HLAu0.out.grown hg11 (fun a ha e => by have := HMA.out a ha; have := Option.some.inj e; omega)
                      obtain ⟨k, rfl⟩ : ∃ k : Nat, vv = (k : Int) := ⟨vv.toNat, by omega⟩
                      clear ht11 hg11 hPd
                      have hkn : k < n := by omega
                      go_wp2_with fail
                      have hHeld : (fun (W : World) => W.cell? ⟨P, 2, none⟩ = some (.slice m.ad n m.cap)) u1 := KS.out _ hPd1
                      refine hC.out _ _ (fun _ => hHeld) (fun _ => ?_)
                      clear hC C
                      (try simp only [Act.put, List.setIfInBounds_toArray, List.set_cons_zero, List.set_cons_succ])
                      obtain ⟨bl, ol, y, hmad, _, _, y0, _, _⟩ := tr_get HLA11.out (i := k) (by rw [HN.out]; omega)
                      refine wpAnyZ_strengthen (S' := (fun (W : World) => W.cell? ⟨P, 2, none⟩ = some (.slice m.ad n m.cap) ∧ W.cell? ⟨bl, ol + k * 3, none⟩ = some (.int .i64 y.f))) (fun W h => h.1) _ _ _ _ ?_
                      have hHeld2 : (fun (W : World) => W.cell? ⟨P, 2, none⟩ = some (.slice m.ad n m.cap) ∧ W.cell? ⟨bl, ol + k * 3, none⟩ = some (.int .i64 y.f)) u1 := ⟨hHeld, y0⟩
                      clear hHeld
                      have hHeld := hHeld2
                      clear hHeld2 y0
                      rw [hmad] at hHeld ⊢
                      refine wpAnyZ_take (i := 5) (oi := ⟨_, _, _, _, _, _⟩) (v := ?_) rfl (by kernel_rfl) (by kernel_rfl) (by kernel_rfl) (by kernel_rfl) (by kernel_rfl) (fun _ _ _ h => h) (Or.inl ⟨by rfl, ?_⟩) (by assumption) ?_
                      rotate_left
                      · intro W hSw
                        (try dsimp only at hSw)
                        go_simp
                        (try with_reducible rfl)
                      (try simp only [Act.put, List.setIfInBounds_toArray, List.set_cons_zero, List.set_cons_succ])
                      refine wpAnyZ_take (i := 6) (oi := ⟨_, _, _, _, _, _⟩) (v := ?_) rfl (by kernel_rfl) (by kernel_rfl) (by kernel_rfl) (by kernel_rfl) (by kernel_rfl) (fun _ _ _ h => h) (Or.inl ⟨by rfl, ?_⟩) (by assumption) ?_
                      rotate_left
                      · intro W hSw
                        (try dsimp only at hSw)
                        go_simp
                        (try with_reducible rfl)
                      (try simp only [Act.put, List.setIfInBounds_toArray, List.set_cons_zero, List.set_cons_succ])
                      refine wpAnyZ_take (i := 7) (oi := ⟨_, _, _, _, _, _⟩) (v := ?_) rfl (by kernel_rfl) (by kernel_rfl) (by kernel_rfl) (by kernel_rfl) (by kernel_rfl) (fun _ _ _ h => h) (Or.inl ⟨by rfl, ?_⟩) (by assumption) ?_
                      rotate_left
                      · intro W hSw
                        (try dsimp only at hSw)
                        go_simp
                        (try with_reducible rfl)
                      (try simp only [Act.put, List.setIfInBounds_toArray, List.set_cons_zero, List.set_cons_succ])
                      refine wpAnyZ_take (i := 8) (oi := ⟨_, _, _, _, _, _⟩) (v := ?_) rfl (by kernel_rfl) (by kernel_rfl) (by kernel_rfl) (by kernel_rfl) (by kernel_rfl) (fun _ _ _ h => h) (Or.inl ⟨by rfl, ?_⟩) (by assumption) ?_
                      rotate_left
                      · intro W hSw
                        (try dsimp only at hSw)
                        go_simp
                        (try with_reducible rfl)
                      (try simp only [Act.put, List.setIfInBounds_toArray, List.set_cons_zero, List.set_cons_succ])
                      have x3 := HX11.out.c3
                      have f3 := HX11.out.free 3
                      refine wpAnyZ_ready (rs := [9]) (by kernel_rfl) (by simp) ?_
                      refine AllReadyZ.cons (o := ⟨_, _, _, _, _, _⟩) rfl (fun C hC => ?_) AllReadyZ.nil
                      go_simp
                      refine hC.out _ _ (zfree_no (by kernel_rfl)) (fun _ => ?_)
                      clear hC C
                      (try simp only [Act.put, List.setIfInBounds_toArray, List.set_cons_zero, List.set_cons_succ])
                      refine wpAnyZ_done (by kernel_rfl) ?_ _
                      refine NoPanic.normal ?_
                      obtain ⟨w12, hw12⟩ : ∃ w12, w12 = u1.setCell ⟨X, 3, none⟩ (.int .i64 y.f) := ⟨_, rfl⟩
                      have HX12 : Hid (BoxAt w12 X b0 b1 m.p.epoch y.f c4 b5 (.slice rd recs.length rc)) := by show BoxAt _ _ _ _ _ _ _ _ _; rw [hw12]; exact HX11.out.s3 _
                      have HAR12 : Hid (AR w1 kt ad len cap Z X (some ⟨bk, off, none⟩) plen pcap ps w12) := by show AR _ _ _ _ _ _ _ _ _ _ _ _; rw [hw12]; exact HAR11.out.s 3 _
                      try rw [← hw12]
                      clear hw12 hHeld
                      go_wp2
                      go_roundw
                      case rel => exact ⟨j + 1, by go_num, by omega, _, _, _, HAR12.out, HX12.out⟩
                      case measure => simp [intOf]; omega
                    · have hd8 : (z7 == 0) = false := beq_false_of_ne hz7
                      clear hz7 hz70 hz71
                      go_wp2
                      go_roundw
                      case rel => exact ⟨j + 1, by go_num, by omega, _, _, _, HAR10.out, HX10.out⟩
                      case measure => simp [intOf]; omega
            · have hd5 : (b5 == 0) = false := beq_false_of_ne hmk
              clear hmk
              go_wp2
              go_roundw
              case rel => exact ⟨j + 1, by go_num, by omega, _, _, _, HAR6.out, HX6.out⟩
              case measure => simp [intOf]; omega
          · have hd4 : (m.p.id == b1) = false := beq_false_of_ne hid
            have hd4n : (m.p.id != b1) = true := by unfold bne; rw [hd4]; rfl
            clear hid
            go_wp2
            go_roundw
            case rel => exact ⟨j + 1, by go_num, by omega, _, _, _, HAR5.out, HX5.out⟩
            case measure => simp [intOf]; omega
        · have hd3 : decide (j < plen) = false := decide_eq_false hlt
          have HRE9 := Lib.hid (HRE1.out.tape HAR.out.gr (fun a ha => (HRB.out a ha).2))
          have HT9 := Lib.hid HAR.out.tape
          have HG9 := Lib.hid HAR.out.gr
          have HZ9 := Lib.hid HAR.out.res
          have x0 := HX.out.c0
          have x1 := HX.out.c1
          have x2 := HX.out.c2
          have x3 := HX.out.c3
          have x4 := HX.out.c4
          have x5 := HX.out.c5
          have x6 := HX.out.c6
          have z0 := HZ9.out.c0
          have zf0 := HZ9.out.free 0
          have z1 := HZ9.out.c1
          have zf1 := HZ9.out.free 1
          have z2 := HZ9.out.c2
          have zf2 := HZ9.out.free 2
          have z3 := HZ9.out.c3
          have zf3 := HZ9.out.free 3
          have z4 := HZ9.out.c4
          have zf4 := HZ9.out.free 4
          have z5 := HZ9.out.c5
          have zf5 := HZ9.out.free 5
          have z6 := HZ9.out.c6
          have zf6 := HZ9.out.free 6
          go_wp2
          exact bodyPost_ret (resultsAsk (((((((HZ9.out.s0 b0).s1 b1).s2 c2).s3 c3).s4 c4).s5 b5).s6 (.slice rd recs.length rc)) rfl) rfl (gives_ask (w1 := w1) (grow_trans HG1.out HG9.out) hZw hkZ HT9.out hb1 HTX.out h16 HRE9.out (fun a ha => (HRB.out a ha).1))
end Go.Proofs.YtgohekjkbgfeeaaGreat
namespace Go.Proofs.YtgohekjkbgfeeaaGreat
open Go.RowKit
open Go.SeqMath
open Go.BatMath hiding AllB getD_lt take_all
open Go.VarMath (longB length_longB)
set_option linter.unusedVariables false

/-- A tape that is made of a slice of numbers. -/
theorem tape_new {w : World} {ad : Option Addr} {len cap : Nat} {zs : List Int} (h : Nums w ad len zs) (hL : len ≤ 140737488355328) : TapeAt (w.alloc (.cells #[.slice ad len cap, .int .i64 0] 67)) w.heap.size ad len cap 0 := by
  refine ⟨heap_alloc_new w _, Nat.zero_le _, hL, fun j hj => ?_⟩
  rcases h.cells with h0 | ⟨b, off, e, hc⟩
  · omega
  · have hcj := hc j hj
    have hb := World.block_lt_of_cell? w _ hcj
    refine ⟨b, off, zs.getD j 0, e, hb, ?_, ?_⟩
    · rw [((Below.refl w.heap.size w).alloc (Nat.le_refl _) _).cell (p := ⟨b, off + j, none⟩) hb]
      exact hcj
    · have hl := h.length
      rw [List.getD_eq_getElem?_getD, List.getElem?_eq_getElem (by omega)]
      exact h.all _ (List.getElem_mem _)
end Go.Proofs.YtgohekjkbgfeeaaGreat
namespace Go.Proofs.YtgohekjkbgfeeaaGreat
open Go.RowKit
open Go.SeqMath
open Go.ProdMath
open Go.BatMath hiding AllB getD_lt take_all
set_option linter.unusedVariables false

theorem wf_right {b : Bat} (h : rightE b = 0) (hp : b.prod ≤ 9223372036854775807) : b.wf := by
  have := ok_of h
  exact ⟨⟨by have := this.base0; omega, by have := this.base1; omega⟩, ⟨by have := this.prod; omega, hp⟩, ⟨by have := this.epoch0; omega, by have := this.epoch1; omega⟩, ⟨by have := this.seq0; omega, by have := this.seq1; omega⟩, ⟨by have := this.marker0; omega, by have := this.marker1; omega⟩⟩
/-- What is laid behind a row that a partition may have leaves one. -/
def Grows (start : Int) (bs : List Bat) (r : (Int × Int) × List Bat) : Prop := RowD start r.2 ∧ r.2.length ≤ bs.length + 1
theorem put_grows {cap start : Int} {bs : List Bat} {b : Bat} (h : RowD start bs) (hb : b.base = endD start bs) (hp : b.prod ≤ 9223372036854775807) : Grows start bs (putD cap start bs b) := by
  have h0 : Grows start bs ((0, 0), bs) := ⟨h, by show bs.length ≤ _; omega⟩
  unfold putD
  split
  · exact h0
  · rename_i h1
    split
    · exact h0
    · rename_i h2
      split
      · exact h0
      · split
        · exact h0
        · rename_i h3 h4
          have hz : (tcheckD (foldP [] bs) b).2 = 0 := Classical.byContradiction fun h => h1 h
          exact ⟨RowD.snoc h hb (wf_right (tcheck_right hz) hp) hz (by omega) (by omega), by show (bs ++ [b]).length ≤ _; simp⟩
theorem produce_grows {cap start : Int} {bs : List Bat} {b : Bat} (h : RowD start bs) (hp : b.prod ≤ 9223372036854775807) : Grows start bs (produceD cap start bs b) := by
  have h0 : Grows start bs ((0, 0), bs) := ⟨h, by show bs.length ≤ _; omega⟩
  unfold produceD
  split
  · exact h0
  · split
    · exact h0
    · exact put_grows h rfl hp
theorem mark_grows {cap start : Int} {bs : List Bat} {p e m : Int} (h : RowD start bs) (hp : p ≤ 9223372036854775807) : Grows start bs (markD cap start bs p e m) := by
  have h0 : Grows start bs ((0, 0), bs) := ⟨h, by show bs.length ≤ _; omega⟩
  unfold markD
  split
  · exact h0
  · exact put_grows h rfl hp
def GivesRow2 (w : World) (start : Int) (most : Nat) (e : Ending) (w' : World) : Prop :=
  ∃ ad len cap ms, e = .returned (.slice ad len cap) ∧ Hid (BatsAt w' ad len cap ms) ∧ Hid (RowD start (bats ms)) ∧ len ≤ most ∧ Hid (Below w.heap.size w w')
/-- What stands ahead of each round. -/
def RowLoop (w : World) (start : Int) (tad : Option Addr) (tlen tcap most kt km : Nat) (wr : World) : Prop :=
  ∃ ad len cap ms, TapeT wr kt tad tlen tcap ∧ MOk wr km 1073741824 start ad len cap ms ∧ RowD start (bats ms) ∧ len ≤ most ∧ Below w.heap.size w wr
set_option maxRecDepth 100000 in
set_option maxHeartbeats 8000000 in
theorem row_any (w : World) (tad : Option Addr) (tlen tcap : Nat) (zs : List Int) (h : Nums w tad tlen zs) (hL : tlen ≤ 140737488355328) (start : Int) (hs0 : 0 ≤ start) (hs1 : start ≤ 1099511627776) (most : Nat) (hmost : most ≤ 10000) :
    Calls Tryz.prog 7 #[.slice tad tlen tcap, .int .i64 start, .int .i64 (most : Int)] w (GivesRow2 w start most) := by
  obtain ⟨W1, hW1⟩ : ∃ W1, W1 = w.alloc (.cells #[.slice tad tlen tcap, .int .i64 0] 67) := ⟨_, rfl⟩
  obtain ⟨W2, hW2⟩ : ∃ W2, W2 = W1.alloc (.cells #[.int .i64 1073741824, .int .i64 start, .slice none 0 0] 70) := ⟨_, rfl⟩
  have hb1 : Below w.heap.size w W1 := by rw [hW1]; exact (Below.refl _ _).alloc (Nat.le_refl _) _
  have hb2 : Below W1.heap.size W1 W2 := by rw [hW2]; exact (Below.refl _ _).alloc (Nat.le_refl _) _
  have ht1 : TapeAt W1 w.heap.size tad tlen tcap 0 := by rw [hW1]; exact tape_new h hL
  obtain ⟨kt, hkt⟩ : ∃ k, k = w.heap.size := ⟨_, rfl⟩
  obtain ⟨km, hkm⟩ : ∃ k, k = W1.heap.size := ⟨_, rfl⟩
  rw [← hkt] at ht1
  have hkk : kt < km := by rw [hkm]; exact ht1.lt
  have hktw : w.heap.size ≤ kt := by omega
  have hkmw : w.heap.size ≤ km := by omega
  have HT2 : Hid (TapeAt W2 kt tad tlen tcap 0) := ht1.on hb2
  have HM2 : Hid (MOk W2 km 1073741824 start none 0 0 []) := by
    show MOk _ _ _ _ _ _ _ _
    refine ⟨?_, ⟨rowAt_nil _, (fun m hm => by cases hm)⟩, (fun a ha => by cases ha), (fun m hm => by cases hm)⟩
    show W2.heap[km]? = _
    rw [hW2, hkm]
    exact heap_alloc_new W1 _
  have HB2 := Lib.hid (hb1.trans (hb2.mono hb1.size))
  have HW1 := Lib.hid hW1
  have HW2 := Lib.hid hW2
  have HK1 := Lib.hid hkt
  have HK2 := Lib.hid hkm
  clear hb1 hb2 ht1 hW1 hW2 hkt hkm
  go_enter Tryz.func7, Tryz.ntmps7
  go_upto_region 3 with fail
  have hsz : w.heap.size + 1 = km := by rw [HK2.out, HW1.out]; simp
  try rw [hsz]
  rw [← HW1.out, ← HW2.out, ← HK1.out]
  try rw [← HK2.out]
  clear hsz HW1 HW2 HK1 HK2
  go_wp2
  go_loopw [9] (fun v9 wr => ∃ i : Nat, v9 = .int .i64 (i : Int) ∧ i ≤ 4 * most ∧ RowLoop w start tad tlen tcap most kt km wr) (fun v9 _ => 4 * most - (intOf v9).toNat)
  case atStart => exact ⟨0, rfl, Nat.zero_le _, none, 0, 0, [], ⟨0, HT2.out⟩, HM2.out, RowD.nil, Nat.zero_le _, HB2.out⟩
  case round =>
    obtain ⟨i, rfl, hi, ad, len, cap, ms, ht, hm, hrow, hlm, hbel⟩ := hrel
    obtain ⟨ix, htx⟩ := ht
    have HT := Lib.hid htx
    have HM := Lib.hid hm
    have HR := Lib.hid hrow
    have HB := Lib.hid hbel
    clear htx hm hrow hbel HT2 HM2 HB2
    obtain ⟨wo, hwo⟩ : ∃ wo : World, wo = wr := ⟨_, rfl⟩
    subst hwo
    have t1 := HT.out.c1
    have m2 := HM.out.box.c2
    by_cases hgo : i < 4 * most ∧ len < most ∧ ix < tlen
    · obtain ⟨hg1, hg2, hg3⟩ := hgo
      have hd1 : decide ((i : Int) < 4 * (most : Int)) = true := decide_eq_true (by omega)
      have hd2 : decide (len < most) = true := decide_eq_true hg2
      have hd3 : decide (ix < tlen) = true := decide_eq_true hg3
      go_wp2_with fail
      refine (ask_any wo kt tad tlen tcap ix HT.out km 1073741824 start ad len cap ms HM.out hkk (by omega) (rowD_ok HR.out)).mono ?_
      rintro e w3 ⟨b0, b1, b2, b3, b4, b5, recs, rd, rc, rfl, HP, HTX, HN, HRE3, HT3, HG3⟩
      have HM3 := Lib.hid (HM.out.grown HG3.out (by omega) (fun a ha e => by have := (HM.out.row a ha).1; omega) (fun m hm a ha e => by have := (HM.out.ins m hm a ha).1; omega))
      have HB3 : Hid (Below w.heap.size w w3) := HB.out.trans (below_grown HG3.out hktw HB.out.size)
      clear HT HM HB HG3 t1 m2
      go_upto_region 7 with fail
      obtain ⟨w4, hw4⟩ : ∃ w4, w4 = w3.alloc (.cells #[.int .i64 b0, .int .i64 b1, .int .i64 b2, .int .i64 b3, .bool b4, .int .i64 b5, .slice rd recs.length rc] 56) := ⟨_, rfl⟩
      have hb4 : Below w3.heap.size w3 w4 := by rw [hw4]; exact (Below.refl _ _).alloc (Nat.le_refl _) _
      obtain ⟨X, hX⟩ : ∃ X, X = w3.heap.size := ⟨_, rfl⟩
      have HX4 : Hid (BoxAt w4 X b0 b1 b2 b3 b4 b5 (.slice rd recs.length rc)) := by show BoxAt _ _ _ _ _ _ _ _ _; rw [hw4, hX]; exact boxAt_new w3 _ _ _ _ _ _ _
      have HM4 := Lib.hid (HM3.out.keep hb4)
      have HRE4 := Lib.hid (HRE3.out.keep hb4)
      have HB4 := Lib.hid (HB3.out.trans (hb4.mono HB3.out.size))
      obtain ⟨i4, ht4⟩ := HT3.out
      have HT4 : Hid (TapeAt w4 kt tad tlen tcap i4) := ht4.on hb4
      have hend := rowD_end HR.out hs0 hs1
      rw [← hw4, ← hX]
      clear hw4 hb4 hX ht4 HT3 HM3 HRE3 HB3
      have p0 := HX4.out.c0
      have p1 := HX4.out.c1
      have p2 := HX4.out.c2
      have p3 := HX4.out.c3
      have p4 := HX4.out.c4
      have p5 := HX4.out.c5
      have p6 := HX4.out.c6
      by_cases hmk : b5 = 0
      · have hd5 : (b5 == 0) = true := by rw [hmk]; rfl
        have hd5n : (b5 != 0) = false := by rw [hmk]; rfl
        clear hmk
        go_wp2_with fail
        refine (produce_any w4 km 1073741824 start ad len cap ms HM4.out (by omega) (rowD_ok HR.out) (by omega) b0 b1 b2 b3 b4 b5 recs rd rc HRE4.out HTX.out (by have := HN.out; omega) HP.out _ rfl).mono ?_
        rintro e w5 ⟨ad5, len5, cap5, ms5, rfl, hm5, hbs5, hg5⟩
        have hgr := produce_grows (cap := 1073741824) (b := ⟨b0, b1, b2, b3, b4, b5, recs⟩) HR.out HP.out
        have HR5 : Hid (RowD start (bats ms5)) := by show RowD _ _; rw [hbs5]; exact hgr.1
        have hl5 : len5 ≤ most := by
          have h1 := hgr.2
          rw [← hbs5] at h1
          unfold bats at h1
          rw [List.length_map, List.length_map] at h1
          have h2 := hm5.bats.row.length
          have h3 := HM4.out.bats.row.length
          omega
        have HM5 := Lib.hid hm5
        have HT5 : Hid (TapeT w5 kt tad tlen tcap) := ⟨i4, HT4.out.grow hg5 (fun k hk => by cases hk; exact hkk)⟩
        have HB5 : Hid (Below w.heap.size w w5) := HB4.out.trans (below_grown hg5 hkmw HB4.out.size)
        clear hm5 hbs5 hg5 hgr p0 p1 p2 p3 p4 p5 p6
        go_wp2
        go_roundw
        case rel => exact ⟨i + 1, by go_num, by omega, ad5, len5, cap5, ms5, HT5.out, HM5.out, HR5.out, hl5, HB5.out⟩
        case measure => simp [intOf]; omega
      · have hd5 : (b5 == 0) = false := beq_false_of_ne hmk
        have hd5n : (b5 != 0) = true := by unfold bne; rw [hd5]; rfl
        clear hmk
        go_wp2_with fail
        refine (mark_any w4 km 1073741824 start ad len cap ms HM4.out (by omega) (rowD_ok HR.out) (by omega) b1 b2 b5 HP.out _ rfl).mono ?_
        rintro e w5 ⟨ad5, len5, cap5, ms5, rfl, hm5, hbs5, hg5⟩
        have hgr := mark_grows (cap := 1073741824) (p := b1) (e := b2) (m := b5) HR.out HP.out
        have HR5 : Hid (RowD start (bats ms5)) := by show RowD _ _; rw [hbs5]; exact hgr.1
        have hl5 : len5 ≤ most := by
          have h1 := hgr.2
          rw [← hbs5] at h1
          unfold bats at h1
          rw [List.length_map, List.length_map] at h1
          have h2 := hm5.bats.row.length
          have h3 := HM4.out.bats.row.length
          omega
        have HM5 := Lib.hid hm5
        have HT5 : Hid (TapeT w5 kt tad tlen tcap) := ⟨i4, HT4.out.grow hg5 (fun k hk => by cases hk; exact hkk)⟩
        have HB5 : Hid (Below w.heap.size w w5) := HB4.out.trans (below_grown hg5 hkmw HB4.out.size)
        clear hm5 hbs5 hg5 hgr p0 p1 p2 p3 p4 p5 p6
        go_wp2
        go_roundw
        case rel => exact ⟨i + 1, by go_num, by omega, ad5, len5, cap5, ms5, HT5.out, HM5.out, HR5.out, hl5, HB5.out⟩
        case measure => simp [intOf]; omega
    · by_cases hg1 : i < 4 * most
      · have hd1 : decide ((i : Int) < 4 * (most : Int)) = true := decide_eq_true (by omega)
        by_cases hg2 : len < most
        · have hd2 : decide (len < most) = true := decide_eq_true hg2
          have hd3 : decide (ix < tlen) = false := decide_eq_false (fun h => hgo ⟨hg1, hg2, h⟩)
          go_wp2
          go_ret
          exact ⟨ad, len, cap, ms, rfl, HM.out.bats, HR.out, hlm, HB.out⟩
        · have hd2 : decide (len < most) = false := decide_eq_false hg2
          go_wp2
          go_ret
          exact ⟨ad, len, cap, ms, rfl, HM.out.bats, HR.out, hlm, HB.out⟩
      · have hd1 : decide ((i : Int) < 4 * (most : Int)) = false := decide_eq_false (by omega)
        go_wp2
        go_ret
        exact ⟨ad, len, cap, ms, rfl, HM.out.bats, HR.out, hlm, HB.out⟩
end Go.Proofs.YtgohekjkbgfeeaaGreat
namespace Go.Proofs.YtgohekjkbgfeeaaGreat
open Go.RowKit
open Go.SnapMath
open Go.ProdMath
open Go.BatMath hiding AllB getD_lt take_all
set_option linter.unusedVariables false

theorem rowDoes_any (w : World) (tad : Option Addr) (tlen tcap : Nat) (zs : List Int) (h : Nums w tad tlen zs) (hL : tlen ≤ 140737488355328) (most : Nat) (hm : most ≤ 10000) :
    Calls Tryz.prog 7 #[.slice tad tlen tcap, .int .i64 0, .int .i64 (most : Int)] w (RowDoes w 0 most) := by
  refine (row_any w tad tlen tcap zs h hL 0 (by decide) (by decide) most hm).mono ?_
  rintro e w2 ⟨ad, len, cap, ms, rfl, HBA, HRD, hlen, hb2⟩
  exact ⟨ad, len, cap, ms, rfl, HBA.out, batsOk_of (rowD_ok HRD.out), HRD.out, hlen, hb2.out⟩
end Go.Proofs.YtgohekjkbgfeeaaGreat
