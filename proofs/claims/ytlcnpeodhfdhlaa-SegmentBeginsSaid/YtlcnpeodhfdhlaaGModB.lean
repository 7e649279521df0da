/- bordereaukeep's tape: Ask: a batch that a log without files might take. bordereaukeep's Row: a row that a partition may have. The tape's first batch, where numbers of it are known. A book's first batch is taken, where the tape's numbers are known. -/
import Derived.Test.YtlcnpeodhfdhlaaGModA
import Derived.Test.YtlcnpeodhfdhlaaGLaw
import Derived.Test.YtlcnpeodhfdhlaaGTape
/-! bordereaukeep's tape: Ask: a batch that a log without files might take. -/
namespace Go.Proofs.Ytlcnpeodhfdhlaa
open Go.RowKit
open Go.SeqMath
open Go.ProdMath
open Go.BatMath hiding AllB getD_lt take_all
set_option linter.unusedVariables false

/-- All but the batch under way. -/
structure AR (w1 : World) (kt : Nat) (ad : Option Addr) (len cap Z X : Nat) (pad : Option Addr) (plen pcap : Nat) (ps : List PM) (W : World) : Prop where
  tape : TapeT W kt ad len cap
  res : BoxAt W Z 0 0 0 0 false 0 (.slice none 0 0)
  pds : PdsAt W pad plen pcap ps
  gr : w1.grownBy W (some kt)
  row : ∀ a, pad = some a → X < a.block
  ins : ∀ m ∈ ps, ∀ a, m.ad = some a → X < a.block
  lt : kt < Z
  zx : Z < X
  x1 : w1.heap.size ≤ X
section
variable {w1 W W' : World} {kt len cap Z X plen pcap : Nat} {ad pad : Option Addr} {ps : List PM}
theorem AR.s (h : AR w1 kt ad len cap Z X pad plen pcap ps W) (j : Nat) (u : Value) : AR w1 kt ad len cap Z X pad plen pcap ps (W.setCell ⟨X, j, none⟩ u) := by
  have h1 := h.lt
  have h2 := h.zx
  refine ⟨h.tape.other (by omega) _, h.res.off (by omega) _, ⟨h.pds.row.off (fun a ha => by have := h.row a ha; omega) _ _, fun m hm => (h.pds.ins m hm).off (fun a ha => by have := h.ins m hm a ha; omega) _ _⟩, grow_new h.gr h.x1 _, h.row, h.ins, h.lt, h.zx, h.x1⟩
theorem AR.on (h : AR w1 kt ad len cap Z X pad plen pcap ps W) (hb : Below W.heap.size W W') : AR w1 kt ad len cap Z X pad plen pcap ps W' := by
  obtain ⟨i, ht⟩ := h.tape
  exact ⟨⟨i, ht.on hb⟩, h.res.on hb, h.pds.keep hb, grow_below h.gr hb, h.row, h.ins, h.lt, h.zx, h.x1⟩
theorem AR.next (h : AR w1 kt ad len cap Z X pad plen pcap ps W) (hg : W.grownBy W' (some kt)) (ht : TapeT W' kt ad len cap) : AR w1 kt ad len cap Z X pad plen pcap ps W' := by
  have h1 := h.lt
  have h2 := h.zx
  refine ⟨ht, h.res.grows hg (fun e => by have := Option.some.inj e; omega), ⟨h.pds.row.grown hg (fun a ha e => by have := h.row a ha; have := Option.some.inj e; omega), fun m hm => (h.pds.ins m hm).grown hg fun a ha e => by have := h.ins m hm a ha; have := Option.some.inj e; omega⟩, grow_trans h.gr hg, h.row, h.ins, h.lt, h.zx, h.x1⟩
end
def GivesAsk (w : World) (kt : Nat) (ad : Option Addr) (len cap : Nat) (e : Ending) (w' : World) : Prop :=
  ∃ b0 b1 b2 b3 b4 b5 recs rd rc, e = .returned (.agg #[.int .i64 b0, .int .i64 b1, .int .i64 b2, .int .i64 b3, .bool b4, .int .i64 b5, .slice rd (List.length recs) rc]) ∧ Hid (b1 ≤ 9223372036854775807) ∧ Hid (TextsOk recs) ∧ Hid (recs.length ≤ 16) ∧ Hid (RecsAt w' rd recs.length rc recs) ∧ Hid (TapeT w' kt ad len cap) ∧ Hid (w.grownBy w' (some kt))
theorem resultsAsk {tmps : Array Value} {B : Nat} {W : World} {b0 b1 b2 b3 : Int} {b4 : Bool} {b5 : Int} {v : Value} (h : BoxAt W B b0 b1 b2 b3 b4 b5 v) (ht : tmps.getD 4 undef = .pointer (some ⟨B, 0, none⟩)) :
    (results Try.f19 tmps).run Try.prog W = .ok (.agg #[.int .i64 b0, .int .i64 b1, .int .i64 b2, .int .i64 b3, .bool b4, .int .i64 b5, v]) W := by
  rw [results_cell_one (p := 4) (ty := 51) Try.results19, ht]
  have hl := run_loadVar_row (P := Try.prog) W B 51 51 _ (0, 0) _ h Try.underlying51 rfl (by kernel_rfl)
  simp only [asAddr, Sem.run_pure, Result.andThen, hl]
theorem gives_ask {w w1 W : World} {kt len cap Z : Nat} {ad : Option Addr} {b0 b1 b2 b3 : Int} {b4 : Bool} {b5 : Int} {recs : List Rc} {rd : Option Addr} {rc : Nat} {u0 u1 u2 u3 u4 u5 u6 : Value} (hw : w.grownBy W (some kt)) (hZ : w.heap.size ≤ Z) (hk : kt < Z) (ht : TapeT W kt ad len cap) (hp : b1 ≤ 9223372036854775807) (hx : TextsOk recs) (hn : recs.length ≤ 16) (hr : RecsAt W rd recs.length rc recs) (hb : ∀ a, rd = some a → Z < a.block) :
    GivesAsk w kt ad len cap (.returned (.agg #[.int .i64 b0, .int .i64 b1, .int .i64 b2, .int .i64 b3, .bool b4, .int .i64 b5, .slice rd recs.length rc])) (((((((W.setCell ⟨Z, 0, none⟩ u0).setCell ⟨Z, 1, none⟩ u1).setCell ⟨Z, 2, none⟩ u2).setCell ⟨Z, 3, none⟩ u3).setCell ⟨Z, 4, none⟩ u4).setCell ⟨Z, 5, none⟩ u5).setCell ⟨Z, 6, none⟩ u6) :=
  ⟨b0, b1, b2, b3, b4, b5, recs, rd, rc, rfl, hp, hx, hn, ((((((hr.put hb).put hb).put hb).put hb).put hb).put hb).put hb, ((((((ht.other hk _).other hk _).other hk _).other hk _).other hk _).other hk _).other hk _, grow_new (grow_new (grow_new (grow_new (grow_new (grow_new (grow_new hw hZ _) hZ _) hZ _) hZ _) hZ _) hZ _) hZ _⟩
set_option maxRecDepth 100000 in
set_option maxHeartbeats 8000000 in
theorem ask_any (w : World) (kt : Nat) (ad : Option Addr) (len cap i : Nat) (ht : TapeAt w kt ad len cap i) (km : Nat) (mc start : Int) (mad : Option Addr) (mlen mcap : Nat) (ms : List BM) (hm : MOk w km mc start mad mlen mcap ms) (hkm : kt < km) (hL : mlen ≤ 99999) (hok : RowOk (bats ms)) :
    Calls Try.prog 19 #[.pointer (some ⟨kt, 0, none⟩), .pointer (some ⟨km, 0, none⟩)] w (GivesAsk w kt ad len cap) := by
  have hktw := ht.lt
  obtain ⟨W0, hW0⟩ : ∃ W0, W0 = w.alloc (.cells #[.int .i64 0, .int .i64 0, .int .i64 0, .int .i64 0, .bool false, .int .i64 0, .slice none 0 0] 51) := ⟨_, rfl⟩
  have hb0 : Below w.heap.size w W0 := by rw [hW0]; exact (Below.refl _ _).alloc (Nat.le_refl _) _
  have HZ0 : Hid (BoxAt W0 w.heap.size 0 0 0 0 false 0 (.slice none 0 0)) := by show BoxAt _ _ _ _ _ _ _ _ _; rw [hW0]; exact boxAt_new w _ _ _ _ _ _ _
  have HT0 := Lib.hid (ht.on hb0)
  have HM0 := Lib.hid (hm.keep hb0)
  have HG0 : Hid (w.grownBy W0 (some kt)) := grow_below (grow_refl w _) hb0
  have hs0 : w.heap.size + 1 ≤ W0.heap.size := HZ0.out.lt
  have HOK := Lib.hid hok
  have HW0 := Lib.hid hW0
  clear ht hm hb0 hW0 hok
  obtain ⟨Z, hZ⟩ : ∃ Z, Z = w.heap.size := ⟨_, rfl⟩
  have hZw : w.heap.size ≤ Z := by omega
  have hkZ : kt < Z := by omega
  have hZ0 : Z + 1 ≤ W0.heap.size := by omega
  rw [← hZ] at HZ0
  go_enter Try.func19, Try.ntmps19
  go_upto_region 1 with fail
  rw [← HW0.out, ← hZ]
  clear HW0 hZ hs0
  go_wp2_with fail
  refine (tapeBatch_any W0 kt ad len cap i 0 HT0.out (by omega) (by omega)).mono ?_
  rintro e w1 ⟨b, rd, rc, rfl, hb00, hbr, hbw, hre, hrb, ht1, hg1⟩
  have hbo := ok_of hbr
  have hb1 := hbw.prod.2
  have h16 := hbo.recs
  have HTX := Lib.hid (texts_of hbo.texts)
  have HRE1 := Lib.hid hre
  have HRB : Hid (∀ a, rd = some a → Z < a.block ∧ a.block ≠ kt) := fun a ha => by have := hrb a ha; exact ⟨by omega, by omega⟩
  have HT1 := Lib.hid ht1
  have HG1 := Lib.hid (grow_trans HG0.out hg1)
  have HM1 := Lib.hid (HM0.out.grown hg1 (by omega) (fun a ha e => by have := (HM0.out.row a ha).1; omega) (fun m hm a ha e => by have := (HM0.out.ins m hm a ha).1; omega))
  have HZ1 := Lib.hid (HZ0.out.tape hg1 (by omega))
  have hs1 : Z + 1 ≤ w1.heap.size := Nat.le_trans hZ0 hg1.size
  clear hb00 hbr hbw hbo hre hrb ht1 hg1 HT0 HG0 HM0 HZ0
  obtain ⟨b0, b1, b2, b3, b4, b5, recs⟩ := b
  simp only at hb1 h16 HTX HRE1
  simp only
  go_upto_region 2 with fail
  obtain ⟨w2, hw2⟩ : ∃ w2, w2 = w1.alloc (.cells #[.int .i64 b0, .int .i64 b1, .int .i64 b2, .int .i64 b3, .bool b4, .int .i64 b5, .slice rd recs.length rc] 51) := ⟨_, rfl⟩
  have hb2 : Below w1.heap.size w1 w2 := by rw [hw2]; exact (Below.refl _ _).alloc (Nat.le_refl _) _
  obtain ⟨X, hX⟩ : ∃ X, X = w1.heap.size := ⟨_, rfl⟩
  have HX2 : Hid (BoxAt w2 X b0 b1 b2 b3 b4 b5 (.slice rd recs.length rc)) := by show BoxAt _ _ _ _ _ _ _ _ _; rw [hw2, hX]; exact boxAt_new w1 _ _ _ _ _ _ _
  have hZX : Z < X := by omega
  have hX1 : w1.heap.size ≤ X := by omega
  obtain ⟨i1, ht1⟩ := HT1.out
  have HT2 : Hid (TapeAt w2 kt ad len cap i1) := ht1.on hb2
  have HZ2 := Lib.hid (HZ1.out.on hb2)
  have HM2 := Lib.hid (HM1.out.keep hb2)
  have HG2 : Hid (w1.grownBy w2 (some kt)) := grow_below (grow_refl w1 _) hb2
  rw [← hw2, ← hX]
  clear hw2 hb2 hX HT1 HZ1 HM1 ht1
  have x1 := HX2.out.c1
  by_cases hp : b1 < 0
  · have hd : decide (b1 < 0) = true := decide_eq_true hp
    have HRE2 := Lib.hid (HRE1.out.tape HG2.out (fun a ha => (HRB.out a ha).2))
    clear x1 hp
    have x0 := HX2.out.c0
    have x1 := HX2.out.c1
    have x2 := HX2.out.c2
    have x3 := HX2.out.c3
    have x4 := HX2.out.c4
    have x5 := HX2.out.c5
    have x6 := HX2.out.c6
    have z0 := HZ2.out.c0
    have zf0 := HZ2.out.free 0
    have z1 := HZ2.out.c1
    have zf1 := HZ2.out.free 1
    have z2 := HZ2.out.c2
    have zf2 := HZ2.out.free 2
    have z3 := HZ2.out.c3
    have zf3 := HZ2.out.free 3
    have z4 := HZ2.out.c4
    have zf4 := HZ2.out.free 4
    have z5 := HZ2.out.c5
    have zf5 := HZ2.out.free 5
    have z6 := HZ2.out.c6
    have zf6 := HZ2.out.free 6
    go_wp2
    exact bodyPost_ret (resultsAsk (((((((HZ2.out.s0 b0).s1 b1).s2 b2).s3 b3).s4 b4).s5 b5).s6 (.slice rd recs.length rc)) rfl) rfl (gives_ask (w1 := w1) (grow_trans HG1.out HG2.out) hZw hkZ ⟨i1, HT2.out⟩ hb1 HTX.out h16 HRE2.out (fun a ha => (HRB.out a ha).1))
  · have hd : decide (b1 < 0) = false := decide_eq_false hp
    clear hp
    go_wp2_with fail
    refine (tapeNext_any w2 kt ad len cap i1 8 HT2.out (by omega) (by omega)).mono ?_
    rintro e w3 ⟨z, i3, rfl, hz0, hz1, ht3, hg3⟩
    have HT3 := Lib.hid ht3
    have HX3 := Lib.hid (HX2.out.tape hg3 (by omega))
    have HZ3 := Lib.hid (HZ2.out.tape hg3 (by omega))
    have HG3 := Lib.hid (grow_trans HG2.out hg3)
    have HM3 := Lib.hid (HM2.out.grown hg3 (by omega) (fun a ha e => by have := (HM2.out.row a ha).1; omega) (fun m hm a ha e => by have := (HM2.out.ins m hm a ha).1; omega))
    clear ht3 hg3 HT2 HX2 HZ2 HG2 HM2 x1
    by_cases hz : z = 0
    · have hd2 : (z == 0) = true := by rw [hz]; rfl
      have HRE3 := Lib.hid (HRE1.out.tape HG3.out (fun a ha => (HRB.out a ha).2))
      clear hz hz0 hz1
      have x0 := HX3.out.c0
      have x1 := HX3.out.c1
      have x2 := HX3.out.c2
      have x3 := HX3.out.c3
      have x4 := HX3.out.c4
      have x5 := HX3.out.c5
      have x6 := HX3.out.c6
      have z0 := HZ3.out.c0
      have zf0 := HZ3.out.free 0
      have z1 := HZ3.out.c1
      have zf1 := HZ3.out.free 1
      have z2 := HZ3.out.c2
      have zf2 := HZ3.out.free 2
      have z3 := HZ3.out.c3
      have zf3 := HZ3.out.free 3
      have z4 := HZ3.out.c4
      have zf4 := HZ3.out.free 4
      have z5 := HZ3.out.c5
      have zf5 := HZ3.out.free 5
      have z6 := HZ3.out.c6
      have zf6 := HZ3.out.free 6
      go_wp2
      exact bodyPost_ret (resultsAsk (((((((HZ3.out.s0 b0).s1 b1).s2 b2).s3 b3).s4 b4).s5 b5).s6 (.slice rd recs.length rc)) rfl) rfl (gives_ask (w1 := w1) (grow_trans HG1.out HG3.out) hZw hkZ ⟨i3, HT3.out⟩ hb1 HTX.out h16 HRE3.out (fun a ha => (HRB.out a ha).1))
    · have hd2 : (z == 0) = false := beq_false_of_ne hz
      clear hz hz0 hz1
      go_wp2_with fail
      refine (producers_any w3 km mc start mad mlen mcap ms HM3.out hL HOK.out).mono ?_
      rintro e w4 ⟨pad, plen, pcap, ps, rfl, hpd, hps, hpa, hpi, hb4⟩
      have hXlt := HX3.out.lt
      have HAR4 : Hid (AR w1 kt ad len cap Z X pad plen pcap ps w4) := ⟨⟨i3, HT3.out.on hb4⟩, HZ3.out.on hb4, hpd, grow_below HG3.out hb4, fun a ha => by have := hpa a ha; omega, fun m hm a ha => by have := hpi m hm a ha; omega, hkZ, hZX, hX1⟩
      have HX4 := Lib.hid (HX3.out.on hb4)
      have HFP : Hid (∀ m ∈ ps, m.p.last.length ≤ 5) := by
        intro m hm
        have h1 := foldP_few (l := []) (bats ms) (fun p hp => by cases hp)
        rw [← hps] at h1
        exact h1 m.p (List.mem_map_of_mem hm)
      have hpl : plen ≤ 100000 := by
        have h1 := foldP_len [] (bats ms)
        have h2 := hpd.row.length
        have h3 : (pds ps).length = ps.length := by unfold pds; rw [List.length_map]
        have h4 : (bats ms).length = mlen := by unfold bats; rw [List.length_map]; exact HM3.out.bats.row.length
        rw [← hps, h3] at h1
        simp at h1
        omega
      clear hpd hps hpa hpi hb4 hXlt HT3 HX3 HZ3 HG3 HM3
      go_wp2
      go_loopw [24] (fun v24 wr => ∃ j : Nat, v24 = .int .i64 (j : Int) ∧ j ≤ plen ∧ ∃ c2 c3 c4, AR w1 kt ad len cap Z X pad plen pcap ps wr ∧ BoxAt wr X b0 b1 c2 c3 c4 b5 (.slice rd recs.length rc)) (fun v24 _ => plen - (intOf v24).toNat)
      case atStart => exact ⟨0, rfl, Nat.zero_le _, b2, b3, b4, HAR4.out, HX4.out⟩
      case round =>
        obtain ⟨j, rfl, hj, c2, c3, c4, har, hxx⟩ := hrel
        have HAR := Lib.hid har
        have HX := Lib.hid hxx
        clear har hxx HAR4 HX4
        obtain ⟨wo, hwo⟩ : ∃ wo : World, wo = wr := ⟨_, rfl⟩
        subst hwo
        by_cases hlt : j < plen
        · have hd3 : decide (j < plen) = true := decide_eq_true hlt
          have hjl : (j : Int) < (plen : Int) := by omega
          obtain ⟨bk, off, m, rfl, hbk, hmm, hla, k0, k1, k2, k3⟩ := HAR.out.pds.get hlt
          have hmem := List.mem_of_getElem? hmm
          have hn5 := HFP.out m hmem
          have HLA := Lib.hid hla
          have HMA : Hid (∀ a, m.ad = some a → X < a.block) := HAR.out.ins m hmem
          clear hla hmm hmem hbk
          go_upto_region 7 with fail
          obtain ⟨w5, hw5⟩ : ∃ w5, w5 = wo.alloc (.cells #[.int .i64 m.p.id, .int .i64 m.p.epoch, .slice m.ad m.p.last.length m.cap, .int .i64 m.p.opn] 76) := ⟨_, rfl⟩
          have hb5 : Below wo.heap.size wo w5 := by rw [hw5]; exact (Below.refl _ _).alloc (Nat.le_refl _) _
          obtain ⟨P, hP⟩ : ∃ P, P = wo.heap.size := ⟨_, rfl⟩
          have hPX : X < P := by rw [hP]; exact HX.out.lt
          have HP5 : Hid (PBox w5 P m.p.id m.p.epoch (.slice m.ad m.p.last.length m.cap) m.p.opn) := by show PBox _ _ _ _ _ _; rw [hw5, hP]; exact pbox_new wo _ _ _ _
          have HAR5 := Lib.hid (HAR.out.on hb5)
          have HX5 := Lib.hid (HX.out.on hb5)
          have HLA5 := Lib.hid (HLA.out.keep hb5)
          rw [← hw5, ← hP]
          clear hw5 hb5 hP k0 k1 k2 k3 HAR HX HLA
          have q0 := HP5.out.c0
          have q1 := HP5.out.c1
          have q2 := HP5.out.c2
          have q3 := HP5.out.c3
          have x1 := HX5.out.c1
          have x2 := HX5.out.c2
          have x5 := HX5.out.c5
          have f2 := HX5.out.free 2
          by_cases hid : m.p.id = b1
          · have hd4 : (m.p.id == b1) = true := by rw [hid]; simp
            have hd4n : (m.p.id != b1) = false := by unfold bne; rw [hd4]; rfl
            clear hid
            go_upto_region 9 with fail
            obtain ⟨w6, hw6⟩ : ∃ w6, w6 = w5.setCell ⟨X, 2, none⟩ (.int .i64 m.p.epoch) := ⟨_, rfl⟩
            have HX6 : Hid (BoxAt w6 X b0 b1 m.p.epoch c3 c4 b5 (.slice rd recs.length rc)) := by show BoxAt _ _ _ _ _ _ _ _ _; rw [hw6]; exact HX5.out.s2 _
            have HAR6 : Hid (AR w1 kt ad len cap Z X (some ⟨bk, off, none⟩) plen pcap ps w6) := by show AR _ _ _ _ _ _ _ _ _ _ _ _; rw [hw6]; exact HAR5.out.s 2 _
            have HP6 : Hid (PBox w6 P m.p.id m.p.epoch (.slice m.ad m.p.last.length m.cap) m.p.opn) := by show PBox _ _ _ _ _ _; rw [hw6]; exact HP5.out.off (by omega) _
            have HLA6 : Hid (LastAt w6 m) := by show RowAt _ _ _ _ _ _; rw [hw6]; exact HLA5.out.off (fun a ha => by have := HMA.out a ha; omega) _ _
            rw [← hw6]
            clear hw6 HX5 HAR5 HP5 HLA5 q0 q1 q2 q3 x1 x2 x5 f2
            have x5 := HX6.out.c5
            by_cases hmk : b5 = 0
            · have hd5 : (b5 == 0) = true := by rw [hmk]; rfl
              clear hmk
              have x3 := HX6.out.c3
              have f3 := HX6.out.free 3
              go_upto_region 11 with fail
              obtain ⟨w7, hw7⟩ : ∃ w7, w7 = w6.setCell ⟨X, 3, none⟩ (.int .i64 0) := ⟨_, rfl⟩
              have HX7 : Hid (BoxAt w7 X b0 b1 m.p.epoch 0 c4 b5 (.slice rd recs.length rc)) := by show BoxAt _ _ _ _ _ _ _ _ _; rw [hw7]; exact HX6.out.s3 _
              have HAR7 : Hid (AR w1 kt ad len cap Z X (some ⟨bk, off, none⟩) plen pcap ps w7) := by show AR _ _ _ _ _ _ _ _ _ _ _ _; rw [hw7]; exact HAR6.out.s 3 _
              have HP7 : Hid (PBox w7 P m.p.id m.p.epoch (.slice m.ad m.p.last.length m.cap) m.p.opn) := by show PBox _ _ _ _ _ _; rw [hw7]; exact HP6.out.off (by omega) _
              have HLA7 : Hid (LastAt w7 m) := by show RowAt _ _ _ _ _ _; rw [hw7]; exact HLA6.out.off (fun a ha => by have := HMA.out a ha; omega) _ _
              rw [← hw7]
              clear hw7 HX6 HAR6 HP6 HLA6 x3 x5 f3
              obtain ⟨n, hn⟩ : ∃ n, m.p.last.length = n := ⟨_, rfl⟩
              rw [hn] at HP7 hn5
              have HN := Lib.hid hn
              clear hn
              have q2 := HP7.out.c2
              have q3 := HP7.out.c3
              go_upto_if 44 with (fail)
              go_cut [8] from 43 to 81 (fun s8 wx => s8 = .int .i64 (n : Int) ∧ ∃ y3, AR w1 kt ad len cap Z X (some ⟨bk, off, none⟩) plen pcap ps wx ∧ BoxAt wx X b0 b1 m.p.epoch y3 c4 b5 (.slice rd recs.length rc) ∧ PBox wx P m.p.id m.p.epoch (.slice m.ad n m.cap) m.p.opn ∧ LastAt wx m)
              case first =>
                by_cases h0 : n = 0
                · have hd6 : decide ((0 : Int) < (n : Int)) = false := decide_eq_false (by omega)
                  have hd60 : decide (0 < n) = false := decide_eq_false (by omega)
                  try rw [hd6]
                  try rw [hd60]
                  go_wp2
                  go_meet
                  case rel => exact ⟨rfl, _, HAR7.out, HX7.out, HP7.out, HLA7.out⟩
                · have hd6 : decide ((0 : Int) < (n : Int)) = true := decide_eq_true (by omega)
                  have hd60 : decide (0 < n) = true := decide_eq_true (by omega)
                  try rw [hd6]
                  try rw [hd60]
                  obtain ⟨bl, ol, y, hmad, _, _, _, y1, _⟩ := tr_get HLA7.out (i := n - 1) (by rw [HN.out]; omega)
                  have x3 := HX7.out.c3
                  have f3 := HX7.out.free 3
                  have hi1 : (1 : Int) ≤ (n : Int) := by omega
                  have hi2 : (n : Int) - 1 < (n : Int) := by omega
                  have hi3 : ((n : Int) - 1).toNat = n - 1 := by omega
                  have hw1 : wrap64 ((n : Int) - 1) = (n : Int) - 1 := by unfold wrap64; omega
                  rw [hmad] at q2
                  obtain ⟨z3, hz3⟩ : ∃ z3, bits .and .i64 (wrap64 (y.l + 1)) 2147483647 = z3 := ⟨_, rfl⟩
                  go_wp2
                  go_meet
                  case rel => exact ⟨rfl, z3, HAR7.out.s 3 _, HX7.out.s3 z3, HP7.out.off (by omega) _, HLA7.out.off (fun a ha => by have := HMA.out a ha; omega) _ _⟩
              case rest =>
                obtain ⟨rfl, y3, har, hxx, hpp, hla⟩ := hcut
                have HAR8 := Lib.hid har
                have HX8 := Lib.hid hxx
                have HP8 := Lib.hid hpp
                have HLA8 := Lib.hid hla
                clear har hxx hpp hla HAR7 HX7 HP7 HLA7 q2 q3
                have q2 := HP8.out.c2
                have q3 := HP8.out.c3
                have x4 := HX8.out.c4
                have f4 := HX8.out.free 4
                by_cases hop : 0 ≤ m.p.opn
                · have hd7 : decide (0 ≤ m.p.opn) = true := decide_eq_true hop
                  clear hop
                  go_upto_region 16 with fail
                  obtain ⟨w9, hw9⟩ : ∃ w9, w9 = wc.setCell ⟨X, 4, none⟩ (.bool true) := ⟨_, rfl⟩
                  have HX9 : Hid (BoxAt w9 X b0 b1 m.p.epoch y3 true b5 (.slice rd recs.length rc)) := by show BoxAt _ _ _ _ _ _ _ _ _; rw [hw9]; exact HX8.out.s4 _
                  have HAR9 : Hid (AR w1 kt ad len cap Z X (some ⟨bk, off, none⟩) plen pcap ps w9) := by show AR _ _ _ _ _ _ _ _ _ _ _ _; rw [hw9]; exact HAR8.out.s 4 _
                  have HP9 : Hid (PBox w9 P m.p.id m.p.epoch (.slice m.ad n m.cap) m.p.opn) := by show PBox _ _ _ _ _ _; rw [hw9]; exact HP8.out.off (by omega) _
                  have HLA9 : Hid (LastAt w9 m) := by show RowAt _ _ _ _ _ _; rw [hw9]; exact HLA8.out.off (fun a ha => by have := HMA.out a ha; omega) _ _
                  rw [← hw9]
                  clear hw9 HX8 HAR8 HP8 HLA8 q2 q3 x4 f4
                  by_cases h0 : n = 0
                  · have hd6 : decide ((0 : Int) < (n : Int)) = false := decide_eq_false (by omega)
                    have hd60 : decide (0 < n) = false := decide_eq_false (by omega)
                    go_wp2
                    go_roundw
                    case rel => exact ⟨j + 1, by go_num, by omega, _, _, _, HAR9.out, HX9.out⟩
                    case measure => simp [intOf]; omega
                  · have hd6 : decide ((0 : Int) < (n : Int)) = true := decide_eq_true (by omega)
                    have hd60 : decide (0 < n) = true := decide_eq_true (by omega)
                    obtain ⟨i9, ht9⟩ := HAR9.out.tape
                    have HT9 := Lib.hid ht9
                    clear ht9
                    go_wp2_with fail
                    refine (tapeNext_any w9 kt ad len cap i9 7 HT9.out (by omega) (by omega)).mono ?_
                    rintro e w10 ⟨z7, i10, rfl, hz70, hz71, ht10, hg10⟩
                    have HT10 := Lib.hid ht10
                    have HAR10 := Lib.hid (HAR9.out.next hg10 ⟨i10, ht10⟩)
                    have HX10 := Lib.hid (HX9.out.grows hg10 (fun e => by have := Option.some.inj e; omega))
                    have HP10 := Lib.hid (HP9.out.grown hg10 (fun e => by have := Option.some.inj e; omega))
                    have HLA10 : Hid (LastAt w10 m) := HLA9.out.grown hg10 (fun a ha e => by have := HMA.out a ha; have := Option.some.inj e; omega)
                    clear ht10 hg10 HT9 HAR9 HX9 HP9 HLA9
                    by_cases hz7 : z7 = 0
                    · have hd8 : (z7 == 0) = true := by rw [hz7]; rfl
                      clear hz7 hz70 hz71
                      have KS : Hid (∀ W, PBox W P m.p.id m.p.epoch (.slice m.ad n m.cap) m.p.opn → (fun (W : World) => W.cell? ⟨P, 2, none⟩ = some (.slice m.ad n m.cap)) W) := fun W hW => hW.c2
                      go_upto_region 17 with fail
                      have hPd : PBox w10.drew P m.p.id m.p.epoch (.slice m.ad n m.cap) m.p.opn := HP10.out.on ((Below.refl _ w10).drew)
                      refine wp_region_noPanic ?_
                      refine wp_region_z [9] (fun (W : World) => W.cell? ⟨P, 2, none⟩ = some (.slice m.ad n m.cap)) (by kernel_rfl) ?_
                      have hHeld : (fun (W : World) => W.cell? ⟨P, 2, none⟩ = some (.slice m.ad n m.cap)) _ := KS.out _ hPd
                      obtain ⟨u0, hu0⟩ : ∃ u, u = w10.drew := ⟨_, rfl⟩
                      have HBu0 : Hid (Below w10.heap.size w10 u0) := by show Below _ _ _; rw [hu0]; exact (Below.refl _ w10).drew
                      rw [← hu0] at hHeld hPd
                      rw [← hu0]
                      clear hu0
                      have HTu0 := Lib.hid (HT10.out.on HBu0.out)
                      have HARu0 := Lib.hid (HAR10.out.on HBu0.out)
                      have HXu0 := Lib.hid (HX10.out.on HBu0.out)
                      have HLAu0 : Hid (LastAt u0 m) := HLA10.out.keep HBu0.out
                      refine wpAnyZ_take (i := 0) (oi := ⟨_, _, _, _, _, _⟩) (v := ?_) rfl (by kernel_rfl) (by kernel_rfl) (by kernel_rfl) (by kernel_rfl) (by kernel_rfl) (fun _ _ _ h => h) (Or.inl ⟨by rfl, ?_⟩) (by assumption) ?_
                      rotate_left
                      · intro W hSw
                        (try dsimp only at hSw)
                        go_simp
                        (try with_reducible rfl)
                      (try simp only [Act.put, List.setIfInBounds_toArray, List.set_cons_zero, List.set_cons_succ])
                      refine wpAnyZ_take (i := 1) (oi := ⟨_, _, _, _, _, _⟩) (v := ?_) rfl (by kernel_rfl) (by kernel_rfl) (by kernel_rfl) (by kernel_rfl) (by kernel_rfl) (fun _ _ _ h => h) (Or.inl ⟨by rfl, ?_⟩) (by assumption) ?_
                      rotate_left
                      · intro W hSw
                        (try dsimp only at hSw)
                        go_simp
                        (try with_reducible rfl)
                      (try simp only [Act.put, List.setIfInBounds_toArray, List.set_cons_zero, List.set_cons_succ])
                      refine wpAnyZ_take (i := 2) (oi := ⟨_, _, _, _, _, _⟩) (v := ?_) rfl (by kernel_rfl) (by kernel_rfl) (by kernel_rfl) (by kernel_rfl) (by kernel_rfl) (fun _ _ _ h => h) (Or.inl ⟨by rfl, ?_⟩) (by assumption) ?_
                      rotate_left
                      · intro W hSw
                        (try dsimp only at hSw)
                        go_simp
                        (try with_reducible rfl)
                      (try simp only [Act.put, List.setIfInBounds_toArray, List.set_cons_zero, List.set_cons_succ])
                      refine wpAnyZ_take (i := 3) (oi := ⟨_, _, _, _, _, _⟩) (v := ?_) rfl (by kernel_rfl) (by kernel_rfl) (by kernel_rfl) (by kernel_rfl) (by kernel_rfl) (fun _ _ _ h => h) (Or.inl ⟨by rfl, ?_⟩) (by assumption) ?_
                      rotate_left
                      · intro W hSw
                        (try dsimp only at hSw)
                        go_simp
                        (try with_reducible rfl)
                      (try simp only [Act.put, List.setIfInBounds_toArray, List.set_cons_zero, List.set_cons_succ])
                      refine wpAnyZ_ready (rs := [4]) (by kernel_rfl) (by simp) ?_
                      refine AllReadyZ.cons (o := ⟨_, _, _, _, _, _⟩) rfl (fun C hC => ?_) AllReadyZ.nil
                      go_simp
                      refine (tapeNext_any u0 kt ad len cap i10 (n : Int) HTu0.out (by omega) (by omega)).mono ?_
                      rintro e u1 ⟨vv, i11, rfl, hv0, hv1, ht11, hg11⟩
                      have hPd1 := hPd.grown hg11 (fun e => by have := Option.some.inj e; omega)
                      have HX11 := Lib.hid (HXu0.out.grows hg11 (fun e => by have := Option.some.inj e; omega))
                      have HAR11 := Lib.hid (HARu0.out.next hg11 ⟨i11, ht11⟩)
                      have HLA11 : Hid (LastAt u1 m) := HLAu0.out.grown hg11 (fun a ha e => by have := HMA.out a ha; have := Option.some.inj e; omega)
                      obtain ⟨k, rfl⟩ : ∃ k : Nat, vv = (k : Int) := ⟨vv.toNat, by omega⟩
                      clear ht11 hg11 hPd
                      have hkn : k < n := by omega
                      go_wp2_with fail
                      have hHeld : (fun (W : World) => W.cell? ⟨P, 2, none⟩ = some (.slice m.ad n m.cap)) u1 := KS.out _ hPd1
                      refine hC.out _ _ (fun _ => hHeld) (fun _ => ?_)
                      clear hC C
                      (try simp only [Act.put, List.setIfInBounds_toArray, List.set_cons_zero, List.set_cons_succ])
                      obtain ⟨bl, ol, y, hmad, _, _, y0, _, _⟩ := tr_get HLA11.out (i := k) (by rw [HN.out]; omega)
                      refine wpAnyZ_strengthen (S' := (fun (W : World) => W.cell? ⟨P, 2, none⟩ = some (.slice m.ad n m.cap) ∧ W.cell? ⟨bl, ol + k * 3, none⟩ = some (.int .i64 y.f))) (fun W h => h.1) _ _ _ _ ?_
                      have hHeld2 : (fun (W : World) => W.cell? ⟨P, 2, none⟩ = some (.slice m.ad n m.cap) ∧ W.cell? ⟨bl, ol + k * 3, none⟩ = some (.int .i64 y.f)) u1 := ⟨hHeld, y0⟩
                      clear hHeld
                      have hHeld := hHeld2
                      clear hHeld2 y0
                      rw [hmad] at hHeld ⊢
                      refine wpAnyZ_take (i := 5) (oi := ⟨_, _, _, _, _, _⟩) (v := ?_) rfl (by kernel_rfl) (by kernel_rfl) (by kernel_rfl) (by kernel_rfl) (by kernel_rfl) (fun _ _ _ h => h) (Or.inl ⟨by rfl, ?_⟩) (by assumption) ?_
                      rotate_left
                      · intro W hSw
                        (try dsimp only at hSw)
                        go_simp
                        (try with_reducible rfl)
                      (try simp only [Act.put, List.setIfInBounds_toArray, List.set_cons_zero, List.set_cons_succ])
                      refine wpAnyZ_take (i := 6) (oi := ⟨_, _, _, _, _, _⟩) (v := ?_) rfl (by kernel_rfl) (by kernel_rfl) (by kernel_rfl) (by kernel_rfl) (by kernel_rfl) (fun _ _ _ h => h) (Or.inl ⟨by rfl, ?_⟩) (by assumption) ?_
                      rotate_left
                      · intro W hSw
                        (try dsimp only at hSw)
                        go_simp
                        (try with_reducible rfl)
                      (try simp only [Act.put, List.setIfInBounds_toArray, List.set_cons_zero, List.set_cons_succ])
                      refine wpAnyZ_take (i := 7) (oi := ⟨_, _, _, _, _, _⟩) (v := ?_) rfl (by kernel_rfl) (by kernel_rfl) (by kernel_rfl) (by kernel_rfl) (by kernel_rfl) (fun _ _ _ h => h) (Or.inl ⟨by rfl, ?_⟩) (by assumption) ?_
                      rotate_left
                      · intro W hSw
                        (try dsimp only at hSw)
                        go_simp
                        (try with_reducible rfl)
                      (try simp only [Act.put, List.setIfInBounds_toArray, List.set_cons_zero, List.set_cons_succ])
                      refine wpAnyZ_take (i := 8) (oi := ⟨_, _, _, _, _, _⟩) (v := ?_) rfl (by kernel_rfl) (by kernel_rfl) (by kernel_rfl) (by kernel_rfl) (by kernel_rfl) (fun _ _ _ h => h) (Or.inl ⟨by rfl, ?_⟩) (by assumption) ?_
                      rotate_left
                      · intro W hSw
                        (try dsimp only at hSw)
                        go_simp
                        (try with_reducible rfl)
                      (try simp only [Act.put, List.setIfInBounds_toArray, List.set_cons_zero, List.set_cons_succ])
                      have x3 := HX11.out.c3
                      have f3 := HX11.out.free 3
                      refine wpAnyZ_ready (rs := [9]) (by kernel_rfl) (by simp) ?_
                      refine AllReadyZ.cons (o := ⟨_, _, _, _, _, _⟩) rfl (fun C hC => ?_) AllReadyZ.nil
                      go_simp
                      refine hC.out _ _ (zfree_no (by kernel_rfl)) (fun _ => ?_)
                      clear hC C
                      (try simp only [Act.put, List.setIfInBounds_toArray, List.set_cons_zero, List.set_cons_succ])
                      refine wpAnyZ_done (by kernel_rfl) ?_ _
                      refine NoPanic.normal ?_
                      obtain ⟨w12, hw12⟩ : ∃ w12, w12 = u1.setCell ⟨X, 3, none⟩ (.int .i64 y.f) := ⟨_, rfl⟩
                      have HX12 : Hid (BoxAt w12 X b0 b1 m.p.epoch y.f true b5 (.slice rd recs.length rc)) := by show BoxAt _ _ _ _ _ _ _ _ _; rw [hw12]; exact HX11.out.s3 _
                      have HAR12 : Hid (AR w1 kt ad len cap Z X (some ⟨bk, off, none⟩) plen pcap ps w12) := by show AR _ _ _ _ _ _ _ _ _ _ _ _; rw [hw12]; exact HAR11.out.s 3 _
                      try rw [← hw12]
                      clear hw12 hHeld
                      go_wp2
                      go_roundw
                      case rel => exact ⟨j + 1, by go_num, by omega, _, _, _, HAR12.out, HX12.out⟩
                      case measure => simp [intOf]; omega
                    · have hd8 : (z7 == 0) = false := beq_false_of_ne hz7
                      clear hz7 hz70 hz71
                      go_wp2
                      go_roundw
                      case rel => exact ⟨j + 1, by go_num, by omega, _, _, _, HAR10.out, HX10.out⟩
                      case measure => simp [intOf]; omega
                · have hd7 : decide (0 ≤ m.p.opn) = false := decide_eq_false hop
                  clear hop
                  go_upto_region 16 with fail
                  obtain ⟨w9, hw9⟩ : ∃ w9, w9 = wc.setCell ⟨X, 4, none⟩ (.bool c4) := ⟨_, rfl⟩
                  have HX9 : Hid (BoxAt w9 X b0 b1 m.p.epoch y3 c4 b5 (.slice rd recs.length rc)) := by show BoxAt _ _ _ _ _ _ _ _ _; rw [hw9]; exact HX8.out.s4 _
                  have HAR9 : Hid (AR w1 kt ad len cap Z X (some ⟨bk, off, none⟩) plen pcap ps w9) := by show AR _ _ _ _ _ _ _ _ _ _ _ _; rw [hw9]; exact HAR8.out.s 4 _
                  have HP9 : Hid (PBox w9 P m.p.id m.p.epoch (.slice m.ad n m.cap) m.p.opn) := by show PBox _ _ _ _ _ _; rw [hw9]; exact HP8.out.off (by omega) _
                  have HLA9 : Hid (LastAt w9 m) := by show RowAt _ _ _ _ _ _; rw [hw9]; exact HLA8.out.off (fun a ha => by have := HMA.out a ha; omega) _ _
                  rw [← hw9]
                  clear hw9 HX8 HAR8 HP8 HLA8 q2 q3 x4 f4
                  by_cases h0 : n = 0
                  · have hd6 : decide ((0 : Int) < (n : Int)) = false := decide_eq_false (by omega)
                    have hd60 : decide (0 < n) = false := decide_eq_false (by omega)
                    go_wp2
                    go_roundw
                    case rel => exact ⟨j + 1, by go_num, by omega, _, _, _, HAR9.out, HX9.out⟩
                    case measure => simp [intOf]; omega
                  · have hd6 : decide ((0 : Int) < (n : Int)) = true := decide_eq_true (by omega)
                    have hd60 : decide (0 < n) = true := decide_eq_true (by omega)
                    obtain ⟨i9, ht9⟩ := HAR9.out.tape
                    have HT9 := Lib.hid ht9
                    clear ht9
                    go_wp2_with fail
                    refine (tapeNext_any w9 kt ad len cap i9 7 HT9.out (by omega) (by omega)).mono ?_
                    rintro e w10 ⟨z7, i10, rfl, hz70, hz71, ht10, hg10⟩
                    have HT10 := Lib.hid ht10
                    have HAR10 := Lib.hid (HAR9.out.next hg10 ⟨i10, ht10⟩)
                    have HX10 := Lib.hid (HX9.out.grows hg10 (fun e => by have := Option.some.inj e; omega))
                    have HP10 := Lib.hid (HP9.out.grown hg10 (fun e => by have := Option.some.inj e; omega))
                    have HLA10 : Hid (LastAt w10 m) := HLA9.out.grown hg10 (fun a ha e => by have := HMA.out a ha; have := Option.some.inj e; omega)
                    clear ht10 hg10 HT9 HAR9 HX9 HP9 HLA9
                    by_cases hz7 : z7 = 0
                    · have hd8 : (z7 == 0) = true := by rw [hz7]; rfl
                      clear hz7 hz70 hz71
                      have KS : Hid (∀ W, PBox W P m.p.id m.p.epoch (.slice m.ad n m.cap) m.p.opn → (fun (W : World) => W.cell? ⟨P, 2, none⟩ = some (.slice m.ad n m.cap)) W) := fun W hW => hW.c2
                      go_upto_region 17 with fail
                      have hPd : PBox w10.drew P m.p.id m.p.epoch (.slice m.ad n m.cap) m.p.opn := HP10.out.on ((Below.refl _ w10).drew)
                      refine wp_region_noPanic ?_
                      refine wp_region_z [9] (fun (W : World) => W.cell? ⟨P, 2, none⟩ = some (.slice m.ad n m.cap)) (by kernel_rfl) ?_
                      have hHeld : (fun (W : World) => W.cell? ⟨P, 2, none⟩ = some (.slice m.ad n m.cap)) _ := KS.out _ hPd
                      obtain ⟨u0, hu0⟩ : ∃ u, u = w10.drew := ⟨_, rfl⟩
                      have HBu0 : Hid (Below w10.heap.size w10 u0) := by show Below _ _ _; rw [hu0]; exact (Below.refl _ w10).drew
                      rw [← hu0] at hHeld hPd
                      rw [← hu0]
                      clear hu0
                      have HTu0 := Lib.hid (HT10.out.on HBu0.out)
                      have HARu0 := Lib.hid (HAR10.out.on HBu0.out)
                      have HXu0 := Lib.hid (HX10.out.on HBu0.out)
                      have HLAu0 : Hid (LastAt u0 m) := HLA10.out.keep HBu0.out
                      refine wpAnyZ_take (i := 0) (oi := ⟨_, _, _, _, _, _⟩) (v := ?_) rfl (by kernel_rfl) (by kernel_rfl) (by kernel_rfl) (by kernel_rfl) (by kernel_rfl) (fun _ _ _ h => h) (Or.inl ⟨by rfl, ?_⟩) (by assumption) ?_
                      rotate_left
                      · intro W hSw
                        (try dsimp only at hSw)
                        go_simp
                        (try with_reducible rfl)
                      (try simp only [Act.put, List.setIfInBounds_toArray, List.set_cons_zero, List.set_cons_succ])
                      refine wpAnyZ_take (i := 1) (oi := ⟨_, _, _, _, _, _⟩) (v := ?_) rfl (by kernel_rfl) (by kernel_rfl) (by kernel_rfl) (by kernel_rfl) (by kernel_rfl) (fun _ _ _ h => h) (Or.inl ⟨by rfl, ?_⟩) (by assumption) ?_
                      rotate_left
                      · intro W hSw
                        (try dsimp only at hSw)
                        go_simp
                        (try with_reducible rfl)
                      (try simp only [Act.put, List.setIfInBounds_toArray, List.set_cons_zero, List.set_cons_succ])
                      refine wpAnyZ_take (i := 2) (oi := ⟨_, _, _, _, _, _⟩) (v := ?_) rfl (by kernel_rfl) (by kernel_rfl) (by kernel_rfl) (by kernel_rfl) (by kernel_rfl) (fun _ _ _ h => h) (Or.inl ⟨by rfl, ?_⟩) (by assumption) ?_
                      rotate_left
                      · intro W hSw
                        (try dsimp only at hSw)
                        go_simp
                        (try with_reducible rfl)
                      (try simp only [Act.put, List.setIfInBounds_toArray, List.set_cons_zero, List.set_cons_succ])
                      refine wpAnyZ_take (i := 3) (oi := ⟨_, _, _, _, _, _⟩) (v := ?_) rfl (by kernel_rfl) (by kernel_rfl) (by kernel_rfl) (by kernel_rfl) (by kernel_rfl) (fun _ _ _ h => h) (Or.inl ⟨by rfl, ?_⟩) (by assumption) ?_
                      rotate_left
                      · intro W hSw
                        (try dsimp only at hSw)
                        go_simp
                        (try with_reducible rfl)
                      (try simp only [Act.put, List.setIfInBounds_toArray, List.set_cons_zero, List.set_cons_succ])
                      refine wpAnyZ_ready (rs := [4]) (by kernel_rfl) (by simp) ?_
                      refine AllReadyZ.cons (o := ⟨_, _, _, _, _, _⟩) rfl (fun C hC => ?_) AllReadyZ.nil
                      go_simp
                      refine (tapeNext_any u0 kt ad len cap i10 (n : Int) HTu0.out (by omega) (by omega)).mono ?_
                      rintro e u1 ⟨vv, i11, rfl, hv0, hv1, ht11, hg11⟩
                      have hPd1 := hPd.grown hg11 (fun e => by have := Option.some.inj e; omega)
                      have HX11 := Lib.hid (HXu0.out.grows hg11 (fun e => by have := Option.some.inj e; omega))
                      have HAR11 := Lib.hid (HARu0.out.next hg11 ⟨i11, ht11⟩)
                      have HLA11 : Hid (LastAt u1 m) := HLAu0.out.grown hg11 (fun a ha e => by have := HMA.out a ha; have := Option.some.inj e; omega)
                      obtain ⟨k, rfl⟩ : ∃ k : Nat, vv = (k : Int) := ⟨vv.toNat, by omega⟩
                      clear ht11 hg11 hPd
                      have hkn : k < n := by omega
                      go_wp2_with fail
                      have hHeld : (fun (W : World) => W.cell? ⟨P, 2, none⟩ = some (.slice m.ad n m.cap)) u1 := KS.out _ hPd1
                      refine hC.out _ _ (fun _ => hHeld) (fun _ => ?_)
                      clear hC C
                      (try simp only [Act.put, List.setIfInBounds_toArray, List.set_cons_zero, List.set_cons_succ])
                      obtain ⟨bl, ol, y, hmad, _, _, y0, _, _⟩ := tr_get HLA11.out (i := k) (by rw [HN.out]; omega)
                      refine wpAnyZ_strengthen (S' := (fun (W : World) => W.cell? ⟨P, 2, none⟩ = some (.slice m.ad n m.cap) ∧ W.cell? ⟨bl, ol + k * 3, none⟩ = some (.int .i64 y.f))) (fun W h => h.1) _ _ _ _ ?_
                      have hHeld2 : (fun (W : World) => W.cell? ⟨P, 2, none⟩ = some (.slice m.ad n m.cap) ∧ W.cell? ⟨bl, ol + k * 3, none⟩ = some (.int .i64 y.f)) u1 := ⟨hHeld, y0⟩
                      clear hHeld
                      have hHeld := hHeld2
                      clear hHeld2 y0
                      rw [hmad] at hHeld ⊢
                      refine wpAnyZ_take (i := 5) (oi := ⟨_, _, _, _, _, _⟩) (v := ?_) rfl (by kernel_rfl) (by kernel_rfl) (by kernel_rfl) (by kernel_rfl) (by kernel_rfl) (fun _ _ _ h => h) (Or.inl ⟨by rfl, ?_⟩) (by assumption) ?_
                      rotate_left
                      · intro W hSw
                        (try dsimp only at hSw)
                        go_simp
                        (try with_reducible rfl)
                      (try simp only [Act.put, List.setIfInBounds_toArray, List.set_cons_zero, List.set_cons_succ])
                      refine wpAnyZ_take (i := 6) (oi := ⟨_, _, _, _, _, _⟩) (v := ?_) rfl (by kernel_rfl) (by kernel_rfl) (by kernel_rfl) (by kernel_rfl) (by kernel_rfl) (fun _ _ _ h => h) (Or.inl ⟨by rfl, ?_⟩) (by assumption) ?_
                      rotate_left
                      · intro W hSw
                        (try dsimp only at hSw)
                        go_simp
                        (try with_reducible rfl)
                      (try simp only [Act.put, List.setIfInBounds_toArray, List.set_cons_zero, List.set_cons_succ])
                      refine wpAnyZ_take (i := 7) (oi := ⟨_, _, _, _, _, _⟩) (v := ?_) rfl (by kernel_rfl) (by kernel_rfl) (by kernel_rfl) (by kernel_rfl) (by kernel_rfl) (fun _ _ _ h => h) (Or.inl ⟨by rfl, ?_⟩) (by assumption) ?_
                      rotate_left
                      · intro W hSw
                        (try dsimp only at hSw)
                        go_simp
                        (try with_reducible rfl)
                      (try simp only [Act.put, List.setIfInBounds_toArray, List.set_cons_zero, List.set_cons_succ])
                      refine wpAnyZ_take (i := 8) (oi := ⟨_, _, _, _, _, _⟩) (v := ?_) rfl (by kernel_rfl) (by kernel_rfl) (by kernel_rfl) (by kernel_rfl) (by kernel_rfl) (fun _ _ _ h => h) (Or.inl ⟨by rfl, ?_⟩) (by assumption) ?_
                      rotate_left
                      · intro W hSw
                        (try dsimp only at hSw)
                        go_simp
                        (try with_reducible rfl)
                      (try simp only [Act.put, List.setIfInBounds_toArray, List.set_cons_zero, List.set_cons_succ])
                      have x3 := HX11.out.c3
                      have f3 := HX11.out.free 3
                      refine wpAnyZ_ready (rs := [9]) (by kernel_rfl) (by simp) ?_
                      refine AllReadyZ.cons (o := ⟨_, _, _, _, _, _⟩) rfl (fun C hC => ?_) AllReadyZ.nil
                      go_simp
                      refine hC.out _ _ (zfree_no (by kernel_rfl)) (fun _ => ?_)
                      clear hC C
                      (try simp only [Act.put, List.setIfInBounds_toArray, List.set_cons_zero, List.set_cons_succ])
                      refine wpAnyZ_done (by kernel_rfl) ?_ _
                      refine NoPanic.normal ?_
                      obtain ⟨w12, hw12⟩ : ∃ w12, w12 = u1.setCell ⟨X, 3, none⟩ (.int .i64 y.f) := ⟨_, rfl⟩
                      have HX12 : Hid (BoxAt w12 X b0 b1 m.p.epoch y.f c4 b5 (.slice rd recs.length rc)) := by show BoxAt _ _ _ _ _ _ _ _ _; rw [hw12]; exact HX11.out.s3 _
                      have HAR12 : Hid (AR w1 kt ad len cap Z X (some ⟨bk, off, none⟩) plen pcap ps w12) := by show AR _ _ _ _ _ _ _ _ _ _ _ _; rw [hw12]; exact HAR11.out.s 3 _
                      try rw [← hw12]
                      clear hw12 hHeld
                      go_wp2
                      go_roundw
                      case rel => exact ⟨j + 1, by go_num, by omega, _, _, _, HAR12.out, HX12.out⟩
                      case measure => simp [intOf]; omega
                    · have hd8 : (z7 == 0) = false := beq_false_of_ne hz7
                      clear hz7 hz70 hz71
                      go_wp2
                      go_roundw
                      case rel => exact ⟨j + 1, by go_num, by omega, _, _, _, HAR10.out, HX10.out⟩
                      case measure => simp [intOf]; omega
            · have hd5 : (b5 == 0) = false := beq_false_of_ne hmk
              clear hmk
              go_wp2
              go_roundw
              case rel => exact ⟨j + 1, by go_num, by omega, _, _, _, HAR6.out, HX6.out⟩
              case measure => simp [intOf]; omega
          · have hd4 : (m.p.id == b1) = false := beq_false_of_ne hid
            have hd4n : (m.p.id != b1) = true := by unfold bne; rw [hd4]; rfl
            clear hid
            go_wp2
            go_roundw
            case rel => exact ⟨j + 1, by go_num, by omega, _, _, _, HAR5.out, HX5.out⟩
            case measure => simp [intOf]; omega
        · have hd3 : decide (j < plen) = false := decide_eq_false hlt
          have HRE9 := Lib.hid (HRE1.out.tape HAR.out.gr (fun a ha => (HRB.out a ha).2))
          have HT9 := Lib.hid HAR.out.tape
          have HG9 := Lib.hid HAR.out.gr
          have HZ9 := Lib.hid HAR.out.res
          have x0 := HX.out.c0
          have x1 := HX.out.c1
          have x2 := HX.out.c2
          have x3 := HX.out.c3
          have x4 := HX.out.c4
          have x5 := HX.out.c5
          have x6 := HX.out.c6
          have z0 := HZ9.out.c0
          have zf0 := HZ9.out.free 0
          have z1 := HZ9.out.c1
          have zf1 := HZ9.out.free 1
          have z2 := HZ9.out.c2
          have zf2 := HZ9.out.free 2
          have z3 := HZ9.out.c3
          have zf3 := HZ9.out.free 3
          have z4 := HZ9.out.c4
          have zf4 := HZ9.out.free 4
          have z5 := HZ9.out.c5
          have zf5 := HZ9.out.free 5
          have z6 := HZ9.out.c6
          have zf6 := HZ9.out.free 6
          go_wp2
          exact bodyPost_ret (resultsAsk (((((((HZ9.out.s0 b0).s1 b1).s2 c2).s3 c3).s4 c4).s5 b5).s6 (.slice rd recs.length rc)) rfl) rfl (gives_ask (w1 := w1) (grow_trans HG1.out HG9.out) hZw hkZ HT9.out hb1 HTX.out h16 HRE9.out (fun a ha => (HRB.out a ha).1))
end Go.Proofs.Ytlcnpeodhfdhlaa

/-! bordereaukeep's Row: a row that a partition may have. -/
namespace Go.Proofs.Ytlcnpeodhfdhlaa
open Go.RowKit
open Go.SeqMath
open Go.ProdMath
open Go.BatMath hiding AllB getD_lt take_all
set_option linter.unusedVariables false

theorem wf_right {b : Bat} (h : rightE b = 0) (hp : b.prod ≤ 9223372036854775807) : b.wf := by
  have := ok_of h
  exact ⟨⟨by have := this.base0; omega, by have := this.base1; omega⟩, ⟨by have := this.prod; omega, hp⟩, ⟨by have := this.epoch0; omega, by have := this.epoch1; omega⟩, ⟨by have := this.seq0; omega, by have := this.seq1; omega⟩, ⟨by have := this.marker0; omega, by have := this.marker1; omega⟩⟩
/-- What is laid behind a row that a partition may have leaves one. -/
def Grows (start : Int) (bs : List Bat) (r : (Int × Int) × List Bat) : Prop := RowD start r.2 ∧ r.2.length ≤ bs.length + 1
theorem put_grows {cap start : Int} {bs : List Bat} {b : Bat} (h : RowD start bs) (hb : b.base = endD start bs) (hp : b.prod ≤ 9223372036854775807) : Grows start bs (putD cap start bs b) := by
  have h0 : Grows start bs ((0, 0), bs) := ⟨h, by show bs.length ≤ _; omega⟩
  unfold putD
  split
  · exact h0
  · rename_i h1
    split
    · exact h0
    · rename_i h2
      split
      · exact h0
      · split
        · exact h0
        · rename_i h3 h4
          have hz : (tcheckD (foldP [] bs) b).2 = 0 := Classical.byContradiction fun h => h1 h
          exact ⟨RowD.snoc h hb (wf_right (tcheck_right hz) hp) hz (by omega) (by omega), by show (bs ++ [b]).length ≤ _; simp⟩
theorem produce_grows {cap start : Int} {bs : List Bat} {b : Bat} (h : RowD start bs) (hp : b.prod ≤ 9223372036854775807) : Grows start bs (produceD cap start bs b) := by
  have h0 : Grows start bs ((0, 0), bs) := ⟨h, by show bs.length ≤ _; omega⟩
  unfold produceD
  split
  · exact h0
  · split
    · exact h0
    · exact put_grows h rfl hp
theorem mark_grows {cap start : Int} {bs : List Bat} {p e m : Int} (h : RowD start bs) (hp : p ≤ 9223372036854775807) : Grows start bs (markD cap start bs p e m) := by
  have h0 : Grows start bs ((0, 0), bs) := ⟨h, by show bs.length ≤ _; omega⟩
  unfold markD
  split
  · exact h0
  · exact put_grows h rfl hp
def GivesRow2 (w : World) (start : Int) (most : Nat) (e : Ending) (w' : World) : Prop :=
  ∃ ad len cap ms, e = .returned (.slice ad len cap) ∧ Hid (BatsAt w' ad len cap ms) ∧ Hid (RowD start (bats ms)) ∧ len ≤ most ∧ Hid (Below w.heap.size w w')
/-- What stands ahead of each round. -/
def RowLoop (w : World) (start : Int) (tad : Option Addr) (tlen tcap most kt km : Nat) (wr : World) : Prop :=
  ∃ ad len cap ms, TapeT wr kt tad tlen tcap ∧ MOk wr km 1073741824 start ad len cap ms ∧ RowD start (bats ms) ∧ len ≤ most ∧ Below w.heap.size w wr
set_option maxRecDepth 100000 in
set_option maxHeartbeats 8000000 in
theorem row_any (w : World) (tad : Option Addr) (tlen tcap : Nat) (zs : List Int) (h : Nums w tad tlen zs) (hL : tlen ≤ 140737488355328) (start : Int) (hs0 : 0 ≤ start) (hs1 : start ≤ 1099511627776) (most : Nat) (hmost : most ≤ 10000) :
    Calls Try.prog 7 #[.slice tad tlen tcap, .int .i64 start, .int .i64 (most : Int)] w (GivesRow2 w start most) := by
  obtain ⟨W1, hW1⟩ : ∃ W1, W1 = w.alloc (.cells #[.slice tad tlen tcap, .int .i64 0] 45) := ⟨_, rfl⟩
  obtain ⟨W2, hW2⟩ : ∃ W2, W2 = W1.alloc (.cells #[.int .i64 1073741824, .int .i64 start, .slice none 0 0] 48) := ⟨_, rfl⟩
  have hb1 : Below w.heap.size w W1 := by rw [hW1]; exact (Below.refl _ _).alloc (Nat.le_refl _) _
  have hb2 : Below W1.heap.size W1 W2 := by rw [hW2]; exact (Below.refl _ _).alloc (Nat.le_refl _) _
  have ht1 : TapeAt W1 w.heap.size tad tlen tcap 0 := by rw [hW1]; exact tape_new h hL
  obtain ⟨kt, hkt⟩ : ∃ k, k = w.heap.size := ⟨_, rfl⟩
  obtain ⟨km, hkm⟩ : ∃ k, k = W1.heap.size := ⟨_, rfl⟩
  rw [← hkt] at ht1
  have hkk : kt < km := by rw [hkm]; exact ht1.lt
  have hktw : w.heap.size ≤ kt := by omega
  have hkmw : w.heap.size ≤ km := by omega
  have HT2 : Hid (TapeAt W2 kt tad tlen tcap 0) := ht1.on hb2
  have HM2 : Hid (MOk W2 km 1073741824 start none 0 0 []) := by
    show MOk _ _ _ _ _ _ _ _
    refine ⟨?_, ⟨rowAt_nil _, (fun m hm => by cases hm)⟩, (fun a ha => by cases ha), (fun m hm => by cases hm)⟩
    show W2.heap[km]? = _
    rw [hW2, hkm]
    exact heap_alloc_new W1 _
  have HB2 := Lib.hid (hb1.trans (hb2.mono hb1.size))
  have HW1 := Lib.hid hW1
  have HW2 := Lib.hid hW2
  have HK1 := Lib.hid hkt
  have HK2 := Lib.hid hkm
  clear hb1 hb2 ht1 hW1 hW2 hkt hkm
  go_enter Try.func7, Try.ntmps7
  go_upto_region 3 with fail
  have hsz : w.heap.size + 1 = km := by rw [HK2.out, HW1.out]; simp
  try rw [hsz]
  rw [← HW1.out, ← HW2.out, ← HK1.out]
  try rw [← HK2.out]
  clear hsz HW1 HW2 HK1 HK2
  go_wp2
  go_loopw [9] (fun v9 wr => ∃ i : Nat, v9 = .int .i64 (i : Int) ∧ i ≤ 4 * most ∧ RowLoop w start tad tlen tcap most kt km wr) (fun v9 _ => 4 * most - (intOf v9).toNat)
  case atStart => exact ⟨0, rfl, Nat.zero_le _, none, 0, 0, [], ⟨0, HT2.out⟩, HM2.out, RowD.nil, Nat.zero_le _, HB2.out⟩
  case round =>
    obtain ⟨i, rfl, hi, ad, len, cap, ms, ht, hm, hrow, hlm, hbel⟩ := hrel
    obtain ⟨ix, htx⟩ := ht
    have HT := Lib.hid htx
    have HM := Lib.hid hm
    have HR := Lib.hid hrow
    have HB := Lib.hid hbel
    clear htx hm hrow hbel HT2 HM2 HB2
    obtain ⟨wo, hwo⟩ : ∃ wo : World, wo = wr := ⟨_, rfl⟩
    subst hwo
    have t1 := HT.out.c1
    have m2 := HM.out.box.c2
    by_cases hgo : i < 4 * most ∧ len < most ∧ ix < tlen
    · obtain ⟨hg1, hg2, hg3⟩ := hgo
      have hd1 : decide ((i : Int) < 4 * (most : Int)) = true := decide_eq_true (by omega)
      have hd2 : decide (len < most) = true := decide_eq_true hg2
      have hd3 : decide (ix < tlen) = true := decide_eq_true hg3
      go_wp2_with fail
      refine (ask_any wo kt tad tlen tcap ix HT.out km 1073741824 start ad len cap ms HM.out hkk (by omega) (rowD_ok HR.out)).mono ?_
      rintro e w3 ⟨b0, b1, b2, b3, b4, b5, recs, rd, rc, rfl, HP, HTX, HN, HRE3, HT3, HG3⟩
      have HM3 := Lib.hid (HM.out.grown HG3.out (by omega) (fun a ha e => by have := (HM.out.row a ha).1; omega) (fun m hm a ha e => by have := (HM.out.ins m hm a ha).1; omega))
      have HB3 : Hid (Below w.heap.size w w3) := HB.out.trans (below_grown HG3.out hktw HB.out.size)
      clear HT HM HB HG3 t1 m2
      go_upto_region 7 with fail
      obtain ⟨w4, hw4⟩ : ∃ w4, w4 = w3.alloc (.cells #[.int .i64 b0, .int .i64 b1, .int .i64 b2, .int .i64 b3, .bool b4, .int .i64 b5, .slice rd recs.length rc] 51) := ⟨_, rfl⟩
      have hb4 : Below w3.heap.size w3 w4 := by rw [hw4]; exact (Below.refl _ _).alloc (Nat.le_refl _) _
      obtain ⟨X, hX⟩ : ∃ X, X = w3.heap.size := ⟨_, rfl⟩
      have HX4 : Hid (BoxAt w4 X b0 b1 b2 b3 b4 b5 (.slice rd recs.length rc)) := by show BoxAt _ _ _ _ _ _ _ _ _; rw [hw4, hX]; exact boxAt_new w3 _ _ _ _ _ _ _
      have HM4 := Lib.hid (HM3.out.keep hb4)
      have HRE4 := Lib.hid (HRE3.out.keep hb4)
      have HB4 := Lib.hid (HB3.out.trans (hb4.mono HB3.out.size))
      obtain ⟨i4, ht4⟩ := HT3.out
      have HT4 : Hid (TapeAt w4 kt tad tlen tcap i4) := ht4.on hb4
      have hend := rowD_end HR.out hs0 hs1
      rw [← hw4, ← hX]
      clear hw4 hb4 hX ht4 HT3 HM3 HRE3 HB3
      have p0 := HX4.out.c0
      have p1 := HX4.out.c1
      have p2 := HX4.out.c2
      have p3 := HX4.out.c3
      have p4 := HX4.out.c4
      have p5 := HX4.out.c5
      have p6 := HX4.out.c6
      by_cases hmk : b5 = 0
      · have hd5 : (b5 == 0) = true := by rw [hmk]; rfl
        have hd5n : (b5 != 0) = false := by rw [hmk]; rfl
        clear hmk
        go_wp2_with fail
        refine (produce_any w4 km 1073741824 start ad len cap ms HM4.out (by omega) (rowD_ok HR.out) (by omega) b0 b1 b2 b3 b4 b5 recs rd rc HRE4.out HTX.out (by have := HN.out; omega) HP.out _ rfl).mono ?_
        rintro e w5 ⟨ad5, len5, cap5, ms5, rfl, hm5, hbs5, hg5⟩
        have hgr := produce_grows (cap := 1073741824) (b := ⟨b0, b1, b2, b3, b4, b5, recs⟩) HR.out HP.out
        have HR5 : Hid (RowD start (bats ms5)) := by show RowD _ _; rw [hbs5]; exact hgr.1
        have hl5 : len5 ≤ most := by
          have h1 := hgr.2
          rw [← hbs5] at h1
          unfold bats at h1
          rw [List.length_map, List.length_map] at h1
          have h2 := hm5.bats.row.length
          have h3 := HM4.out.bats.row.length
          omega
        have HM5 := Lib.hid hm5
        have HT5 : Hid (TapeT w5 kt tad tlen tcap) := ⟨i4, HT4.out.grow hg5 (fun k hk => by cases hk; exact hkk)⟩
        have HB5 : Hid (Below w.heap.size w w5) := HB4.out.trans (below_grown hg5 hkmw HB4.out.size)
        clear hm5 hbs5 hg5 hgr p0 p1 p2 p3 p4 p5 p6
        go_wp2
        go_roundw
        case rel => exact ⟨i + 1, by go_num, by omega, ad5, len5, cap5, ms5, HT5.out, HM5.out, HR5.out, hl5, HB5.out⟩
        case measure => simp [intOf]; omega
      · have hd5 : (b5 == 0) = false := beq_false_of_ne hmk
        have hd5n : (b5 != 0) = true := by unfold bne; rw [hd5]; rfl
        clear hmk
        go_wp2_with fail
        refine (mark_any w4 km 1073741824 start ad len cap ms HM4.out (by omega) (rowD_ok HR.out) (by omega) b1 b2 b5 HP.out _ rfl).mono ?_
        rintro e w5 ⟨ad5, len5, cap5, ms5, rfl, hm5, hbs5, hg5⟩
        have hgr := mark_grows (cap := 1073741824) (p := b1) (e := b2) (m := b5) HR.out HP.out
        have HR5 : Hid (RowD start (bats ms5)) := by show RowD _ _; rw [hbs5]; exact hgr.1
        have hl5 : len5 ≤ most := by
          have h1 := hgr.2
          rw [← hbs5] at h1
          unfold bats at h1
          rw [List.length_map, List.length_map] at h1
          have h2 := hm5.bats.row.length
          have h3 := HM4.out.bats.row.length
          omega
        have HM5 := Lib.hid hm5
        have HT5 : Hid (TapeT w5 kt tad tlen tcap) := ⟨i4, HT4.out.grow hg5 (fun k hk => by cases hk; exact hkk)⟩
        have HB5 : Hid (Below w.heap.size w w5) := HB4.out.trans (below_grown hg5 hkmw HB4.out.size)
        clear hm5 hbs5 hg5 hgr p0 p1 p2 p3 p4 p5 p6
        go_wp2
        go_roundw
        case rel => exact ⟨i + 1, by go_num, by omega, ad5, len5, cap5, ms5, HT5.out, HM5.out, HR5.out, hl5, HB5.out⟩
        case measure => simp [intOf]; omega
    · by_cases hg1 : i < 4 * most
      · have hd1 : decide ((i : Int) < 4 * (most : Int)) = true := decide_eq_true (by omega)
        by_cases hg2 : len < most
        · have hd2 : decide (len < most) = true := decide_eq_true hg2
          have hd3 : decide (ix < tlen) = false := decide_eq_false (fun h => hgo ⟨hg1, hg2, h⟩)
          go_wp2
          go_ret
          exact ⟨ad, len, cap, ms, rfl, HM.out.bats, HR.out, hlm, HB.out⟩
        · have hd2 : decide (len < most) = false := decide_eq_false hg2
          go_wp2
          go_ret
          exact ⟨ad, len, cap, ms, rfl, HM.out.bats, HR.out, hlm, HB.out⟩
      · have hd1 : decide ((i : Int) < 4 * (most : Int)) = false := decide_eq_false (by omega)
        go_wp2
        go_ret
        exact ⟨ad, len, cap, ms, rfl, HM.out.bats, HR.out, hlm, HB.out⟩
end Go.Proofs.Ytlcnpeodhfdhlaa

/-! The tape's first batch, where numbers of it are known. -/
namespace Go.Proofs.Ytlcnpeodhfdhlaa
open Go.RowKit
open Go.SeqMath
open Go.ProdMath
open Go.BatMath hiding AllB getD_lt take_all
set_option linter.unusedVariables false

theorem within_both (n hi : Int) (w : World) (hn : -9223372036854775808 ≤ n ∧ n ≤ 9223372036854775807) (hh : 0 ≤ hi ∧ hi ≤ 281474976710656) :
    Calls Try.prog 13 #[.int .i64 n, .int .i64 0, .int .i64 hi] w fun e w' => ∃ k : Nat, e = .returned (.int .i64 k) ∧ (k : Int) ≤ hi ∧ (0 ≤ n ∧ n ≤ hi → (k : Int) = n) ∧ w = w' := by
  by_cases h : 0 ≤ n ∧ n ≤ hi
  · refine (within_in n hi w h.1 h.2).mono ?_
    rintro e w' ⟨rfl, rfl⟩
    exact ⟨n.toNat, by rw [Int.toNat_of_nonneg h.1], by omega, fun _ => by omega, rfl⟩
  · refine (within_any n hi w hn hh).mono ?_
    rintro e w' ⟨k, rfl, hk, rfl⟩
    exact ⟨k, rfl, hk, fun h2 => absurd h2 h, rfl⟩
/-- The number at i. -/
def NumAt (w : World) (ad : Option Addr) (i : Nat) (z : Int) : Prop := ∀ b off, ad = some ⟨b, off, none⟩ → w.cell? ⟨b, off + i, none⟩ = some (.int .i64 z)
def DataTape (w : World) (kt : Nat) (ad : Option Addr) (len cap : Nat) (base : Int) (e : Ending) (w' : World) : Prop :=
  ∃ (b : Bat) (ad' : Option Addr) (cap' : Nat), e = .returned (.agg #[.int .i64 b.base, .int .i64 b.prod, .int .i64 b.epoch, .int .i64 b.seq, .bool b.txn, .int .i64 b.marker, .slice ad' b.recs.length cap']) ∧ b.base = base ∧ rightE b = 0 ∧ b.wf ∧ RecsAt w' ad' b.recs.length cap' b.recs ∧ (∀ a, ad' = some a → w.heap.size ≤ a.block) ∧ TapeT w' kt ad len cap ∧ w.grownBy w' (some kt) ∧ b.marker = 0 ∧ 0 ≤ b.prod
theorem data_tape {w W : World} {kt len cap kr kb n cap' : Nat} {ad ad' : Option Addr} {b : Bat} {base : Int} {x0 x1 x2 x3 : Int} {x4 : Bool} {x5 : Int} {xv : Value} {u0 u1 u2 u3 u4 u5 u6 : Value} (hpp : 0 ≤ b.prod) (hT : TB w kt ad len cap kr kb x0 x1 x2 x3 x4 x5 xv W) (hb : b.base = base) (ho : rightE b = 0) (hw : b.wf) (hn : b.recs.length = n) (hr : RecsAt W ad' n cap' b.recs) (hk : ∀ a, ad' = some a → kr < a.block) :
    b.marker = 0 → DataTape w kt ad len cap base (.returned (.agg #[.int .i64 b.base, .int .i64 b.prod, .int .i64 b.epoch, .int .i64 b.seq, .bool b.txn, .int .i64 b.marker, .slice ad' n cap'])) (((((((W.setCell ⟨kr, 0, none⟩ u0).setCell ⟨kr, 1, none⟩ u1).setCell ⟨kr, 2, none⟩ u2).setCell ⟨kr, 3, none⟩ u3).setCell ⟨kr, 4, none⟩ u4).setCell ⟨kr, 5, none⟩ u5).setCell ⟨kr, 6, none⟩ u6) := by
  intro hmk
  subst hn
  have hlr := hT.lr
  have hlt : kt < kr := by have := hT.ht; omega
  refine ⟨b, ad', cap', rfl, hb, ho, hw, ((((((hr.put hk).put hk).put hk).put hk).put hk).put hk).put hk, (fun a h => by have := hk a h; omega), ((((((hT.tape.other hlt _).other hlt _).other hlt _).other hlt _).other hlt _).other hlt _).other hlt _, ?_⟩
  refine ⟨?_, hmk, hpp⟩
  exact grow_new (grow_new (grow_new (grow_new (grow_new (grow_new (grow_new hT.grow hlr _) hlr _) hlr _) hlr _) hlr _) hlr _) hlr _
set_option maxRecDepth 100000 in
set_option maxHeartbeats 2000000 in
theorem tapeNext_step (w : World) (kt : Nat) (ad : Option Addr) (len cap i : Nat) (n : Int) (h : TapeAt w kt ad len cap i) (n0 : 1 ≤ n) (n1 : n ≤ 1073741824) (hi : i < len) :
    Calls Try.prog 36 #[.pointer (some ⟨kt, 0, none⟩), .int .i64 n] w fun e w' => ∃ v : Int, e = .returned (.int .i64 v) ∧ 0 ≤ v ∧ v < n ∧ (∀ z, NumAt w ad i z → 0 ≤ z → z ≤ 1073741824 → v = z.tmod n) ∧ TapeAt w' kt ad len cap (i + 1) ∧ w.grownBy w' (some kt) := by
  have H := Lib.hid h
  have hc0 := h.c0
  have hc1 := h.c1
  have hf1 := h.free 1
  have hle := h.le
  have hbig := h.big
  have hn1 : ¬ n < 1 := by omega
  have hnd : decide (n < 1) = false := by simp; omega
  obtain ⟨b, off, z, rfl, hne, hcell, hz⟩ := h.nums i hi
  have hblt : b < w.heap.size := World.block_lt_of_cell? _ _ hcell
  have hge : decide (len ≤ i) = false := by simp; omega
  have hge2 : decide ((len : Int) ≤ (i : Int)) = false := by simp; omega
  have HC := Lib.hid hcell
  clear h hcell
  go_enter Try.func36, Try.ntmps36
  go_wp2_with fail
  go_quiet (fail)
  go_upto_region 3 with fail
  go_cut [] from 5 (fun wx => Hid (TapeAt wx kt (some ⟨b, off, none⟩) len cap (i + 1)) ∧ Hid (w.grownBy wx (some kt)))
  case first =>
    go_wp2
    go_meet
    case rel => exact ⟨(H.out.drewN _).step hi _ (by omega), grow_set (grow_drewN (grow_refl _ _) _) 1 _⟩
  case rest =>
    obtain ⟨HT, HG⟩ := hcut
    clear hc0 hc1 hf1
    have hc0 := HT.out.c0
    have hc1 : wc.cell? ⟨kt, 1, none⟩ = some (.int .i64 ((i : Int) + 1)) := HT.out.c1
    have hcx : wc.cell? ⟨b, off + i, none⟩ = some (.int .i64 z) := (World.cell?_of_block (a := ⟨b, off + i, none⟩) (HG.out.block b hblt (fun e => by have := Option.some.inj e; omega))).trans HC.out
    have hw1 : IntKind.i64.wrap ((i : Int) + 1 - 1) = (i : Int) := by rw [IntKind.wrap_i64]; omega
    have hw2 : IntKind.i64.wrap (i : Int) = (i : Int) := by rw [IntKind.wrap_i64]; omega
    have hi2 : (i : Int) < (len : Int) := by omega
    have hnz : (n == 0) = false := by simp; omega
    have hnz2 : ¬ n = 0 := by omega
    go_wp2_with fail
    go_region_held3 (fun W => Below wc.heap.size wc W ∧ W.cell? ⟨kt, 0, none⟩ = some (.slice (some ⟨b, off, none⟩) len cap) ∧ W.cell? ⟨kt, 1, none⟩ = some (.int .i64 ((i : Int) + 1)) ∧ W.cell? ⟨b, off + i, none⟩ = some (.int .i64 z)) (first | exact ‹Below _ _ _ ∧ _› | exact ⟨(Below.refl _ _).drew, hc0, hc1, hcx⟩) (first | (go_at_call 13; refine (within_both z 1073741824 _ hz (by omega)).mono ?_; rintro e w' ⟨k, rfl, hk, hkz, rfl⟩))
    go_wp2
    go_ret
    have hv1 : (k : Int).tmod n < n := Int.tmod_lt_of_pos _ (by omega)
    have hv0 : 0 ≤ (k : Int).tmod n := Int.tmod_nonneg _ (by omega)
    refine ⟨_, rfl, hv0, hv1, fun z' hz' h0 h1 => ?_, HT.out.on (Below.refl _ _).drew, grow_below HG.out (Below.refl _ _).drew⟩
    have h2 := hz' b off rfl
    rw [HC.out] at h2
    have h3 : z = z' := by injection (Option.some.inj h2)
    rw [hkz ⟨by omega, by omega⟩, h3]
set_option maxRecDepth 100000 in
set_option maxHeartbeats 4000000 in
theorem tapeBatch_data (w : World) (kt : Nat) (ad : Option Addr) (len cap i : Nat) (base : Int) (h : TapeAt w kt ad len cap i) (h0 : 0 ≤ base) (h1 : base ≤ 1099511627776) (hi3 : i + 2 < len) (z0 z2 : Int) (hz0 : ∀ W, Below w.heap.size w W ∨ w.grownBy W (some kt) → NumAt W ad i z0) (hz2 : ∀ W, Below w.heap.size w W ∨ w.grownBy W (some kt) → NumAt W ad (i + 2) z2) (hr0 : 0 ≤ z0 ∧ z0 ≤ 1073741824 ∧ 1 ≤ z0.tmod 4) (hr2 : 0 ≤ z2 ∧ z2 ≤ 1073741824 ∧ z2.tmod 4 ≠ 0) :
    Calls Try.prog 35 #[.pointer (some ⟨kt, 0, none⟩), .int .i64 base] w (DataTape w kt ad len cap base) := by
  have HZ0 := Lib.hid hz0
  have HZ2 := Lib.hid hz2
  clear hz0 hz2
  have hkt := h.lt
  have HR0 := Lib.hid (boxAt_new w 0 0 0 0 false 0 (.slice none 0 0))
  have H := Lib.hid (h.on ((Below.refl w.heap.size w).alloc (Nat.le_refl _) (.cells #[.int .i64 0, .int .i64 0, .int .i64 0, .int .i64 0, .bool false, .int .i64 0, .slice none 0 0] 51)))
  have HG0 := Lib.hid (grow_alloc (grow_refl w (some kt)) (.cells #[.int .i64 0, .int .i64 0, .int .i64 0, .int .i64 0, .bool false, .int .i64 0, .slice none 0 0] 51))
  clear h
  go_enter Try.func35, Try.ntmps35
  go_wp2_with fail
  refine (tapeNext_step _ kt ad len cap i 4 H.out (by omega) (by omega) (by omega)).mono ?_
  rintro e w1 ⟨v, rfl, v0, v1, hvz, ht1, hg1⟩
  have hv1 := hvz z0 (HZ0.out _ (.inr HG0.out)) hr0.1 hr0.2.1
  obtain ⟨kb, hkb⟩ : ∃ kb, kb = w1.heap.size := ⟨_, rfl⟩
  obtain ⟨kr, hkr⟩ : ∃ kr, kr = w.heap.size := ⟨_, rfl⟩
  have hkk : kr < kb := by rw [hkb, hkr]; exact Nat.lt_of_lt_of_le HR0.out.lt hg1.size
  obtain ⟨p, hp⟩ : ∃ p, p = v - 1 := ⟨_, rfl⟩
  obtain ⟨W2, hW2⟩ : ∃ W2, W2 = w1.alloc (.cells #[.int .i64 base, .int .i64 p, .int .i64 0, .int .i64 0, .bool false, .int .i64 0, .slice none 0 0] 51) := ⟨_, rfl⟩
  have HT2 : Hid (TB w kt ad len cap kr kb base p 0 0 false 0 (.slice none 0 0) W2) := by
    show TB _ _ _ _ _ _ _ _ _ _ _ _ _ _ _
    have hbb : Below w1.heap.size w1 W2 := by rw [hW2]; exact (Below.refl _ _).alloc (Nat.le_refl _) _
    refine ⟨by rw [hW2, hkb]; exact boxAt_new w1 _ _ _ _ _ _ _, ?_, by omega, by omega, by omega, hkt, ⟨i + 1, ht1.on hbb⟩, grow_below (grow_trans HG0.out hg1) hbb⟩
    have := (HR0.out.tape hg1 (by omega)).on hbb
    rw [hkr]; exact this
  have HTE2 : Hid (TapeAt W2 kt ad len cap (i + 1)) := by show TapeAt _ _ _ _ _ _; rw [hW2]; exact ht1.on ((Below.refl _ _).alloc (Nat.le_refl _) _)
  have hpv : v - 1 = p := hp.symm
  have HW2 := Lib.hid hW2
  have p0 : -1 ≤ p := by omega
  have p2 : p ≤ 2 := by omega
  have HKB := Lib.hid hkb
  have HKR := Lib.hid hkr
  clear hkb hkr hW2 hp ht1 hg1
  have hneg : ¬ p < 0 := by omega
  have hpos : 0 ≤ p := by omega
  clear p0 hv1 hvz
  have hneg2 := hneg
  clear hneg2
  go_upto_if 13 with (fail)
  rw [← HW2.out, ← HKB.out, ← HKR.out]
  go_wp2_with fail
  refine (tapeNext_step W2 kt ad len cap (i + 1) 3 HTE2.out (by omega) (by omega) (by omega)).mono ?_
  rintro e w3 ⟨ve, rfl, ve0, ve1, _, ht1, hg1⟩
  have HN1 := Lib.hid (HT2.out.next hg1 ⟨i + 1 + 1, ht1⟩)
  have HTE3 := Lib.hid ht1
  clear ht1 hg1 HTE2
  have x2 := HN1.out.box.c2
  have f2 := HN1.out.box.free 2
  go_upto_region 6 with fail
  obtain ⟨W4, hW4⟩ : ∃ W, W = w3.setCell ⟨kb, 2, none⟩ (.int .i64 ve) := ⟨_, rfl⟩
  have HSW4 := Lib.hid (show TB w kt ad len cap kr kb base p ve 0 false 0 (.slice none 0 0) W4 by rw [hW4]; exact HN1.out.s2 ve)
  rw [← hW4]
  have HTE4 : Hid (TapeAt W4 kt ad len cap (i + 1 + 1)) := by show TapeAt _ _ _ _ _ _; rw [hW4]; exact HTE3.out.grow (grow_one w3 kb 2 _) (fun k hk => by cases hk; have := HT2.out.lo; have := HT2.out.ht; omega)
  clear x2 f2 HTE3
  clear hW4
  go_wp2_with fail
  refine (tapeNext_step W4 kt ad len cap (i + 1 + 1) 4 HTE4.out (by omega) (by omega) (by omega)).mono ?_
  rintro e w5 ⟨vq, rfl, vq0, vq1, hvq, ht2, hg2⟩
  have HN2 := Lib.hid (HSW4.out.next hg2 ⟨i + 1 + 1 + 1, ht2⟩)
  have hq : ¬ vq = 0 := by rw [hvq z2 (HZ2.out _ (.inr HSW4.out.grow)) hr2.1 hr2.2.1]; exact hr2.2.2
  clear ht2 hg2 hvq HTE4
  have hqb : (vq == 0) = false := by simpa using hq
  obtain ⟨j3, hj3⟩ := HN2.out.tape
  go_wp2_with fail
  refine (tapeNext_any w5 kt ad len cap j3 6 hj3 (by omega) (by omega)).mono ?_
  rintro e w6 ⟨vs, m3, rfl, vs0, vs1, ht3, hg3⟩
  have HN3 := Lib.hid (HN2.out.next hg3 ⟨m3, ht3⟩)
  clear hj3 ht3 hg3
  obtain ⟨j4, hj4⟩ := HN3.out.tape
  go_wp2_with fail
  refine (tapeNext_any w6 kt ad len cap j4 2 hj4 (by omega) (by omega)).mono ?_
  rintro e w7 ⟨vt, m4, rfl, vt0, vt1, ht4, hg4⟩
  have HN4 := Lib.hid (HN3.out.next hg4 ⟨m4, ht4⟩)
  clear hj4 ht4 hg4
  obtain ⟨tb, htb⟩ : ∃ tb, (vt == 0) = tb := ⟨_, rfl⟩
  obtain ⟨j5, hj5⟩ := HN4.out.tape
  go_wp2_with fail
  refine (tapeRecs_any w7 kt ad len cap j5 4 hj5 (by omega) (by omega)).mono ?_
  rintro e w8 ⟨l, v', m5, rfl, hown, hl1, hl4, hsz, ht5, hg5⟩
  obtain ⟨ad3, c3, hv3, hrec, hblk⟩ := hown.at
  obtain ⟨nl, hnl⟩ : ∃ nl, l.length = nl := ⟨_, rfl⟩
  rw [hnl] at hv3 hrec hl1 hl4
  subst hv3
  have HN5 := Lib.hid (HN4.out.next hg5 ⟨m5, ht5⟩)
  have HBLK : Hid (∀ a, ad3 = some a → kr < a.block) := fun a h => by have h1 := hblk a h; have h2 := HN4.out.res.lt; omega
  have HBLB : Hid (∀ a, ad3 = some a → kb < a.block) := fun a h => by have h1 := hblk a h; have h2 := HN4.out.box.lt; omega
  have HREC := Lib.hid hrec
  have HNL := Lib.hid hnl
  have HSZ := Lib.hid hsz
  clear hown hrec hblk hnl hsz hj5 ht5 hg5
  have x3 := HN5.out.box.c3
  have f3 := HN5.out.box.free 3
  have x4 := HN5.out.box.c4
  have f4 := HN5.out.box.free 4
  have x6 := HN5.out.box.c6
  have f6 := HN5.out.box.free 6
  go_upto_region 10 with fail
  obtain ⟨W9, hW9⟩ : ∃ W, W = ((w8.setCell ⟨kb, 3, none⟩ (.int .i64 vs)).setCell ⟨kb, 4, none⟩ (.bool tb)).setCell ⟨kb, 6, none⟩ (.slice ad3 nl c3) := ⟨_, rfl⟩
  have HSW9 := Lib.hid (show TB w kt ad len cap kr kb base p ve vs tb 0 (.slice ad3 nl c3) W9 by rw [hW9]; exact ((HN5.out.s3 vs).s4 tb).s6 _)
  rw [← hW9]
  have HREC9 : Hid (RecsAt W9 ad3 nl c3 l) := by show RecsAt _ _ _ _ _; rw [hW9]; exact ((HREC.out.put HBLB.out).put HBLB.out).put HBLB.out
  clear hW9
  clear x3 f3 x4 f4 x6 f6
  obtain ⟨j6, hj6⟩ := HSW9.out.tape
  go_wp2_with fail
  refine (tapeNext_any W9 kt ad len cap j6 9 hj6 (by omega) (by omega)).mono ?_
  rintro e w10 ⟨vz, m6, rfl, vz0, vz1, ht6, hg6⟩
  have HGR := Lib.hid hg6
  have HN6 := Lib.hid (HSW9.out.next hg6 ⟨m6, ht6⟩)
  clear hj6 ht6 hg6
  have HREC10 := Lib.hid (HREC9.out.tape (w' := w10) (kt := kt) HGR.out (fun x hx => by have := HBLK.out x hx; have := HT2.out.lr; omega))
  by_cases hz : vz = 0
  · subst hz
    obtain ⟨j7, hj7⟩ := HN6.out.tape
    go_wp2_with fail
    refine (tapeNext_any w10 kt ad len cap j7 3 hj7 (by omega) (by omega)).mono ?_
    rintro e w11 ⟨vy, m7, rfl, vy0, vy1, ht7, hg7⟩
    have HGR7 := Lib.hid hg7
    have HN7 := Lib.hid (HN6.out.next hg7 ⟨m7, ht7⟩)
    clear hj7 ht7 hg7
    have HREC11 := Lib.hid (HREC10.out.tape (w' := w11) (kt := kt) HGR7.out (fun x hx => by have := HBLK.out x hx; have := HT2.out.lr; omega))
    have x3 := HN7.out.box.c3
    have f3 := HN7.out.box.free 3
    go_upto_region 12 with fail
    obtain ⟨W12, hW12⟩ : ∃ W, W = w11.setCell ⟨kb, 3, none⟩ (.int .i64 (2147483647 - vy)) := ⟨_, rfl⟩
    have HSW12 := Lib.hid (show TB w kt ad len cap kr kb base p ve (2147483647 - vy) tb 0 (.slice ad3 nl c3) W12 by rw [hW12]; exact HN7.out.s3 (2147483647 - vy))
    rw [← hW12]
    clear x3 f3
    have HREC12 : Hid (RecsAt W12 ad3 nl c3 l) := by show RecsAt _ _ _ _ _; rw [hW12]; exact HREC11.out.put HBLB.out
    have HOK := Lib.hid (right_data (p := p) (e := ve) (s := 2147483647 - vy) (t := tb) h0 h1 hpos ve0 (by omega) (by omega) (by omega) (by rw [HNL.out]; exact hl1) (by rw [HNL.out]; exact hl4) HSZ.out)
    clear hW12
    have x0 := HSW12.out.box.c0
    have x1 := HSW12.out.box.c1
    have x2 := HSW12.out.box.c2
    have x3 := HSW12.out.box.c3
    have x4 := HSW12.out.box.c4
    have x5 := HSW12.out.box.c5
    have x6 := HSW12.out.box.c6
    have r0 := HSW12.out.res.c0
    have q0 := HSW12.out.res.free 0
    have r1 := HSW12.out.res.c1
    have q1 := HSW12.out.res.free 1
    have r2 := HSW12.out.res.c2
    have q2 := HSW12.out.res.free 2
    have r3 := HSW12.out.res.c3
    have q3 := HSW12.out.res.free 3
    have r4 := HSW12.out.res.c4
    have q4 := HSW12.out.res.free 4
    have r5 := HSW12.out.res.c5
    have q5 := HSW12.out.res.free 5
    have r6 := HSW12.out.res.c6
    have q6 := HSW12.out.res.free 6
    go_wp2
    exact bodyPost_ret (resultsTape (((((((HSW12.out.res.s0 (base)).s1 (p)).s2 (ve)).s3 (2147483647 - vy)).s4 (tb)).s5 (0)).s6 (.slice ad3 nl c3)) rfl) rfl (data_tape hpos HSW12.out rfl HOK.out (bat_wf ⟨by omega, by omega⟩ ⟨by omega, by omega⟩ ⟨by omega, by omega⟩ ⟨by omega, by omega⟩ ⟨by omega, by omega⟩) HNL.out HREC12.out HBLK.out rfl)
  · have hzb : (vz == 0) = false := by simpa using hz
    have HOK := Lib.hid (right_data (p := p) (e := ve) (s := vs) (t := tb) h0 h1 hpos ve0 (by omega) vs0 (by omega) (by rw [HNL.out]; exact hl1) (by rw [HNL.out]; exact hl4) HSZ.out)
    have x0 := HN6.out.box.c0
    have x1 := HN6.out.box.c1
    have x2 := HN6.out.box.c2
    have x3 := HN6.out.box.c3
    have x4 := HN6.out.box.c4
    have x5 := HN6.out.box.c5
    have x6 := HN6.out.box.c6
    have r0 := HN6.out.res.c0
    have q0 := HN6.out.res.free 0
    have r1 := HN6.out.res.c1
    have q1 := HN6.out.res.free 1
    have r2 := HN6.out.res.c2
    have q2 := HN6.out.res.free 2
    have r3 := HN6.out.res.c3
    have q3 := HN6.out.res.free 3
    have r4 := HN6.out.res.c4
    have q4 := HN6.out.res.free 4
    have r5 := HN6.out.res.c5
    have q5 := HN6.out.res.free 5
    have r6 := HN6.out.res.c6
    have q6 := HN6.out.res.free 6
    go_wp2
    exact bodyPost_ret (resultsTape (((((((HN6.out.res.s0 (base)).s1 (p)).s2 (ve)).s3 (vs)).s4 (tb)).s5 (0)).s6 (.slice ad3 nl c3)) rfl) rfl (data_tape hpos HN6.out rfl HOK.out (bat_wf ⟨by omega, by omega⟩ ⟨by omega, by omega⟩ ⟨by omega, by omega⟩ ⟨by omega, by omega⟩ ⟨by omega, by omega⟩) HNL.out HREC10.out HBLK.out rfl)
end Go.Proofs.Ytlcnpeodhfdhlaa

/-! A book's first batch is taken, where the tape's numbers are known. -/
namespace Go.Proofs.Ytlcnpeodhfdhlaa
open Go.RowKit
open Go.SeqMath
open Go.ProdMath
open Go.BatMath hiding AllB getD_lt take_all
set_option linter.unusedVariables false

def GivesAskD (w : World) (kt : Nat) (ad : Option Addr) (len cap : Nat) (e : Ending) (w' : World) : Prop :=
  ∃ b0 b1 b2 b3 b4 b5 recs rd rc, e = .returned (.agg #[.int .i64 b0, .int .i64 b1, .int .i64 b2, .int .i64 b3, .bool b4, .int .i64 b5, .slice rd (List.length recs) rc]) ∧ Hid (b1 ≤ 9223372036854775807) ∧ Hid (TextsOk recs) ∧ Hid (recs.length ≤ 16) ∧ Hid (RecsAt w' rd recs.length rc recs) ∧ Hid (TapeT w' kt ad len cap) ∧ Hid (w.grownBy w' (some kt)) ∧ Hid (rightE ⟨b0, b1, b2, b3, b4, b5, recs⟩ = 0 ∧ b5 = 0 ∧ 0 ≤ b1)
theorem gives_askd {w w1 W : World} {kt len cap Z : Nat} {ad : Option Addr} {b0 b1 b2 b3 : Int} {b4 : Bool} {b5 : Int} {recs : List Rc} {rd : Option Addr} {rc : Nat} {u0 u1 u2 u3 u4 u5 u6 : Value} (hdd : rightE ⟨b0, b1, b2, b3, b4, b5, recs⟩ = 0 ∧ b5 = 0 ∧ 0 ≤ b1) (hw : w.grownBy W (some kt)) (hZ : w.heap.size ≤ Z) (hk : kt < Z) (ht : TapeT W kt ad len cap) (hp : b1 ≤ 9223372036854775807) (hx : TextsOk recs) (hn : recs.length ≤ 16) (hr : RecsAt W rd recs.length rc recs) (hb : ∀ a, rd = some a → Z < a.block) :
    GivesAskD w kt ad len cap (.returned (.agg #[.int .i64 b0, .int .i64 b1, .int .i64 b2, .int .i64 b3, .bool b4, .int .i64 b5, .slice rd recs.length rc])) (((((((W.setCell ⟨Z, 0, none⟩ u0).setCell ⟨Z, 1, none⟩ u1).setCell ⟨Z, 2, none⟩ u2).setCell ⟨Z, 3, none⟩ u3).setCell ⟨Z, 4, none⟩ u4).setCell ⟨Z, 5, none⟩ u5).setCell ⟨Z, 6, none⟩ u6) :=
  ⟨b0, b1, b2, b3, b4, b5, recs, rd, rc, rfl, hp, hx, hn, ((((((hr.put hb).put hb).put hb).put hb).put hb).put hb).put hb, ((((((ht.other hk _).other hk _).other hk _).other hk _).other hk _).other hk _).other hk _, grow_new (grow_new (grow_new (grow_new (grow_new (grow_new (grow_new hw hZ _) hZ _) hZ _) hZ _) hZ _) hZ _) hZ _, hdd⟩
set_option maxRecDepth 100000 in
set_option maxHeartbeats 8000000 in
theorem ask_data (w : World) (kt : Nat) (ad : Option Addr) (len cap i : Nat) (ht : TapeAt w kt ad len cap i) (km : Nat) (mc start : Int) (mad : Option Addr) (mlen mcap : Nat) (ms : List BM) (hm : MOk w km mc start mad mlen mcap ms) (hkm : kt < km) (hL : mlen ≤ 99999) (hok : RowOk (bats ms)) (hms : ms = []) (hi3 : i + 2 < len) (z0 z2 : Int) (hz0 : ∀ W, Below w.heap.size w W ∨ w.grownBy W (some kt) → NumAt W ad i z0) (hz2 : ∀ W, Below w.heap.size w W ∨ w.grownBy W (some kt) → NumAt W ad (i + 2) z2) (hr0 : 0 ≤ z0 ∧ z0 ≤ 1073741824 ∧ 1 ≤ z0.tmod 4) (hr2 : 0 ≤ z2 ∧ z2 ≤ 1073741824 ∧ z2.tmod 4 ≠ 0) :
    Calls Try.prog 19 #[.pointer (some ⟨kt, 0, none⟩), .pointer (some ⟨km, 0, none⟩)] w (GivesAskD w kt ad len cap) := by
  have HMS := Lib.hid hms
  have HZA := Lib.hid hz0
  have HZB := Lib.hid hz2
  clear hms hz0 hz2
  have hktw := ht.lt
  obtain ⟨W0, hW0⟩ : ∃ W0, W0 = w.alloc (.cells #[.int .i64 0, .int .i64 0, .int .i64 0, .int .i64 0, .bool false, .int .i64 0, .slice none 0 0] 51) := ⟨_, rfl⟩
  have hb0 : Below w.heap.size w W0 := by rw [hW0]; exact (Below.refl _ _).alloc (Nat.le_refl _) _
  have HZ0 : Hid (BoxAt W0 w.heap.size 0 0 0 0 false 0 (.slice none 0 0)) := by show BoxAt _ _ _ _ _ _ _ _ _; rw [hW0]; exact boxAt_new w _ _ _ _ _ _ _
  have HT0 := Lib.hid (ht.on hb0)
  have HM0 := Lib.hid (hm.keep hb0)
  have HG0 : Hid (w.grownBy W0 (some kt)) := grow_below (grow_refl w _) hb0
  have hs0 : w.heap.size + 1 ≤ W0.heap.size := HZ0.out.lt
  have HOK := Lib.hid hok
  have HW0 := Lib.hid hW0
  clear ht hm hb0 hW0 hok
  obtain ⟨Z, hZ⟩ : ∃ Z, Z = w.heap.size := ⟨_, rfl⟩
  have hZw : w.heap.size ≤ Z := by omega
  have hkZ : kt < Z := by omega
  have hZ0 : Z + 1 ≤ W0.heap.size := by omega
  rw [← hZ] at HZ0
  go_enter Try.func19, Try.ntmps19
  go_upto_region 1 with fail
  rw [← HW0.out, ← hZ]
  clear HW0 hZ hs0
  go_wp2_with fail
  refine (tapeBatch_data W0 kt ad len cap i 0 HT0.out (by omega) (by omega) hi3 z0 z2 (fun W hW => HZA.out W (.inr (hW.elim (grow_below HG0.out) (grow_trans HG0.out)))) (fun W hW => HZB.out W (.inr (hW.elim (grow_below HG0.out) (grow_trans HG0.out)))) hr0 hr2).mono ?_
  rintro e w1 ⟨b, rd, rc, rfl, hb00, hbr, hbw, hre, hrb, ht1, hg1, hmk0, hpp0⟩
  have HDD := Lib.hid (And.intro hbr (And.intro hmk0 hpp0))
  clear hmk0
  have hbo := ok_of hbr
  have hb1 := hbw.prod.2
  have h16 := hbo.recs
  have HTX := Lib.hid (texts_of hbo.texts)
  have HRE1 := Lib.hid hre
  have HRB : Hid (∀ a, rd = some a → Z < a.block ∧ a.block ≠ kt) := fun a ha => by have := hrb a ha; exact ⟨by omega, by omega⟩
  have HT1 := Lib.hid ht1
  have HG1 := Lib.hid (grow_trans HG0.out hg1)
  have HM1 := Lib.hid (HM0.out.grown hg1 (by omega) (fun a ha e => by have := (HM0.out.row a ha).1; omega) (fun m hm a ha e => by have := (HM0.out.ins m hm a ha).1; omega))
  have HZ1 := Lib.hid (HZ0.out.tape hg1 (by omega))
  have hs1 : Z + 1 ≤ w1.heap.size := Nat.le_trans hZ0 hg1.size
  clear hb00 hbr hbw hbo hre hrb ht1 hg1 HT0 HG0 HM0 HZ0
  obtain ⟨b0, b1, b2, b3, b4, b5, recs⟩ := b
  simp only at hb1 h16 HTX HRE1 HDD hpp0
  simp only
  go_upto_region 2 with fail
  obtain ⟨w2, hw2⟩ : ∃ w2, w2 = w1.alloc (.cells #[.int .i64 b0, .int .i64 b1, .int .i64 b2, .int .i64 b3, .bool b4, .int .i64 b5, .slice rd recs.length rc] 51) := ⟨_, rfl⟩
  have hb2 : Below w1.heap.size w1 w2 := by rw [hw2]; exact (Below.refl _ _).alloc (Nat.le_refl _) _
  obtain ⟨X, hX⟩ : ∃ X, X = w1.heap.size := ⟨_, rfl⟩
  have HX2 : Hid (BoxAt w2 X b0 b1 b2 b3 b4 b5 (.slice rd recs.length rc)) := by show BoxAt _ _ _ _ _ _ _ _ _; rw [hw2, hX]; exact boxAt_new w1 _ _ _ _ _ _ _
  have hZX : Z < X := by omega
  have hX1 : w1.heap.size ≤ X := by omega
  obtain ⟨i1, ht1⟩ := HT1.out
  have HT2 : Hid (TapeAt w2 kt ad len cap i1) := ht1.on hb2
  have HZ2 := Lib.hid (HZ1.out.on hb2)
  have HM2 := Lib.hid (HM1.out.keep hb2)
  have HG2 : Hid (w1.grownBy w2 (some kt)) := grow_below (grow_refl w1 _) hb2
  rw [← hw2, ← hX]
  clear hw2 hb2 hX HT1 HZ1 HM1 ht1
  have x1 := HX2.out.c1
  have hp : ¬ b1 < 0 := by omega
  have hd : decide (b1 < 0) = false := decide_eq_false hp
  clear hp
  go_wp2_with fail
  refine (tapeNext_any w2 kt ad len cap i1 8 HT2.out (by omega) (by omega)).mono ?_
  rintro e w3 ⟨z, i3, rfl, hz0, hz1, ht3, hg3⟩
  have HT3 := Lib.hid ht3
  have HX3 := Lib.hid (HX2.out.tape hg3 (by omega))
  have HZ3 := Lib.hid (HZ2.out.tape hg3 (by omega))
  have HG3 := Lib.hid (grow_trans HG2.out hg3)
  have HM3 := Lib.hid (HM2.out.grown hg3 (by omega) (fun a ha e => by have := (HM2.out.row a ha).1; omega) (fun m hm a ha e => by have := (HM2.out.ins m hm a ha).1; omega))
  clear ht3 hg3 HT2 HX2 HZ2 HG2 HM2 x1
  by_cases hz : z = 0
  · have hd2 : (z == 0) = true := by rw [hz]; rfl
    have HRE3 := Lib.hid (HRE1.out.tape HG3.out (fun a ha => (HRB.out a ha).2))
    clear hz hz0 hz1
    have x0 := HX3.out.c0
    have x1 := HX3.out.c1
    have x2 := HX3.out.c2
    have x3 := HX3.out.c3
    have x4 := HX3.out.c4
    have x5 := HX3.out.c5
    have x6 := HX3.out.c6
    have z0 := HZ3.out.c0
    have zf0 := HZ3.out.free 0
    have z1 := HZ3.out.c1
    have zf1 := HZ3.out.free 1
    have z2 := HZ3.out.c2
    have zf2 := HZ3.out.free 2
    have z3 := HZ3.out.c3
    have zf3 := HZ3.out.free 3
    have z4 := HZ3.out.c4
    have zf4 := HZ3.out.free 4
    have z5 := HZ3.out.c5
    have zf5 := HZ3.out.free 5
    have z6 := HZ3.out.c6
    have zf6 := HZ3.out.free 6
    go_wp2
    exact bodyPost_ret (resultsAsk (((((((HZ3.out.s0 b0).s1 b1).s2 b2).s3 b3).s4 b4).s5 b5).s6 (.slice rd recs.length rc)) rfl) rfl (gives_askd (w1 := w1) HDD.out (grow_trans HG1.out HG3.out) hZw hkZ ⟨i3, HT3.out⟩ hb1 HTX.out h16 HRE3.out (fun a ha => (HRB.out a ha).1))
  · have hd2 : (z == 0) = false := beq_false_of_ne hz
    clear hz hz0 hz1
    go_wp2_with fail
    refine (producers_any w3 km mc start mad mlen mcap ms HM3.out hL HOK.out).mono ?_
    rintro e w4 ⟨pad, plen, pcap, ps, rfl, hpd, hps, hpa, hpi, hb4⟩
    have hXlt := HX3.out.lt
    have HAR4 : Hid (AR w1 kt ad len cap Z X pad plen pcap ps w4) := ⟨⟨i3, HT3.out.on hb4⟩, HZ3.out.on hb4, hpd, grow_below HG3.out hb4, fun a ha => by have := hpa a ha; omega, fun m hm a ha => by have := hpi m hm a ha; omega, hkZ, hZX, hX1⟩
    have HX4 := Lib.hid (HX3.out.on hb4)
    have hps0 : ps = [] := by
      rw [HMS.out] at hps
      exact List.map_eq_nil_iff.1 hps
    have hpl0 : plen = 0 := by
      have := hpd.row.length
      rw [hps0] at this
      exact this.symm
    subst hpl0
    clear hps0
    clear hpd hps hpa hpi hb4 hXlt HT3 HX3 HZ3 HG3 HM3
    go_wp2
    go_loopw [24] (fun v24 wr => v24 = .int .i64 0 ∧ AR w1 kt ad len cap Z X pad 0 pcap ps wr ∧ BoxAt wr X b0 b1 b2 b3 b4 b5 (.slice rd recs.length rc)) (fun _ _ => 0)
    case atStart => exact ⟨rfl, HAR4.out, HX4.out⟩
    case round =>
      obtain ⟨rfl, har, hxx⟩ := hrel
      have HAR := Lib.hid har
      have HX := Lib.hid hxx
      clear har hxx HAR4 HX4
      obtain ⟨wo, hwo⟩ : ∃ wo : World, wo = wr := ⟨_, rfl⟩
      subst hwo
      have hd3 := True.intro
      have HRE9 := Lib.hid (HRE1.out.tape HAR.out.gr (fun a ha => (HRB.out a ha).2))
      have HT9 := Lib.hid HAR.out.tape
      have HG9 := Lib.hid HAR.out.gr
      have HZ9 := Lib.hid HAR.out.res
      have x0 := HX.out.c0
      have x1 := HX.out.c1
      have x2 := HX.out.c2
      have x3 := HX.out.c3
      have x4 := HX.out.c4
      have x5 := HX.out.c5
      have x6 := HX.out.c6
      have z0 := HZ9.out.c0
      have zf0 := HZ9.out.free 0
      have z1 := HZ9.out.c1
      have zf1 := HZ9.out.free 1
      have z2 := HZ9.out.c2
      have zf2 := HZ9.out.free 2
      have z3 := HZ9.out.c3
      have zf3 := HZ9.out.free 3
      have z4 := HZ9.out.c4
      have zf4 := HZ9.out.free 4
      have z5 := HZ9.out.c5
      have zf5 := HZ9.out.free 5
      have z6 := HZ9.out.c6
      have zf6 := HZ9.out.free 6
      go_wp2
      exact bodyPost_ret (resultsAsk (((((((HZ9.out.s0 b0).s1 b1).s2 b2).s3 b3).s4 b4).s5 b5).s6 (.slice rd recs.length rc)) rfl) rfl (gives_askd (w1 := w1) HDD.out (grow_trans HG1.out HG9.out) hZw hkZ HT9.out hb1 HTX.out h16 HRE9.out (fun a ha => (HRB.out a ha).1))
theorem nums_at {w : World} {ad : Option Addr} {len : Nat} {zs : List Int} (h : Nums w ad len zs) {q : Nat} (hq : q < len) : NumAt w ad q (zs.getD q 0) := fun b off e => by
  rcases h.cells with h0 | ⟨b', off', e', hc⟩
  · omega
  · rw [e] at e'
    cases e'
    exact hc q hq
theorem put_ge (cap start : Int) (bs : List Bat) (b : Bat) : bs.length ≤ (putD cap start bs b).2.length := by
  unfold putD
  split
  · exact Nat.le_refl _
  · split
    · exact Nat.le_refl _
    · split
      · exact Nat.le_refl _
      · split
        · exact Nat.le_refl _
        · show bs.length ≤ (bs ++ [b]).length
          simp
theorem produce_ge (cap start : Int) (bs : List Bat) (b : Bat) : bs.length ≤ (produceD cap start bs b).2.length := by
  unfold produceD
  split
  · exact Nat.le_refl _
  · split
    · exact Nat.le_refl _
    · exact put_ge _ _ _ _
theorem mark_ge (cap start : Int) (bs : List Bat) (p e m : Int) : bs.length ≤ (markD cap start bs p e m).2.length := by
  unfold markD
  split
  · exact Nat.le_refl _
  · exact put_ge _ _ _ _
/-- The first batch of all is taken. -/
theorem produce_first {cap start : Int} {b : Bat} (hc : 2404 ≤ cap) (h0 : 0 ≤ start) (h1 : start + 16 ≤ 1099511627776) (hr : rightE b = 0) (hm : b.marker = 0) (hp : 0 ≤ b.prod) : (produceD cap start [] b).2.length = 1 := by
  have hra : rightE (b.at start) = 0 := right_at hr h0 (by omega)
  have hn : countD b ≤ 16 := by
    have := (ok_of hr).recs
    unfold countD
    rw [if_neg (by rw [hm]; decide)]
    omega
  have hsz := size_bd (b.at start)
  have ht : tcheckD (foldP [] []) (b.at start) = (-1, 0) := by
    unfold tcheckD
    rw [if_neg (by rw [hra]; decide), if_neg (by show ¬ b.prod < 0; omega)]
    unfold checkD
    rw [if_neg (by show ¬ b.marker ≠ 0; rw [hm]; decide), if_pos]
    rfl
  unfold produceD
  rw [end_nil, if_neg (by rw [hra]; decide), if_neg (by rw [hm]; decide)]
  unfold putD
  rw [ht, if_neg (by decide), if_neg (by decide), if_neg (by show ¬ cap < 0 + sizeB (b.at start); omega), if_neg (by show ¬ 1099511627776 < start + countD b; omega)]
  rfl
set_option maxRecDepth 100000 in
set_option maxHeartbeats 8000000 in
theorem row_some (w : World) (tad : Option Addr) (tlen tcap : Nat) (zs : List Int) (h : Nums w tad tlen zs) (hL : tlen ≤ 140737488355328) (start : Int) (hs0 : 0 ≤ start) (hs1 : start + 16 ≤ 1099511627776) (most : Nat) (hmost : most ≤ 10000) (hm1 : 1 ≤ most) (hi3 : 2 < tlen) (hr0 : 0 ≤ zs.getD 0 0 ∧ zs.getD 0 0 ≤ 1073741824 ∧ 1 ≤ (zs.getD 0 0).tmod 4) (hr2 : 0 ≤ zs.getD 2 0 ∧ zs.getD 2 0 ≤ 1073741824 ∧ (zs.getD 2 0).tmod 4 ≠ 0) :
    Calls Try.prog 7 #[.slice tad tlen tcap, .int .i64 start, .int .i64 (most : Int)] w fun e w' => ∃ ad len cap ms, e = .returned (.slice ad len cap) ∧ Hid (BatsAt w' ad len cap ms) ∧ Hid (RowD start (bats ms)) ∧ len ≤ most ∧ Hid (Below w.heap.size w w') ∧ 1 ≤ len := by
  have HNU := Lib.hid h
  obtain ⟨W1, hW1⟩ : ∃ W1, W1 = w.alloc (.cells #[.slice tad tlen tcap, .int .i64 0] 45) := ⟨_, rfl⟩
  obtain ⟨W2, hW2⟩ : ∃ W2, W2 = W1.alloc (.cells #[.int .i64 1073741824, .int .i64 start, .slice none 0 0] 48) := ⟨_, rfl⟩
  have hb1 : Below w.heap.size w W1 := by rw [hW1]; exact (Below.refl _ _).alloc (Nat.le_refl _) _
  have hb2 : Below W1.heap.size W1 W2 := by rw [hW2]; exact (Below.refl _ _).alloc (Nat.le_refl _) _
  have ht1 : TapeAt W1 w.heap.size tad tlen tcap 0 := by rw [hW1]; exact tape_new h hL
  obtain ⟨kt, hkt⟩ : ∃ k, k = w.heap.size := ⟨_, rfl⟩
  obtain ⟨km, hkm⟩ : ∃ k, k = W1.heap.size := ⟨_, rfl⟩
  rw [← hkt] at ht1
  have hkk : kt < km := by rw [hkm]; exact ht1.lt
  have hktw : w.heap.size ≤ kt := by omega
  have hkmw : w.heap.size ≤ km := by omega
  have HT2 : Hid (TapeAt W2 kt tad tlen tcap 0) := ht1.on hb2
  have HM2 : Hid (MOk W2 km 1073741824 start none 0 0 []) := by
    show MOk _ _ _ _ _ _ _ _
    refine ⟨?_, ⟨rowAt_nil _, (fun m hm => by cases hm)⟩, (fun a ha => by cases ha), (fun m hm => by cases hm)⟩
    show W2.heap[km]? = _
    rw [hW2, hkm]
    exact heap_alloc_new W1 _
  have HB2 := Lib.hid (hb1.trans (hb2.mono hb1.size))
  have HW1 := Lib.hid hW1
  have HW2 := Lib.hid hW2
  have HK1 := Lib.hid hkt
  have HK2 := Lib.hid hkm
  clear hb1 hb2 ht1 hW1 hW2 hkt hkm
  go_enter Try.func7, Try.ntmps7
  go_upto_region 3 with fail
  have hsz : w.heap.size + 1 = km := by rw [HK2.out, HW1.out]; simp
  try rw [hsz]
  rw [← HW1.out, ← HW2.out, ← HK1.out]
  try rw [← HK2.out]
  clear hsz HW1 HW2 HK1 HK2
  go_wp2
  go_loopw [9] (fun v9 wr => ∃ i : Nat, v9 = .int .i64 (i : Int) ∧ i ≤ 4 * most ∧ ∃ (ad : Option Addr) (len cap : Nat) (ms : List BM) (ix : Nat), TapeAt wr kt tad tlen tcap ix ∧ MOk wr km 1073741824 start ad len cap ms ∧ RowD start (bats ms) ∧ len ≤ most ∧ Below w.heap.size w wr ∧ ((i = 0 ∧ ms = [] ∧ ix = 0) ∨ (0 < i ∧ 1 ≤ len))) (fun v9 _ => 4 * most - (intOf v9).toNat)
  case atStart => exact ⟨0, rfl, Nat.zero_le _, none, 0, 0, [], 0, HT2.out, HM2.out, RowD.nil, Nat.zero_le _, HB2.out, .inl ⟨rfl, rfl, rfl⟩⟩
  case round =>
    obtain ⟨i, rfl, hi, ad, len, cap, ms, ix, htx, hm, hrow, hlm, hbel, hph⟩ := hrel
    have HPH := Lib.hid hph
    clear hph
    have hlen0 : i = 0 → len = 0 := fun e => by
      rcases HPH.out with ⟨_, h2, _⟩ | ⟨h2, _⟩
      · have := hm.bats.row.length; rw [h2] at this; exact this.symm
      · omega
    have hix0 : i = 0 → ix = 0 := fun e => by
      rcases HPH.out with ⟨_, _, h2⟩ | ⟨h2, _⟩
      · exact h2
      · omega
    have HT := Lib.hid htx
    have HM := Lib.hid hm
    have HR := Lib.hid hrow
    have HB := Lib.hid hbel
    clear htx hm hrow hbel HT2 HM2 HB2
    obtain ⟨wo, hwo⟩ : ∃ wo : World, wo = wr := ⟨_, rfl⟩
    subst hwo
    have t1 := HT.out.c1
    have m2 := HM.out.box.c2
    by_cases hgo : i < 4 * most ∧ len < most ∧ ix < tlen
    · obtain ⟨hg1, hg2, hg3⟩ := hgo
      have hd1 : decide ((i : Int) < 4 * (most : Int)) = true := decide_eq_true (by omega)
      have hd2 : decide (len < most) = true := decide_eq_true hg2
      have hd3 : decide (ix < tlen) = true := decide_eq_true hg3
      by_cases hi0 : i = 0
      · have HMS : Hid (ms = []) := by
          rcases HPH.out with ⟨_, h2, _⟩ | ⟨h2, _⟩
          · exact h2
          · omega
        have hix : ix = 0 := hix0 hi0
        subst hix
        have HNA : Hid (∀ q, q < tlen → ∀ W, Below wo.heap.size wo W ∨ wo.grownBy W (some kt) → NumAt W tad (0 + q) (zs.getD q 0)) := fun q hq W hW b off e => by
          have h1 := nums_at HNU.out hq b off e
          have h2 := (HB.out.cell (p := ⟨b, off + q, none⟩) (World.block_lt_of_cell? _ _ h1)).trans h1
          have hbl : b < w.heap.size := World.block_lt_of_cell? _ _ h1
          rw [Nat.zero_add]
          rcases hW with h3 | h3
          · exact (h3.cell (p := ⟨b, off + q, none⟩) (World.block_lt_of_cell? _ _ h2)).trans h2
          · exact h3.cell h2 (fun e2 => by have e3 : b = kt := Option.some.inj e2; omega)
        go_wp2_with fail
        refine (ask_data wo kt tad tlen tcap 0 HT.out km 1073741824 start ad len cap ms HM.out hkk (by omega) (rowD_ok HR.out) HMS.out (by omega) _ _ (HNA.out 0 (by omega)) (HNA.out 2 (by omega)) hr0 hr2).mono ?_
        rintro e w3 ⟨b0, b1, b2, b3, b4, b5, recs, rd, rc, rfl, HP, HTX, HN, HRE3, HT3, HG3, HDD⟩
        have HM3 := Lib.hid (HM.out.grown HG3.out (by omega) (fun a ha e => by have := (HM.out.row a ha).1; omega) (fun m hm a ha e => by have := (HM.out.ins m hm a ha).1; omega))
        have HB3 : Hid (Below w.heap.size w w3) := HB.out.trans (below_grown HG3.out hktw HB.out.size)
        clear HT HM HB HG3 t1 m2
        go_upto_region 7 with fail
        obtain ⟨w4, hw4⟩ : ∃ w4, w4 = w3.alloc (.cells #[.int .i64 b0, .int .i64 b1, .int .i64 b2, .int .i64 b3, .bool b4, .int .i64 b5, .slice rd recs.length rc] 51) := ⟨_, rfl⟩
        have hb4 : Below w3.heap.size w3 w4 := by rw [hw4]; exact (Below.refl _ _).alloc (Nat.le_refl _) _
        obtain ⟨X, hX⟩ : ∃ X, X = w3.heap.size := ⟨_, rfl⟩
        have HX4 : Hid (BoxAt w4 X b0 b1 b2 b3 b4 b5 (.slice rd recs.length rc)) := by show BoxAt _ _ _ _ _ _ _ _ _; rw [hw4, hX]; exact boxAt_new w3 _ _ _ _ _ _ _
        have HM4 := Lib.hid (HM3.out.keep hb4)
        have HRE4 := Lib.hid (HRE3.out.keep hb4)
        have HB4 := Lib.hid (HB3.out.trans (hb4.mono HB3.out.size))
        obtain ⟨i4, ht4⟩ := HT3.out
        have HT4 : Hid (TapeAt w4 kt tad tlen tcap i4) := ht4.on hb4
        have hend := rowD_end HR.out hs0 (by omega)
        rw [← hw4, ← hX]
        clear hw4 hb4 hX ht4 HT3 HM3 HRE3 HB3
        have p0 := HX4.out.c0
        have p1 := HX4.out.c1
        have p2 := HX4.out.c2
        have p3 := HX4.out.c3
        have p4 := HX4.out.c4
        have p5 := HX4.out.c5
        have p6 := HX4.out.c6
        have hmk : b5 = 0 := HDD.out.2.1
        have hd5 : (b5 == 0) = true := by rw [hmk]; rfl
        have hd5n : (b5 != 0) = false := by rw [hmk]; rfl
        clear hmk
        go_wp2_with fail
        refine (produce_any w4 km 1073741824 start ad len cap ms HM4.out (by omega) (rowD_ok HR.out) (by omega) b0 b1 b2 b3 b4 b5 recs rd rc HRE4.out HTX.out (by have := HN.out; omega) HP.out _ rfl).mono ?_
        rintro e w5 ⟨ad5, len5, cap5, ms5, rfl, hm5, hbs5, hg5⟩
        have hgr := produce_grows (cap := 1073741824) (b := ⟨b0, b1, b2, b3, b4, b5, recs⟩) HR.out HP.out
        have HR5 : Hid (RowD start (bats ms5)) := by show RowD _ _; rw [hbs5]; exact hgr.1
        have hg5l : 1 ≤ len5 := by
          have h1 := produce_first (cap := 1073741824) (start := start) (b := ⟨b0, b1, b2, b3, b4, b5, recs⟩) (by decide) hs0 hs1 HDD.out.1 HDD.out.2.1 HDD.out.2.2
          have h0 : bats ms = [] := by rw [HMS.out]; rfl
          rw [← h0, ← hbs5] at h1
          unfold bats at h1
          rw [List.length_map] at h1
          have h2 := hm5.bats.row.length
          omega
        have hl5 : len5 ≤ most := by
          have h1 := hgr.2
          rw [← hbs5] at h1
          unfold bats at h1
          rw [List.length_map, List.length_map] at h1
          have h2 := hm5.bats.row.length
          have h3 := HM4.out.bats.row.length
          omega
        have HM5 := Lib.hid hm5
        have HT5 : Hid (TapeAt w5 kt tad tlen tcap i4) := HT4.out.grow hg5 (fun k hk => by cases hk; exact hkk)
        have HB5 : Hid (Below w.heap.size w w5) := HB4.out.trans (below_grown hg5 hkmw HB4.out.size)
        clear hm5 hbs5 hg5 hgr p0 p1 p2 p3 p4 p5 p6
        go_wp2
        go_roundw
        case rel => exact ⟨i + 1, by go_num, by omega, ad5, len5, cap5, ms5, i4, HT5.out, HM5.out, HR5.out, hl5, HB5.out, .inr ⟨by omega, hg5l⟩⟩
        case measure => simp [intOf]; omega
      · have hi1 : 0 < i := by omega
        have hlen1 : 1 ≤ len := by
          rcases HPH.out with ⟨h2, _, _⟩ | ⟨_, h2⟩
          · omega
          · exact h2
        go_wp2_with fail
        refine (ask_any wo kt tad tlen tcap ix HT.out km 1073741824 start ad len cap ms HM.out hkk (by omega) (rowD_ok HR.out)).mono ?_
        rintro e w3 ⟨b0, b1, b2, b3, b4, b5, recs, rd, rc, rfl, HP, HTX, HN, HRE3, HT3, HG3⟩
        have HM3 := Lib.hid (HM.out.grown HG3.out (by omega) (fun a ha e => by have := (HM.out.row a ha).1; omega) (fun m hm a ha e => by have := (HM.out.ins m hm a ha).1; omega))
        have HB3 : Hid (Below w.heap.size w w3) := HB.out.trans (below_grown HG3.out hktw HB.out.size)
        clear HT HM HB HG3 t1 m2
        go_upto_region 7 with fail
        obtain ⟨w4, hw4⟩ : ∃ w4, w4 = w3.alloc (.cells #[.int .i64 b0, .int .i64 b1, .int .i64 b2, .int .i64 b3, .bool b4, .int .i64 b5, .slice rd recs.length rc] 51) := ⟨_, rfl⟩
        have hb4 : Below w3.heap.size w3 w4 := by rw [hw4]; exact (Below.refl _ _).alloc (Nat.le_refl _) _
        obtain ⟨X, hX⟩ : ∃ X, X = w3.heap.size := ⟨_, rfl⟩
        have HX4 : Hid (BoxAt w4 X b0 b1 b2 b3 b4 b5 (.slice rd recs.length rc)) := by show BoxAt _ _ _ _ _ _ _ _ _; rw [hw4, hX]; exact boxAt_new w3 _ _ _ _ _ _ _
        have HM4 := Lib.hid (HM3.out.keep hb4)
        have HRE4 := Lib.hid (HRE3.out.keep hb4)
        have HB4 := Lib.hid (HB3.out.trans (hb4.mono HB3.out.size))
        obtain ⟨i4, ht4⟩ := HT3.out
        have HT4 : Hid (TapeAt w4 kt tad tlen tcap i4) := ht4.on hb4
        have hend := rowD_end HR.out hs0 (by omega)
        rw [← hw4, ← hX]
        clear hw4 hb4 hX ht4 HT3 HM3 HRE3 HB3
        have p0 := HX4.out.c0
        have p1 := HX4.out.c1
        have p2 := HX4.out.c2
        have p3 := HX4.out.c3
        have p4 := HX4.out.c4
        have p5 := HX4.out.c5
        have p6 := HX4.out.c6
        by_cases hmk : b5 = 0
        · have hd5 : (b5 == 0) = true := by rw [hmk]; rfl
          have hd5n : (b5 != 0) = false := by rw [hmk]; rfl
          clear hmk
          go_wp2_with fail
          refine (produce_any w4 km 1073741824 start ad len cap ms HM4.out (by omega) (rowD_ok HR.out) (by omega) b0 b1 b2 b3 b4 b5 recs rd rc HRE4.out HTX.out (by have := HN.out; omega) HP.out _ rfl).mono ?_
          rintro e w5 ⟨ad5, len5, cap5, ms5, rfl, hm5, hbs5, hg5⟩
          have hgr := produce_grows (cap := 1073741824) (b := ⟨b0, b1, b2, b3, b4, b5, recs⟩) HR.out HP.out
          have HR5 : Hid (RowD start (bats ms5)) := by show RowD _ _; rw [hbs5]; exact hgr.1
          have hg5l : 1 ≤ len5 := by
            have h1 := produce_ge 1073741824 start (bats ms) (⟨b0, b1, b2, b3, b4, b5, recs⟩ : Bat)
            rw [← hbs5] at h1
            unfold bats at h1
            rw [List.length_map, List.length_map] at h1
            have h2 := hm5.bats.row.length
            have h3 := HM4.out.bats.row.length
            omega
          have hl5 : len5 ≤ most := by
            have h1 := hgr.2
            rw [← hbs5] at h1
            unfold bats at h1
            rw [List.length_map, List.length_map] at h1
            have h2 := hm5.bats.row.length
            have h3 := HM4.out.bats.row.length
            omega
          have HM5 := Lib.hid hm5
          have HT5 : Hid (TapeAt w5 kt tad tlen tcap i4) := HT4.out.grow hg5 (fun k hk => by cases hk; exact hkk)
          have HB5 : Hid (Below w.heap.size w w5) := HB4.out.trans (below_grown hg5 hkmw HB4.out.size)
          clear hm5 hbs5 hg5 hgr p0 p1 p2 p3 p4 p5 p6
          go_wp2
          go_roundw
          case rel => exact ⟨i + 1, by go_num, by omega, ad5, len5, cap5, ms5, i4, HT5.out, HM5.out, HR5.out, hl5, HB5.out, .inr ⟨by omega, hg5l⟩⟩
          case measure => simp [intOf]; omega
        · have hd5 : (b5 == 0) = false := beq_false_of_ne hmk
          have hd5n : (b5 != 0) = true := by unfold bne; rw [hd5]; rfl
          clear hmk
          go_wp2_with fail
          refine (mark_any w4 km 1073741824 start ad len cap ms HM4.out (by omega) (rowD_ok HR.out) (by omega) b1 b2 b5 HP.out _ rfl).mono ?_
          rintro e w5 ⟨ad5, len5, cap5, ms5, rfl, hm5, hbs5, hg5⟩
          have hgr := mark_grows (cap := 1073741824) (p := b1) (e := b2) (m := b5) HR.out HP.out
          have HR5 : Hid (RowD start (bats ms5)) := by show RowD _ _; rw [hbs5]; exact hgr.1
          have hg5l : 1 ≤ len5 := by
            have h1 := mark_ge 1073741824 start (bats ms) b1 b2 b5
            rw [← hbs5] at h1
            unfold bats at h1
            rw [List.length_map, List.length_map] at h1
            have h2 := hm5.bats.row.length
            have h3 := HM4.out.bats.row.length
            omega
          have hl5 : len5 ≤ most := by
            have h1 := hgr.2
            rw [← hbs5] at h1
            unfold bats at h1
            rw [List.length_map, List.length_map] at h1
            have h2 := hm5.bats.row.length
            have h3 := HM4.out.bats.row.length
            omega
          have HM5 := Lib.hid hm5
          have HT5 : Hid (TapeAt w5 kt tad tlen tcap i4) := HT4.out.grow hg5 (fun k hk => by cases hk; exact hkk)
          have HB5 : Hid (Below w.heap.size w w5) := HB4.out.trans (below_grown hg5 hkmw HB4.out.size)
          clear hm5 hbs5 hg5 hgr p0 p1 p2 p3 p4 p5 p6
          go_wp2
          go_roundw
          case rel => exact ⟨i + 1, by go_num, by omega, ad5, len5, cap5, ms5, i4, HT5.out, HM5.out, HR5.out, hl5, HB5.out, .inr ⟨by omega, hg5l⟩⟩
          case measure => simp [intOf]; omega
    · have hex : 1 ≤ len := by
        rcases HPH.out with ⟨h2, _, _⟩ | ⟨_, h2⟩
        · exact absurd ⟨by omega, by have := hlen0 h2; omega, by have := hix0 h2; omega⟩ hgo
        · exact h2
      by_cases hg1 : i < 4 * most
      · have hd1 : decide ((i : Int) < 4 * (most : Int)) = true := decide_eq_true (by omega)
        by_cases hg2 : len < most
        · have hd2 : decide (len < most) = true := decide_eq_true hg2
          have hd3 : decide (ix < tlen) = false := decide_eq_false (fun h => hgo ⟨hg1, hg2, h⟩)
          go_wp2
          go_ret
          exact ⟨ad, len, cap, ms, rfl, HM.out.bats, HR.out, hlm, HB.out, hex⟩
        · have hd2 : decide (len < most) = false := decide_eq_false hg2
          go_wp2
          go_ret
          exact ⟨ad, len, cap, ms, rfl, HM.out.bats, HR.out, hlm, HB.out, hex⟩
      · have hd1 : decide ((i : Int) < 4 * (most : Int)) = false := decide_eq_false (by omega)
        go_wp2
        go_ret
        exact ⟨ad, len, cap, ms, rfl, HM.out.bats, HR.out, hlm, HB.out, hex⟩
end Go.Proofs.Ytlcnpeodhfdhlaa
