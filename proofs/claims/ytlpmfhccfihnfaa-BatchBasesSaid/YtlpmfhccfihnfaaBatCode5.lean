/- The code's own batch, chapter 6: body: what stands under the sum of a batch that is right. -/
import Derived.Test.YtlpmfhccfihnfaaBatCode4
import Derived.Test.YtlpmfhccfihnfaaBatWrite
import Derived.Deep.RegionHeld3
namespace Go.Proofs.Ytlpmfhccfihnfaa
open Go.RowKit
open Go.SeqMath
open Go.BatMath hiding AllB getD_lt take_all
open Go.VarMath (longB length_longB textB beB length_beB)
set_option linter.unusedVariables false

theorem keep_seven {w2 W : World} {k : Nat} {b0 b1 b2 b3 : Int} {b4 : Bool} {b5 : Int} {v : Value} (h : Below w2.heap.size w2 W) (hx : BoxAt w2 k b0 b1 b2 b3 b4 b5 v) :
    Below w2.heap.size w2 W ∧ W.cell? ⟨k, 0, none⟩ = some (.int .i64 b0) ∧ W.cell? ⟨k, 1, none⟩ = some (.int .i64 b1) ∧ W.cell? ⟨k, 2, none⟩ = some (.int .i64 b2) ∧ W.cell? ⟨k, 3, none⟩ = some (.int .i64 b3) ∧ W.cell? ⟨k, 4, none⟩ = some (.bool b4) ∧ W.cell? ⟨k, 5, none⟩ = some (.int .i64 b5) ∧ W.cell? ⟨k, 6, none⟩ = some v :=
  have x := hx.on h
  ⟨h, x.c0, x.c1, x.c2, x.c3, x.c4, x.c5, x.c6⟩
theorem be2_epoch (e : Int) : beB 2 (e % 4294967296).toNat = [(e % 65536).toNat / 256, (e % 65536).toNat % 256] := by
  have h1 : (e % 4294967296).toNat / 256 % 256 = (e % 65536).toNat / 256 := by omega
  have h2 : (e % 4294967296).toNat % 256 = (e % 65536).toNat % 256 := by omega
  simp only [beB, Nat.reducePow, Nat.div_one, h1, h2]
set_option maxRecDepth 100000 in
set_option maxHeartbeats 4000000 in
theorem body_any (w : World) (b : Bat) (ad : Option Addr) (len cap : Nat) (hr : RecsAt w ad len cap b.recs) (hok : Ok b) (hp1 : b.prod ≤ 9223372036854775807) :
    Calls Try.prog 35 #[.agg #[.int .i64 b.base, .int .i64 b.prod, .int .i64 b.epoch, .int .i64 b.seq, .bool b.txn, .int .i64 b.marker, .slice ad len cap]] w (GivesRow w (bodyB b)) := by
  have CK : Hid (∀ W v, Calls Try.prog 55 #[.agg #[.int .i64 b.base, .int .i64 b.prod, .int .i64 b.epoch, .int .i64 b.seq, .bool b.txn, .int .i64 b.marker, v]] W fun e w' => e = .returned (.int .u8 (flagN b : Nat)) ∧ Below W.heap.size W w') := fun W v => kind_any W b v hok.marker0 hok.marker1
  obtain ⟨q0, q1, q2, q3, q4, q5, q6, q7, q8, q9, q10⟩ := hok
  have hlr := hr.length
  obtain ⟨F, hF⟩ : ∃ F, F = flagN b := ⟨_, rfl⟩
  have hF256 : F < 256 := by rw [hF]; exact flag_lt b
  rw [← hF] at CK
  obtain ⟨E1, hE1'⟩ : ∃ E1, E1 = epochN b / 256 := ⟨_, rfl⟩
  obtain ⟨E2, hE2'⟩ : ∃ E2, E2 = epochN b % 256 := ⟨_, rfl⟩
  have hE6 := epoch_lt b
  have hfr : frontB b = F :: (longB b.prod ++ (E1 :: E2 :: (longB b.seq ++ [len % 256]))) := by rw [hF, hE1', hE2', ← hlr]; rfl
  obtain ⟨Ew, hEw⟩ : ∃ Ew, Ew = (b.epoch % 4294967296).toNat := ⟨_, rfl⟩
  have hEc : b.epoch % 4294967296 = (Ew : Int) := by omega
  have hEw2 : Ew < 4294967296 := by omega
  have hbe : beB 2 Ew = [E1, E2] := by rw [hEw, be2_epoch, hE1', hE2']; rfl
  have hE1l : E1 < 256 := by omega
  have hE2l : E2 < 256 := by omega
  have CS : Hid (∀ W, Calls Try.prog 37 #[.int .u32 (Ew : Int), .int .i64 2] W (GivesRow W [E1, E2])) := by
    intro W
    rw [← hbe]
    exact split2_any W Ew hEw2
  have HFR := Lib.hid hfr
  have HBO : Hid (bodyB b = frontB b ++ recsB b.recs) := rfl
  have HT := Lib.hid q10
  have HR := Lib.hid hr
  have HEC := Lib.hid hEc
  have hlen16 : len ≤ 16 := by omega
  have HLR := Lib.hid hlr
  clear hF hfr hE1' hE2' hE6 q9 q10 hr hlr hEc hEw hbe hEw2
  obtain ⟨base, prod, epoch, seq, txn, marker, recs⟩ := b
  simp only at q0 q1 q2 q3 q4 q5 q6 q7 q8 hp1 HR HEC HT HLR CK ⊢
  obtain ⟨W0, hW0⟩ : ∃ W0, W0 = (w.alloc (.cells #[.int .i64 base, .int .i64 prod, .int .i64 epoch, .int .i64 seq, .bool txn, .int .i64 marker, .slice ad len cap] 24)) := ⟨_, rfl⟩
  have HX := Lib.hid (show BoxAt W0 w.heap.size base prod epoch seq txn marker (.slice ad len cap) by rw [hW0]; exact boxAt_new w _ _ _ _ _ _ _)
  have HB := Lib.hid (show Below w.heap.size w W0 by rw [hW0]; exact (Below.refl _ _).alloc (Nat.le_refl _) _)
  have HW0 := Lib.hid hW0
  clear hW0
  have CLF : Hid (∀ W, Row W (some ⟨W.heap.size - 1, 0, none⟩) 1 1 [F] → Calls Try.prog 36 #[.slice (some ⟨W.heap.size - 1, 0, none⟩) 1 1, .int .i64 prod] W (GivesRow W ([F] ++ longB prod))) := by
    intro W h
    exact long_any W _ 1 1 [F] prod h (by omega) (by omega) hp1
  have HAF : Hid (AllB [F]) := all_cons hF256 all_nil
  go_enter Try.func35, Try.ntmps35
  go_upto_region 1 with fail
  rw [← HW0.out]
  go_cut [3] from 6 (fun s3 wx => ∃ g c, s3 = .slice (some ⟨g, 0, none⟩) 9 c ∧ Hid (wx.ownsRow W0.heap.size 5 1 (.slice (some ⟨g, 0, none⟩) 9 c) 9 (vals ([F] ++ longB prod))) ∧ Hid (Below W0.heap.size W0 wx))
  case first =>
    go_region_held3 (fun W => Below W0.heap.size W0 W ∧ W.cell? ⟨w.heap.size, 0, none⟩ = some (.int .i64 base) ∧ W.cell? ⟨w.heap.size, 1, none⟩ = some (.int .i64 prod) ∧ W.cell? ⟨w.heap.size, 2, none⟩ = some (.int .i64 epoch) ∧ W.cell? ⟨w.heap.size, 3, none⟩ = some (.int .i64 seq) ∧ W.cell? ⟨w.heap.size, 4, none⟩ = some (.bool txn) ∧ W.cell? ⟨w.heap.size, 5, none⟩ = some (.int .i64 marker) ∧ W.cell? ⟨w.heap.size, 6, none⟩ = some (.slice ad len cap)) (first | exact keep_seven hb3.out HX.out | exact keep_seven (hb2.out.alloc hb2.out.size _) HX.out | exact keep_seven hb2.out HX.out | exact keep_seven ((Below.refl _ W0).drew) HX.out) (first | (go_at_call 36; refine (long_any _ _ 1 1 [F] prod (row_lit w2 #[.int .u8 (F : Int)] [F] w2.heap.size 1 rfl rfl HAF.out rfl) (by omega) (by omega) hp1).mono ?_; rintro e w3 hg; obtain ⟨g3, k3, rfl, ho3, hb3, hbb3⟩ := gives_on (w := W0) (n := 9) hg (hb2.out.alloc hb2.out.size _) (by simp [length_longB])) | (go_at_call 55; refine (CK.out _ _).mono ?_; rintro e w2 ⟨rfl, hbk⟩; have hb2 := Lib.hid ((And.left ‹Below W0.heap.size W0 _ ∧ _›).trans (hbk.mono (And.left ‹Below W0.heap.size W0 _ ∧ _›).size))))
    all_goals
      go_wp2
      go_meet
      case rel => exact ⟨_, _, rfl, ho3, hb3⟩
  case rest =>
    obtain ⟨g1, c1, rfl, ho1, hb1⟩ := hcut
    have HX1 := Lib.hid (HX.out.on hb1.out)
    have hc2 := HX1.out.c2
    have hec := HEC.out
    have hec2 : IntKind.u32.wrap epoch = (Ew : Int) := by rw [← hec]; simp [IntKind.wrap, IntKind.bits, IntKind.signed]
    clear CK CLF
    go_wp2_with fail
    refine (CS.out _).mono ?_
    rintro e w1 hg
    obtain ⟨gs, ks, rfl, hos, hbs, hbbs⟩ := gives_on hg (Below.refl _ _) (n := 2) rfl
    clear hg hc2 hec hec2
    have HO1 := Lib.hid (owns_keep ho1.out hbs.out (Nat.le_refl _))
    have HB2 : Hid (Below W0.heap.size W0 w1) := hb1.out.trans (hbs.out.mono hb1.out.size)
    have HAE : Hid (AllB [E1, E2]) := all_cons hE1l (all_cons hE2l all_nil)
    have HROW2 := Lib.hid (owns_row hos.out HAE.out)
    have hs0 := HB.out.size
    go_wp2_with (at_builtin; refine append_row rfl (.tmp 12) (.tmp 16) rfl W0.heap.size 9 ([F] ++ longB prod) [E1, E2] _ rfl HO1.out (some_ne _ _ _) HB2.out.size _ _ _ rfl HROW2.out (by omega) W0 HB2.out ?_)
    intro g2 c2 w2 ho2 hb2
    have HO2 := Lib.hid ho2
    have HBW2 := Lib.hid hb2
    have HA2 : Hid (AllB (([F] ++ longB prod) ++ [E1, E2])) := all_app (all_app HAF.out (VarMath.longB_all _)) HAE.out
    have HX2 := Lib.hid (HX.out.on hb2)
    clear ho2 hb2 HX1 HO1 HB2 HROW2 hos hbs hbbs ho1 hb1
    have hc3 := HX2.out.c3
    have hc6 := HX2.out.c6
    have hl256 : IntKind.u8.wrap (len : Int) = (len : Int) := by rw [wrap_u8']; omega
    have CL : Hid (∀ W, Below w2.heap.size w2 W → Calls Try.prog 36 #[.slice (some ⟨g2, 0, none⟩) 11 c2, .int .i64 seq] W (GivesRow W ((([F] ++ longB prod) ++ [E1, E2]) ++ longB seq))) := by
      intro W hW
      exact long_any W _ 11 c2 _ seq ((owns_row HO2.out HA2.out).keep hW (Nat.le_refl _)) (by omega) (by omega) (by omega)
    go_upto_region 3 with fail
    go_cut [3] from 18 (fun s4 wx => ∃ g c, s4 = .slice (some ⟨g, 0, none⟩) 20 c ∧ Hid (wx.ownsRow W0.heap.size 5 1 (.slice (some ⟨g, 0, none⟩) 20 c) 20 (vals (((([F] ++ longB prod) ++ [E1, E2]) ++ longB seq) ++ [len]))) ∧ Hid (Below W0.heap.size W0 wx))
    case first =>
      have HL8 : Hid (AllB [len]) := all_cons (by omega) all_nil
      have HRL : Hid (∀ W, Below (w2.drew.alloc (.cells #[.int .u8 (len : Int)] 5)).heap.size (w2.drew.alloc (.cells #[.int .u8 (len : Int)] 5)) W → Row W (some ⟨w2.heap.size, 0, none⟩) 1 1 [len]) := fun W hW => (row_lit w2.drew #[.int .u8 (len : Int)] [len] w2.heap.size 1 rfl rfl HL8.out rfl).keep hW (Nat.le_refl _)
      go_region_held3 (fun W => Below w2.heap.size w2 W ∧ W.cell? ⟨w.heap.size, 3, none⟩ = some (.int .i64 seq) ∧ W.cell? ⟨w.heap.size, 6, none⟩ = some (.slice ad len cap)) (first | exact keep_two hb4 hc3 hc6 | exact keep_two hb3.out hc3 hc6 | exact keep_two (hb3.out.alloc hb3.out.size _) hc3 hc6 | exact keep_two ((Below.refl _ w2).drew) hc3 hc6 | exact keep_two (((Below.refl _ w2).drew).alloc (by simp) _) hc3 hc6) (first | (go_at_call 36; refine (CL.out _ ?_).mono ?_; exact (And.left ‹Below w2.heap.size w2 _ ∧ _›); rintro e w3 hg; obtain ⟨g3, k3, rfl, ho3, hb3, hbb3⟩ := gives_on (w := w2) (n := 19) hg (And.left ‹Below w2.heap.size w2 _ ∧ _›) (by simp [length_longB])) | (refine held_append (by rfl) (.tmp 21) (.tmp 26) rfl w2.heap.size 19 ((([F] ++ longB prod) ++ [E1, E2]) ++ longB seq) [len] _ rfl (ho3.out.alloc _) (hb3.out.alloc hb3.out.size _).size ⟨w3.heap.size, 0, none⟩ 1 1 rfl (row_lit w3 #[.int .u8 (len : Int)] [len] w3.heap.size 1 rfl rfl HL8.out rfl) (by omega) (by omega) w2 (hb3.out.alloc hb3.out.size _) ?_; intro g4 k4 w4 ho4 hp4 hb4) | (refine held_append (by rfl) (.tmp 21) (.tmp 26) rfl w2.heap.size 19 ((([F] ++ longB prod) ++ [E1, E2]) ++ longB seq) [len] _ rfl ho3.out hb3.out.size ⟨w2.heap.size, 0, none⟩ 1 1 rfl (HRL.out _ hbb3.out) (by omega) (by omega) w2 hb3.out ?_; intro g4 k4 w4 ho4 hp4 hb4))
      all_goals
        go_wp2
        go_meet
        case rel => exact ⟨_, _, rfl, owns_low ho4 HBW2.out.size, HBW2.out.trans (hb4.mono HBW2.out.size)⟩
    case rest =>
      clear hc3 hc6 hl256 CL
      obtain ⟨g4, c4, rfl, ho4, hb4⟩ := hcut
      have HX4 := Lib.hid (HX.out.on hb4.out)
      have hc6 := HX4.out.c6
      obtain ⟨fr, hfr⟩ : ∃ fr, fr = ((([F] ++ longB prod) ++ [E1, E2]) ++ longB seq) ++ [len] := ⟨_, rfl⟩
      rw [← hfr] at ho4
      have hfl : fr.length = 20 := by rw [hfr]; simp [length_longB]
      have HFA : Hid (AllB fr) := by
        show AllB fr
        rw [hfr]
        exact all_app (all_app HA2.out (VarMath.longB_all _)) (all_cons (by omega) all_nil)
      have HFR2 : Hid (bodyB ⟨base, prod, epoch, seq, txn, marker, recs⟩ = fr ++ recsB recs) := by
        show _ = _
        rw [HBO.out, HFR.out, hfr, Nat.mod_eq_of_lt (show len < 256 by omega)]
        simp
      have HFL := Lib.hid hfl
      clear hfr hfl
      go_wp2_with fail
      go_loopw [3, 31] (fun v3 v31 wr => WriteAt W0 fr recs v3 v31 wr) (fun _ v31 _ => len - (intOf v31).toNat)
      case atStart => exact writeAt_start HFL.out ho4.out hb4.out
      case round =>
        obtain ⟨j, g, c, m, hj, rfl, rfl, hm, hown, hbel⟩ := hrel
        rw [HLR.out] at hj
        have HM := Lib.hid hm
        have HOWN := Lib.hid hown
        have HBEL := Lib.hid hbel
        have hmle : m ≤ 2388 := by
          have h1 := (recs_len (take_texts HT.out j)).2
          have h2 : (recs.take j).length ≤ 16 := by rw [List.length_take]; have := HLR.out; omega
          have h3 := HFL.out
          rw [← hm, List.length_append]
          omega
        clear hm hown hbel
        by_cases hlt : j < len
        · obtain ⟨r, hrj⟩ : ∃ r, recs[j]? = some r := by
            have hjl : j < recs.length := by rw [HLR.out]; exact hlt
            exact ⟨_, List.getElem?_eq_getElem hjl⟩
          obtain ⟨bk, off, rfl, hbk, hcell⟩ : ∃ bk off, ad = some ⟨bk, off, none⟩ ∧ bk < w.heap.size ∧ ∀ i r, recs[i]? = some r → wr.cell? ⟨bk, off + i * 2, none⟩ = some (.string r.key) ∧ wr.cell? ⟨bk, off + i * 2 + 1, none⟩ = some (.string r.val) := by
            have hbw : Below w.heap.size w wr := HB.out.trans (HBEL.out.mono HB.out.size)
            rcases HR.out.cells with h | ⟨bk, off, e, hlt, hc⟩
            · omega
            · exact ⟨bk, off, e, hlt, fun i r hi => ⟨(hbw.cell (p := ⟨bk, _, none⟩) hlt).trans (hc i r hi).1, (hbw.cell (p := ⟨bk, _, none⟩) hlt).trans (hc i r hi).2⟩⟩
          obtain ⟨hk, hv⟩ := hcell j r hrj
          have hmem := List.mem_of_getElem? hrj
          obtain ⟨hs1, hs2⟩ := HT.out r hmem
          have hsn := take_recs hrj
          have hta := take_texts HT.out j
          obtain ⟨pre, hpre⟩ : ∃ pre, pre = fr ++ recsB (recs.take j) := ⟨_, rfl⟩
          rw [← hpre] at HM HOWN
          have HSN : Hid (fr ++ recsB (recs.take (j + 1)) = pre ++ recB r) := by
            show _ = _
            rw [hsn, hpre, List.append_assoc]
          have hrl := rec_len ⟨hs1, hs2⟩
          have HRA : Hid (AllB (recB r)) := rec_all (by omega)
          obtain ⟨q, hq⟩ : ∃ q, q = (recB r).length := ⟨_, rfl⟩
          rw [← hq] at hrl
          have HQ := Lib.hid hq
          have HQ2 : Hid ((pre ++ recB r).length = m + q) := by show _ = _; rw [List.length_append, HM.out, hq]
          obtain ⟨ks, vs⟩ := r
          simp only at hk hv hs1 hs2
          have HLE : Hid (j + 1 ≤ recs.length) := by show _ ≤ _; rw [HLR.out]; exact hlt
          clear hcell hrj hmem hsn hta hpre hq
          have HBA : Hid (Below W0.heap.size W0 (wr.alloc (.cells #[.string ks, .string vs] 58))) := HBEL.out.alloc HBEL.out.size _
          have HOA : Hid ((wr.alloc (.cells #[.string ks, .string vs] 58)).ownsRow W0.heap.size 5 1 (.slice (some ⟨g, 0, none⟩) m c) m (vals pre)) := HOWN.out.alloc _
          go_wp2_with fail
          refine (record_any _ ks vs (by omega) (by omega)).mono ?_
          rintro e w5 hg
          obtain ⟨g5, k5, rfl, ho5, hb5, hbb5⟩ := gives_on hg (Below.refl _ _) HQ.out.symm
          clear hg
          have HO5 := Lib.hid (owns_keep HOA.out hb5.out (Nat.le_refl _))
          have HB5 : Hid (Below W0.heap.size W0 w5) := HBA.out.trans (hb5.out.mono HBA.out.size)
          have HROW5 := Lib.hid (owns_row ho5.out HRA.out)
          go_wp2_with (at_builtin; refine append_row rfl (.tmp 35) (.tmp 37) rfl W0.heap.size m pre (recB ⟨ks, vs⟩) _ rfl HO5.out (some_ne _ _ _) HB5.out.size _ _ _ rfl HROW5.out (by omega) W0 HB5.out ?_)
          intro g6 c6 w6 ho6 hb6
          have HO6 := Lib.hid ho6
          have HB6 := Lib.hid hb6
          clear ho6 hb6
          go_wp2
          go_roundw
          case rel => exact ⟨j + 1, _, _, _, HLE.out, by go_num, rfl, by rw [HSN.out]; exact HQ2.out, by rw [HSN.out]; exact HO6.out, HB6.out⟩
          case measure => simp [intOf]; omega
        · obtain rfl : j = len := by omega
          have hrl : recs.take j = recs := by rw [List.take_of_length_le (by rw [HLR.out]; exact Nat.le_refl _)]
          rw [hrl] at HM HOWN
          rw [← HFR2.out] at HM HOWN
          clear hlt hrl
          go_wp2
          go_ret
          exact gives_row HM.out (owns_low HOWN.out HB.out.size) (HB.out.trans (HBEL.out.mono HB.out.size))
end Go.Proofs.Ytlpmfhccfihnfaa
