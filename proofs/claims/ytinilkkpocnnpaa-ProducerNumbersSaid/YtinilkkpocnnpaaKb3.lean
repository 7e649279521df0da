/- Parts of a proof, merged: BatWrite, BatUse, BatCodeA, CrcUnseal, BatRead, BatCodeB, Within, Tape, TapeBatch, BatLaw1. -/
import Derived.Deep.RegionHeld3
import Derived.Deep.RegionWith
import Derived.BigQuiet
import Derived.Deep.CutRange
import Derived.Test.YtinilkkpocnnpaaKb2
import Derived.Test.YtinilkkpocnnpaaKb1
namespace Go.Proofs.Ytinilkkpocnnpaa
open Go.RowKit
open Go.SeqMath
open Go.BatMath hiding AllB getD_lt take_all
open Go.VarMath (longB length_longB textB)
open Go.CrcMath (sealB)
set_option linter.unusedVariables false

theorem owns_low {w : World} {base base' e size n : Nat} {v : Value} {xs : List Value} (h : w.ownsRow base e size v n xs) (hb : base' ≤ base) : w.ownsRow base' e size v n xs := by
  refine ⟨h.1, ?_⟩
  rcases h.2 with hn | ⟨g, cap, cur, rfl, hbg, hh, r⟩
  · exact .inl hn
  · exact .inr ⟨g, cap, cur, rfl, Nat.le_trans hb hbg, hh, r⟩
/-- What a call gives that makes a row, in a world that is further on. -/
theorem gives_on {w W w' : World} {bs : List Nat} {e : Ending} {n : Nat} (h : GivesRow W bs e w') (hW : Below w.heap.size w W) (hn : bs.length = n) :
    ∃ g cap, e = .returned (.slice (some ⟨g, 0, none⟩) n cap) ∧ Hid (w'.ownsRow w.heap.size 5 1 (.slice (some ⟨g, 0, none⟩) n cap) n (vals bs)) ∧ Hid (Below w.heap.size w w') ∧ Hid (Below W.heap.size W w') := by
  subst hn
  obtain ⟨g, cap, rfl, ho, hb⟩ := h
  exact ⟨g, cap, rfl, owns_low ho hW.size, hW.trans (hb.mono hW.size), hb⟩
theorem cell_on {w W : World} {a : Addr} {u : Value} (h : Below w.heap.size w W) (ha : w.cell? a = some u) : W.cell? a = some u := (h.cell (World.block_lt_of_cell? _ _ ha)).trans ha
theorem keep_two {w2 W : World} {a b : Addr} {u v : Value} (h : Below w2.heap.size w2 W) (hu : w2.cell? a = some u) (hv : w2.cell? b = some v) : Below w2.heap.size w2 W ∧ W.cell? a = some u ∧ W.cell? b = some v := ⟨h, cell_on h hu, cell_on h hv⟩
theorem row_lit (W : World) (cs : Array Value) (bs : List Nat) (k n : Nat) (hk : W.heap.size = k) (hcs : cs = (vals bs).toArray) (ha : AllB bs) (hn : bs.length = n) : Row (W.alloc (.cells cs 5)) (some ⟨k, 0, none⟩) n n bs := by
  subst hn hk hcs; exact ⟨(own_new W bs).byt ha _ (Nat.le_refl _), fun h => by cases h⟩
/-- What stands before round j of the loop over the records. -/
def WriteAt (w : World) (fr : List Nat) (l : List Rc) (v4 v45 : Value) (wr : World) : Prop := ∃ (j g c m : Nat), j ≤ l.length ∧ v45 = .int .i64 j ∧ v4 = .slice (some ⟨g, 0, none⟩) m c ∧ (fr ++ recsB (l.take j)).length = m ∧ wr.ownsRow w.heap.size 5 1 (.slice (some ⟨g, 0, none⟩) m c) m (vals (fr ++ recsB (l.take j))) ∧ Below w.heap.size w wr
theorem writeAt_start {w W : World} {fr : List Nat} {l : List Rc} {g c m : Nat} (hm : fr.length = m) (ho : W.ownsRow w.heap.size 5 1 (.slice (some ⟨g, 0, none⟩) m c) m (vals fr)) (hb : Below w.heap.size w W) : WriteAt w fr l (.slice (some ⟨g, 0, none⟩) m c) (.int .i64 0) W :=
  ⟨0, g, c, m, Nat.zero_le _, rfl, rfl, by simpa [recsB] using hm, by simpa [recsB] using ho, hb⟩
theorem take_recs {l : List Rc} {j : Nat} {r : Rc} (h : l[j]? = some r) : recsB (l.take (j + 1)) = recsB (l.take j) ++ recB r := by
  obtain ⟨hj, rfl⟩ := List.getElem?_eq_some_iff.1 h
  rw [List.take_succ_eq_append_getElem hj, recsB_snoc]
theorem take_texts {l : List Rc} (h : ∀ r ∈ l, r.key.size ≤ 64 ∧ r.val.size ≤ 64) (j : Nat) : ∀ r ∈ l.take j, r.key.size ≤ 64 ∧ r.val.size ≤ 64 := fun r hr => h r (List.mem_of_mem_take hr)
set_option maxRecDepth 100000 in
set_option maxHeartbeats 4000000 in
theorem write_any (w : World) (b : Bat) (ad : Option Addr) (len cap : Nat) (hr : RecsAt w ad len cap b.recs) (hok : Ok b) (hp1 : b.prod ≤ 9223372036854775807) :
    Calls Try.prog 50 #[.agg #[.int .i64 b.base, .int .i64 b.prod, .int .i64 b.epoch, .int .i64 b.seq, .bool b.txn, .int .i64 b.marker, .slice ad len cap]] w (GivesRow w (bytesB b)) := by
  obtain ⟨q0, q1, q2, q3, q4, q5, q6, q7, q8, q9, q10⟩ := hok
  have hlr := hr.length
  obtain ⟨F, hF⟩ : ∃ F, F = flagN b := ⟨_, rfl⟩
  have hF256 : F < 256 := by rw [hF]; exact flag_lt b
  have hFx : (F : Int) = 2 * b.marker + (if b.txn = true then 1 else 0) := by
    rw [hF]; unfold flagN; split <;> omega
  obtain ⟨E, hE⟩ : ∃ E, E = epochN b := ⟨_, rfl⟩
  have hE1 : b.epoch / 256 % 256 = ((E / 256 : Nat) : Int) := by rw [hE]; unfold epochN; omega
  have hE2 : b.epoch % 256 = ((E % 256 : Nat) : Int) := by rw [hE]; unfold epochN; omega
  have hfr : frontB b = F :: (longB b.prod ++ (E / 256 :: E % 256 :: (longB b.seq ++ [len % 256]))) := by rw [hF, hE, ← hlr]; rfl
  have hE6 : E < 65536 := by rw [hE]; exact epoch_lt b
  obtain ⟨E1, hE1'⟩ : ∃ E1, E1 = E / 256 := ⟨_, rfl⟩
  obtain ⟨E2, hE2'⟩ : ∃ E2, E2 = E % 256 := ⟨_, rfl⟩
  have hE1l : E1 < 256 := by omega
  have hE2l : E2 < 256 := by omega
  rw [← hE1'] at hE1 hfr
  rw [← hE2'] at hE2 hfr
  have HFR := Lib.hid hfr
  have HBO : Hid (bodyB b = frontB b ++ recsB b.recs) := rfl
  have HBY : Hid (bytesB b = longB b.base ++ (VarMath.beB 4 (sealB (bodyB b)).length ++ sealB (bodyB b))) := rfl
  have HT := Lib.hid q10
  have HR := Lib.hid hr
  have HE1 := Lib.hid hE1
  have HE2 := Lib.hid hE2
  have HF := Lib.hid hFx
  have hlen16 : len ≤ 16 := by omega
  have HLR := Lib.hid hlr
  clear hF hE hfr hE1' hE2' hE6 q9 q10 hr hFx hlr hE1 hE2
  obtain ⟨base, prod, epoch, seq, txn, marker, recs⟩ := b
  simp only at q0 q1 q2 q3 q4 q5 q6 q7 q8 hp1 HR HE1 HE2 HF HT HLR ⊢
  go_enter Try.func50, Try.ntmps50
  go_upto_if 14 with (fail)
  go_cut [3] from 9 (fun s3 wx => s3 = .int .u8 (F : Int) ∧ wx = w.alloc (.cells #[.int .i64 base, .int .i64 prod, .int .i64 epoch, .int .i64 seq, .bool txn, .int .i64 marker, .slice ad len cap] 33))
  case first =>
    have hmm : marker = 0 ∨ marker = 1 ∨ marker = 2 := by omega
    cases txn
    · rcases hmm with rfl | rfl | rfl
      all_goals
        go_wp2
        go_meet
        case rel => exact ⟨by have := HF.out; rw [this]; rfl, rfl⟩
    · rcases hmm with rfl | rfl | rfl
      all_goals
        go_wp2
        go_meet
        case rel => exact ⟨by have := HF.out; rw [this]; rfl, rfl⟩
  case rest =>
    obtain ⟨rfl, rfl⟩ := hcut
    obtain ⟨W0, hW0⟩ : ∃ W0, W0 = (w.alloc (.cells #[.int .i64 base, .int .i64 prod, .int .i64 epoch, .int .i64 seq, .bool txn, .int .i64 marker, .slice ad len cap] 33)) := ⟨_, rfl⟩
    have hs0 : W0.heap.size = w.heap.size + 1 := by rw [hW0]; simp
    have HX := Lib.hid (show BoxAt W0 w.heap.size base prod epoch seq txn marker (.slice ad len cap) by rw [hW0]; exact boxAt_new w _ _ _ _ _ _ _)
    have HB := Lib.hid (show Below w.heap.size w W0 by rw [hW0]; exact (Below.refl _ _).alloc (Nat.le_refl _) _)
    rw [← hW0]
    have hc1 := HX.out.c1
    have HROW := Lib.hid (row_lit W0 #[.int .u8 (F : Int)] [F] (w.heap.size + 1) 1 hs0 rfl (all_cons hF256 all_nil) rfl)
    have HB0 : Hid (Below W0.heap.size W0 (W0.alloc (.cells #[.int .u8 (F : Int)] 5))) := (Below.refl _ _).alloc (Nat.le_refl _) _
    clear hW0
    go_wp2_with fail
    (with_reducible refine (refLong_any _ _ 1 1 [F] prod HROW.out (by omega) (by omega) hp1).mono ?_)
    rintro e w1 hg
    obtain ⟨g1, c1, rfl, ho1, hb1, hbb⟩ := gives_on hg HB0.out (n := 9) (by simp [length_longB])
    have HX1 := Lib.hid (HX.out.on hb1.out)
    clear hg hbb hc1
    have hc2 := HX1.out.c2
    have he1 := HE1.out
    have he2 := HE2.out
    have HROW2 := Lib.hid (row_lit w1 #[.int .u8 (E1 : Int), .int .u8 (E2 : Int)] [E1, E2] w1.heap.size 2 rfl rfl (all_cons hE1l (all_cons hE2l all_nil)) rfl)
    have HB2 := Lib.hid (hb1.out.alloc hb1.out.size (.cells #[.int .u8 (E1 : Int), .int .u8 (E2 : Int)] 5))
    have HZ := Lib.hid hs0
    clear hs0
    go_wp2_with (at_builtin; refine append_row rfl (.tmp 22) (.tmp 30) rfl W0.heap.size 9 ([F] ++ longB prod) [E1, E2] _ rfl (ho1.out.alloc _) (some_ne _ _ _) HB2.out.size _ _ _ rfl HROW2.out (by omega) W0 HB2.out ?_)
    intro g2 c2 w2 ho2 hb2
    have HO2 := Lib.hid ho2
    have HBW2 := Lib.hid hb2
    have HA2 : Hid (AllB (([F] ++ longB prod) ++ [E1, E2])) := all_app (all_app (all_cons hF256 all_nil) (VarMath.longB_all _)) (all_cons hE1l (all_cons hE2l all_nil))
    have HX2 := Lib.hid (HX.out.on hb2)
    clear ho2 hb2 hc2 he1 he2
    have hc3 := HX2.out.c3
    have hc6 := HX2.out.c6
    have hl256 : IntKind.u8.wrap (len : Int) = (len : Int) := by rw [wrap_u8']; omega
    have CL : Hid (∀ W, Below w2.heap.size w2 W → Calls Try.prog 65 #[.slice (some ⟨g2, 0, none⟩) 11 c2, .int .i64 seq] W (GivesRow W ((([F] ++ longB prod) ++ [E1, E2]) ++ longB seq))) := by
      intro W hW
      exact refLong_any W _ 11 c2 _ seq ((owns_row HO2.out HA2.out).keep hW (Nat.le_refl _)) (by omega) (by omega) (by omega)
    go_upto_region 6 with fail
    go_cut [4] from 32 (fun s4 wx => ∃ g c, s4 = .slice (some ⟨g, 0, none⟩) 20 c ∧ Hid (wx.ownsRow W0.heap.size 5 1 (.slice (some ⟨g, 0, none⟩) 20 c) 20 (vals (((([F] ++ longB prod) ++ [E1, E2]) ++ longB seq) ++ [len]))) ∧ Hid (Below W0.heap.size W0 wx))
    case first =>
      have HL8 : Hid (AllB [len]) := all_cons (by omega) all_nil
      have HRL : Hid (∀ W, Below (w2.drew.alloc (.cells #[.int .u8 (len : Int)] 5)).heap.size (w2.drew.alloc (.cells #[.int .u8 (len : Int)] 5)) W → Row W (some ⟨w2.heap.size, 0, none⟩) 1 1 [len]) := fun W hW => (row_lit w2.drew #[.int .u8 (len : Int)] [len] w2.heap.size 1 rfl rfl HL8.out rfl).keep hW (Nat.le_refl _)
      go_region_held3 (fun W => Below w2.heap.size w2 W ∧ W.cell? ⟨w.heap.size, 3, none⟩ = some (.int .i64 seq) ∧ W.cell? ⟨w.heap.size, 6, none⟩ = some (.slice ad len cap)) (first | exact keep_two hb4 hc3 hc6 | exact keep_two hb3.out hc3 hc6 | exact keep_two (hb3.out.alloc hb3.out.size _) hc3 hc6 | exact keep_two ((Below.refl _ w2).drew) hc3 hc6 | exact keep_two (((Below.refl _ w2).drew).alloc (by simp) _) hc3 hc6) (first | (go_at_call 65; refine (CL.out _ ?_).mono ?_; exact (And.left ‹Below w2.heap.size w2 _ ∧ _›); rintro e w3 hg; obtain ⟨g3, k3, rfl, ho3, hb3, hbb3⟩ := gives_on (w := w2) (n := 19) hg (And.left ‹Below w2.heap.size w2 _ ∧ _›) (by simp [length_longB])) | (refine held_append (by rfl) (.tmp 35) (.tmp 40) rfl w2.heap.size 19 ((([F] ++ longB prod) ++ [E1, E2]) ++ longB seq) [len] _ rfl (ho3.out.alloc _) (hb3.out.alloc hb3.out.size _).size ⟨w3.heap.size, 0, none⟩ 1 1 rfl (row_lit w3 #[.int .u8 (len : Int)] [len] w3.heap.size 1 rfl rfl HL8.out rfl) (by omega) (by omega) w2 (hb3.out.alloc hb3.out.size _) ?_; intro g4 k4 w4 ho4 hp4 hb4) | (refine held_append (by rfl) (.tmp 35) (.tmp 40) rfl w2.heap.size 19 ((([F] ++ longB prod) ++ [E1, E2]) ++ longB seq) [len] _ rfl ho3.out hb3.out.size ⟨w2.heap.size, 0, none⟩ 1 1 rfl (HRL.out _ hbb3.out) (by omega) (by omega) w2 hb3.out ?_; intro g4 k4 w4 ho4 hp4 hb4))
      all_goals
        go_wp2
        go_meet
        case rel => exact ⟨_, _, rfl, owns_low ho4 HBW2.out.size, HBW2.out.trans (hb4.mono HBW2.out.size)⟩
    case rest =>
      clear hc3 hc6 hl256
      obtain ⟨g4, c4, rfl, ho4, hb4⟩ := hcut
      have HX4 := Lib.hid (HX.out.on hb4.out)
      have hc6 := HX4.out.c6
      obtain ⟨fr, hfr⟩ : ∃ fr, fr = ((([F] ++ longB prod) ++ [E1, E2]) ++ longB seq) ++ [len] := ⟨_, rfl⟩
      rw [← hfr] at ho4
      have hfl : fr.length = 20 := by rw [hfr]; simp [length_longB]
      have HFA : Hid (AllB fr) := by
        show AllB fr
        rw [hfr]
        exact all_app (all_app HA2.out (VarMath.longB_all _)) (all_cons (by omega) all_nil)
      have HFR2 : Hid (bodyB ⟨base, prod, epoch, seq, txn, marker, recs⟩ = fr ++ recsB recs) := by
        show _ = _
        rw [HBO.out, HFR.out, hfr, Nat.mod_eq_of_lt (show len < 256 by omega)]
        simp
      have HFL := Lib.hid hfl
      clear hfr hfl
      go_wp2_with fail
      go_loopw [4, 45] (fun v4 v45 wr => WriteAt W0 fr recs v4 v45 wr) (fun _ v45 _ => len - (intOf v45).toNat)
      case atStart => exact writeAt_start HFL.out ho4.out hb4.out
      case round =>
        obtain ⟨j, g, c, m, hj, rfl, rfl, hm, hown, hbel⟩ := hrel
        rw [HLR.out] at hj
        have HM := Lib.hid hm
        have HOWN := Lib.hid hown
        have HBEL := Lib.hid hbel
        have hmle : m ≤ 2388 := by
          have h1 := (recs_len (take_texts HT.out j)).2
          have h2 : (recs.take j).length ≤ 16 := by rw [List.length_take]; have := HLR.out; omega
          have h3 := HFL.out
          rw [← hm, List.length_append]
          omega
        clear hm hown hbel
        by_cases hlt : j < len
        · obtain ⟨r, hrj⟩ : ∃ r, recs[j]? = some r := by
            have hjl : j < recs.length := by rw [HLR.out]; exact hlt
            exact ⟨_, List.getElem?_eq_getElem hjl⟩
          obtain ⟨bk, off, rfl, hbk, hcell⟩ : ∃ bk off, ad = some ⟨bk, off, none⟩ ∧ bk < w.heap.size ∧ ∀ i r, recs[i]? = some r → wr.cell? ⟨bk, off + i * 2, none⟩ = some (.string r.key) ∧ wr.cell? ⟨bk, off + i * 2 + 1, none⟩ = some (.string r.val) := by
            have hbw : Below w.heap.size w wr := HB.out.trans (HBEL.out.mono HB.out.size)
            rcases HR.out.cells with h | ⟨bk, off, e, hlt, hc⟩
            · omega
            · exact ⟨bk, off, e, hlt, fun i r hi => ⟨(hbw.cell (p := ⟨bk, _, none⟩) hlt).trans (hc i r hi).1, (hbw.cell (p := ⟨bk, _, none⟩) hlt).trans (hc i r hi).2⟩⟩
          obtain ⟨hk, hv⟩ := hcell j r hrj
          have hmem := List.mem_of_getElem? hrj
          obtain ⟨hs1, hs2⟩ := HT.out r hmem
          have hsn := take_recs hrj
          have hta := take_texts HT.out j
          obtain ⟨pre, hpre⟩ : ∃ pre, pre = fr ++ recsB (recs.take j) := ⟨_, rfl⟩
          have hpa : AllB pre := by
            rw [hpre]
            exact all_app HFA.out (recs_all fun x hx => by have := hta x hx; omega)
          rw [← hpre] at HM HOWN
          have HSN : Hid (fr ++ recsB (recs.take (j + 1)) = pre ++ recB r) := by
            show _ = _
            rw [hsn, hpre, List.append_assoc]
          obtain ⟨ks, vs⟩ := r
          simp only at hk hv hs1 hs2
          have HPA := Lib.hid hpa
          have HLE : Hid (j + 1 ≤ recs.length) := by show _ ≤ _; rw [HLR.out]; exact hlt
          clear hcell hrj hmem hsn hta hpre hpa
          have l1 := BatMath.text_len (s := bl ks) (by rw [bl_len]; omega)
          have l2 := BatMath.text_len (s := bl vs) (by rw [bl_len]; omega)
          rw [bl_len] at l1 l2
          obtain ⟨n1, hn1⟩ : ∃ n1, n1 = (textB (bl ks)).length := ⟨_, rfl⟩
          obtain ⟨n2, hn2⟩ : ∃ n2, n2 = (textB (bl vs)).length := ⟨_, rfl⟩
          rw [← hn1] at l1
          rw [← hn2] at l2
          have HN1 : Hid ((pre ++ textB (bl ks)).length = m + n1) := by show _ = _; rw [List.length_append, HM.out, hn1]
          have HN2 : Hid (((pre ++ textB (bl ks)) ++ textB (bl vs)).length = m + n1 + n2) := by show _ = _; rw [List.length_append, HN1.out, hn2]
          have HA1 : Hid (AllB (pre ++ textB (bl ks))) := all_app HPA.out (text_all (bl_all _) (by rw [bl_len]; omega))
          clear hn1 hn2
          obtain ⟨wx, hwx⟩ : ∃ wx, wx = wr.alloc (.cells #[.string ks, .string vs] 48) := ⟨_, rfl⟩
          have hd0 : wx.cell? ⟨wr.heap.size, 0, none⟩ = some (.string ks) := by rw [hwx, World.cell?, heap_alloc_new]; rfl
          have hd1 : wx.cell? ⟨wr.heap.size, 1, none⟩ = some (.string vs) := by rw [hwx, World.cell?, heap_alloc_new]; rfl
          have HWX := Lib.hid hwx
          have HBX : Hid (Below W0.heap.size W0 wx) := by show Below _ _ _; rw [hwx]; exact HBEL.out.alloc HBEL.out.size _
          have CT : Hid (∀ W, Below wx.heap.size wx W → Calls Try.prog 66 #[.slice (some ⟨g, 0, none⟩) m c, .string ks] W (GivesRow W (pre ++ textB (bl ks)))) := by
            intro W hW
            have hown : wx.ownsRow W0.heap.size 5 1 (.slice (some ⟨g, 0, none⟩) m c) m (vals pre) := by rw [HWX.out]; exact HOWN.out.alloc _
            exact refText_any W _ m c _ ks ((owns_row hown HPA.out).keep hW (Nat.le_refl _)) (by omega)
          clear hwx
          go_upto_region 10 with fail
          rw [← HWX.out]
          go_region_held3 (fun W => Below wx.heap.size wx W ∧ W.cell? ⟨wr.heap.size, 0, none⟩ = some (.string ks) ∧ W.cell? ⟨wr.heap.size, 1, none⟩ = some (.string vs)) (first | exact keep_two hb6.out hd0 hd1 | exact keep_two hb5.out hd0 hd1 | exact keep_two ((Below.refl _ wx).drew) hd0 hd1) (first | (go_at_call 66; refine (refText_any _ _ _ _ _ vs (owns_row ho5.out HA1.out) (by omega)).mono ?_; rintro e w6 hg; obtain ⟨g6, k6, rfl, ho6, hb6, hbb6⟩ := gives_on (w := wx) (n := m + n1 + n2) hg hb5.out HN2.out) | (go_at_call 66; refine (CT.out _ ?_).mono ?_; exact (And.left ‹Below wx.heap.size wx _ ∧ _›); rintro e w5 hg; obtain ⟨g5, k5, rfl, ho5, hb5, hbb5⟩ := gives_on (w := wx) (n := m + n1) hg (And.left ‹Below wx.heap.size wx _ ∧ _›) HN1.out))
          go_wp2
          go_roundw
          case rel => exact ⟨j + 1, _, _, _, HLE.out, by go_num, rfl, by rw [HSN.out, recB, ← List.append_assoc]; exact HN2.out, by rw [HSN.out, recB, ← List.append_assoc]; exact owns_low ho6.out HBX.out.size, HBX.out.trans (hb6.out.mono HBX.out.size)⟩
          case measure => simp [intOf]; omega
        · obtain rfl : j = len := by omega
          have hrl : recs.take j = recs := by rw [List.take_of_length_le (by rw [HLR.out]; exact Nat.le_refl _)]
          rw [hrl] at HM HOWN
          have HBA : Hid (AllB (fr ++ recsB recs)) := all_app HFA.out (recs_all fun x hx => by have := HT.out x hx; omega)
          have HBB : Hid (bodyB ⟨base, prod, epoch, seq, txn, marker, recs⟩ = fr ++ recsB recs) := HFR2
          clear hlt hrl
          go_wp2_with fail
          refine (sealed_any wr _ m c _ (owns_row HOWN.out HBA.out).1 (fun h => by cases h) (by omega)).mono ?_
          rintro e w7 ⟨v7, rfl, g7, k7, rfl, hk7, hg7, hp7, hb7⟩
          obtain ⟨N, hN⟩ : ∃ N, N = (sealB (fr ++ recsB recs)).length := ⟨_, rfl⟩
          have hN4 : N = m + 4 := by rw [hN, CrcMath.length_sealB, HM.out]
          rw [← hN] at hk7 ⊢
          have HX7 := Lib.hid (HX.out.on (HBEL.out.trans (hb7.mono HBEL.out.size)))
          have HY7 := Lib.hid (hp7.byt (CrcMath.sealB_all HBA.out) k7 (by rw [← hN]; exact hk7))
          rw [← hN] at HY7
          have HB7 : Hid (Below W0.heap.size W0 w7) := HBEL.out.trans (hb7.mono HBEL.out.size)
          have HNN := Lib.hid hN
          have hN1 : N ≤ 2392 := by omega
          clear hp7 hN hN4 hb7
          have hc0 := HX7.out.c0
          go_wp2_with fail
          refine (refLong_any w7 none 0 0 [] base ⟨Byt.nil w7, fun _ => rfl⟩ (by omega) (by omega) (by omega)).mono ?_
          rintro e w8 hg
          obtain ⟨g8, k8, rfl, ho8, hb8, hbb8⟩ := gives_on (w := w7) hg (Below.refl _ _) (n := 8) (by simp [length_longB])
          clear hg hc0
          obtain ⟨B3, hB3⟩ : ∃ B, B = N / 16777216 := ⟨_, rfl⟩
          obtain ⟨B2, hB2⟩ : ∃ B, B = N / 65536 := ⟨_, rfl⟩
          obtain ⟨B1, hB1⟩ : ∃ B, B = N / 256 := ⟨_, rfl⟩
          obtain ⟨B0, hB0⟩ : ∃ B, B = N % 256 := ⟨_, rfl⟩
          have hv3 : (N : Int) / 16777216 = (B3 : Int) := by omega
          have hv2 : (N : Int) / 65536 = (B2 : Int) := by omega
          have hv1 : (N : Int) / 256 = (B1 : Int) := by omega
          have hv0 : (N : Int) % 256 = (B0 : Int) := by omega
          have HBE : Hid (VarMath.beB 4 N = [B3, B2, B1, B0]) := by
            show _ = _
            simp only [VarMath.beB]
            have p3 : N / 256 ^ 3 % 256 = B3 := by rw [hB3]; simp only [Nat.reducePow]; omega
            have p2 : N / 256 ^ 2 % 256 = B2 := by rw [hB2]; simp only [Nat.reducePow]; omega
            have p1 : N / 256 ^ 1 % 256 = B1 := by rw [hB1]; simp only [Nat.reducePow]; omega
            have p0 : N / 256 ^ 0 % 256 = B0 := by rw [hB0]; simp only [Nat.reducePow]; omega
            rw [p3, p2, p1, p0]
          have HBL : Hid (AllB [B3, B2, B1, B0]) := all_cons (by omega) (all_cons (by omega) (all_cons (by omega) (all_cons (by omega) all_nil)))
          have HROW8 := Lib.hid (row_lit w8 #[.int .u8 (B3 : Int), .int .u8 (B2 : Int), .int .u8 (B1 : Int), .int .u8 (B0 : Int)] [B3, B2, B1, B0] w8.heap.size 4 rfl rfl HBL.out rfl)
          have HY8 := Lib.hid (HY7.out.keep (hbb8.out.alloc hbb8.out.size (.cells #[.int .u8 (B3 : Int), .int .u8 (B2 : Int), .int .u8 (B1 : Int), .int .u8 (B0 : Int)] 5)) (Nat.le_refl _))
          clear hB3 hB2 hB1 hB0
          go_wp2_with (at_builtin; refine append_row rfl (.tmp 63) (.tmp 75) rfl w7.heap.size 8 ([] ++ longB base) [B3, B2, B1, B0] _ rfl (ho8.out.alloc _) (some_ne _ _ _) (hbb8.out.alloc hbb8.out.size _).size _ _ _ rfl HROW8.out (by omega) w7 (hbb8.out.alloc hbb8.out.size _) ?_)
          intro g9 c9 w9 ho9 hb9
          have HO9 := Lib.hid ho9
          have HY9 := Lib.hid (HY7.out.keep hb9 (Nat.le_refl _))
          have HB9 := Lib.hid hb9
          clear ho9 hb9 hv3 hv2 hv1 hv0
          go_wp2_with (at_builtin; refine append_row rfl (.tmp 77) (.tmp 78) rfl w7.heap.size 12 (longB base ++ [B3, B2, B1, B0]) (sealB (fr ++ recsB recs)) _ rfl HO9.out (some_ne _ _ _) HB9.out.size _ _ _ rfl ⟨HY9.out, fun h => by cases h⟩ (by omega) w7 HB9.out ?_)
          intro g10 c10 w10 ho10 hb10
          have HFIN : Hid (longB base ++ [B3, B2, B1, B0] ++ sealB (fr ++ recsB recs) = bytesB ⟨base, prod, epoch, seq, txn, marker, recs⟩) := by
            show _ = _
            rw [HBY.out, HBB.out, ← HNN.out, HBE.out]
            simp
          have hlen : (bytesB ⟨base, prod, epoch, seq, txn, marker, recs⟩).length = 12 + N := by
            rw [← HFIN.out]
            simp only [List.length_append, length_longB, List.length_nil, List.length_cons, ← HNN.out]
          have hfe : w10.ownsRow w7.heap.size 5 1 (.slice (some ⟨g10, 0, none⟩) (12 + N) c10) (12 + N) (vals (bytesB ⟨base, prod, epoch, seq, txn, marker, recs⟩)) := by
            rw [← HFIN.out]
            simpa using ho10
          have HO10 := Lib.hid (owns_low hfe HB7.out.size)
          clear hfe
          have HB10 := Lib.hid (HB7.out.trans (hb10.mono HB7.out.size))
          have HLEN := Lib.hid hlen
          clear ho10 hb10 hlen
          go_wp2
          go_ret
          exact gives_row HLEN.out (owns_low HO10.out HB.out.size) (HB.out.trans (HB10.out.mono HB.out.size))
end Go.Proofs.Ytinilkkpocnnpaa
namespace Go.Proofs.Ytinilkkpocnnpaa
open Go.RowKit
open Go.SeqMath
open Go.BatMath hiding AllB getD_lt take_all
set_option linter.unusedVariables false

theorem refRight_any (w : World) (b : Bat) (ad : Option Addr) (len cap : Nat) (hr : RecsAt w ad len cap b.recs) (ht : TextsOk b.recs) (hL : len ≤ 140737488355328) (hp : b.prod ≤ 9223372036854775807) :
    Calls Try.prog 31 #[.agg #[.int .i64 b.base, .int .i64 b.prod, .int .i64 b.epoch, .int .i64 b.seq, .bool b.txn, .int .i64 b.marker, .slice ad len cap]] w (Says (rightE b) w) := by
  obtain rfl := hr.length
  have CP : Hid (∀ W, Below w.heap.size w W → Calls Try.prog 49 #[.agg #[.int .i64 b.base, .int .i64 b.prod, .int .i64 b.epoch, .int .i64 b.seq, .bool b.txn, .int .i64 b.marker, .slice ad b.recs.length cap]] W (Says (rightE b) W)) := fun W hW => plain_any W b ad cap (hr.keep hW) ht hL
  obtain ⟨ev, hev⟩ : ∃ ev, ev = rightE b := ⟨_, rfl⟩
  rw [← hev] at CP ⊢
  have CW : Hid (ev = 0 → ∀ W, Below w.heap.size w W → Calls Try.prog 50 #[.agg #[.int .i64 b.base, .int .i64 b.prod, .int .i64 b.epoch, .int .i64 b.seq, .bool b.txn, .int .i64 b.marker, .slice ad b.recs.length cap]] W (GivesRow W (bytesB b))) := by
    intro h W hW
    exact write_any W b ad _ cap (hr.keep hW) (ok_of (by rw [← hev, h])) hp
  have HLE : Hid (ev = 0 → (bytesB b).length ≤ 4096) := by
    intro h
    have := (ok_len (ok_of (b := b) (by rw [← hev, h]))).1
    omega
  clear hev hr ht hp
  obtain ⟨base, prod, epoch, seq, txn, marker, recs⟩ := b
  simp only at CP CW hL ⊢
  obtain ⟨len, hlen⟩ : ∃ len, len = recs.length := ⟨_, rfl⟩
  rw [← hlen] at CP CW hL ⊢
  clear hlen
  obtain ⟨W0, hW0⟩ : ∃ W0, W0 = (w.alloc (.cells #[.int .i64 base, .int .i64 prod, .int .i64 epoch, .int .i64 seq, .bool txn, .int .i64 marker, .slice ad len cap] 33)) := ⟨_, rfl⟩
  have hs0 : W0.heap.size = w.heap.size + 1 := by rw [hW0]; simp
  have HX := Lib.hid (show BoxAt W0 w.heap.size base prod epoch seq txn marker (.slice ad len cap) by rw [hW0]; exact boxAt_new w _ _ _ _ _ _ _)
  have HB := Lib.hid (show Below w.heap.size w W0 by rw [hW0]; exact (Below.refl _ _).alloc (Nat.le_refl _) _)
  have HW0 := Lib.hid hW0
  clear hW0
  go_enter Try.func31, Try.ntmps31
  go_wp2_with fail
  rw [← HW0.out]
  refine (CP.out W0 HB.out).mono ?_
  rintro e w1 ⟨rfl, hb⟩
  have HX1 := Lib.hid (HX.out.on hb)
  have HB1 := Lib.hid (HB.out.trans (hb.mono HB.out.size))
  clear hb
  by_cases h0 : ev = 0
  · have h1 : (ev != 0) = false := by simpa using h0
    have H0 := Lib.hid h0
    clear h0
    have hc0 := HX1.out.c0
    have hc1 := HX1.out.c1
    have hc2 := HX1.out.c2
    have hc3 := HX1.out.c3
    have hc4 := HX1.out.c4
    have hc5 := HX1.out.c5
    have hc6 := HX1.out.c6
    obtain ⟨n, hn⟩ : ∃ n, (bytesB ⟨base, prod, epoch, seq, txn, marker, recs⟩).length = n := ⟨_, rfl⟩
    have hn4 : n ≤ 4096 := by rw [← hn]; exact HLE.out H0.out
    have HN := Lib.hid hn
    clear hn
    go_wp2_with fail
    refine (CW.out H0.out w1 HB1.out).mono ?_
    rintro e w2 hg
    obtain ⟨g, c, rfl, ho, hb, hbb⟩ := gives_on hg HB1.out HN.out
    clear hg hc0 hc1 hc2 hc3 hc4 hc5 hc6
    go_wp2
    go_ret
    exact says_mk H0.out.symm hb.out
  · have h1 : (ev != 0) = true := by simpa using h0
    go_wp2
    go_ret
    exact says_mk rfl HB1.out
/-- What Bytes gives: the bytes and no error, or none and the error. -/
def GivesBytes (w : World) (ev : Int) (L : List Nat) (e : Ending) (w' : World) : Prop :=
  (ev = 0 ∧ ∃ g c, e = .returned (.tuple #[.slice (some ⟨g, 0, none⟩) L.length c, .int .i64 0]) ∧ w'.ownsRow w.heap.size 5 1 (.slice (some ⟨g, 0, none⟩) L.length c) L.length (vals L) ∧ Below w.heap.size w w') ∨
  (ev ≠ 0 ∧ e = .returned (.tuple #[.slice none 0 0, .int .i64 ev]) ∧ Below w.heap.size w w')
theorem gives_bytes {w w' : World} {ev : Int} {L : List Nat} {g c : Nat} (h : ev = 0) (h1 : w'.ownsRow w.heap.size 5 1 (.slice (some ⟨g, 0, none⟩) L.length c) L.length (vals L)) (h2 : Below w.heap.size w w') : GivesBytes w ev L (.returned (.tuple #[.slice (some ⟨g, 0, none⟩) L.length c, .int .i64 0])) w' := .inl ⟨h, g, c, rfl, h1, h2⟩
theorem gives_none {w w' : World} {ev : Int} {L : List Nat} (h : ev ≠ 0) (h2 : Below w.heap.size w w') : GivesBytes w ev L (.returned (.tuple #[.slice none 0 0, .int .i64 ev])) w' := .inr ⟨h, rfl, h2⟩
theorem refBytes_any (w : World) (b : Bat) (ad : Option Addr) (len cap : Nat) (hr : RecsAt w ad len cap b.recs) (ht : TextsOk b.recs) (hL : len ≤ 140737488355328) (hp : b.prod ≤ 9223372036854775807) :
    Calls Try.prog 63 #[.agg #[.int .i64 b.base, .int .i64 b.prod, .int .i64 b.epoch, .int .i64 b.seq, .bool b.txn, .int .i64 b.marker, .slice ad len cap]] w (GivesBytes w (rightE b) (bytesB b)) := by
  have CP : Hid (∀ W, Below w.heap.size w W → Calls Try.prog 31 #[.agg #[.int .i64 b.base, .int .i64 b.prod, .int .i64 b.epoch, .int .i64 b.seq, .bool b.txn, .int .i64 b.marker, .slice ad len cap]] W (Says (rightE b) W)) := fun W hW => refRight_any W b ad len cap (hr.keep hW) ht hL hp
  have CW : Hid (rightE b = 0 → ∀ W, Below w.heap.size w W → Calls Try.prog 50 #[.agg #[.int .i64 b.base, .int .i64 b.prod, .int .i64 b.epoch, .int .i64 b.seq, .bool b.txn, .int .i64 b.marker, .slice ad len cap]] W (GivesRow W (bytesB b))) :=
    fun h W hW => write_any W b ad len cap (hr.keep hW) (ok_of h) hp
  obtain ⟨ev, hev⟩ : ∃ ev, ev = rightE b := ⟨_, rfl⟩
  rw [← hev] at CP CW ⊢
  obtain ⟨L, hLL⟩ : ∃ L, L = bytesB b := ⟨_, rfl⟩
  rw [← hLL] at CW ⊢
  clear hev hr ht hp hLL hL
  obtain ⟨base, prod, epoch, seq, txn, marker, recs⟩ := b
  simp only at CP CW ⊢
  obtain ⟨W0, hW0⟩ : ∃ W0, W0 = (w.alloc (.cells #[.int .i64 base, .int .i64 prod, .int .i64 epoch, .int .i64 seq, .bool txn, .int .i64 marker, .slice ad len cap] 33)) := ⟨_, rfl⟩
  have hs0 : W0.heap.size = w.heap.size + 1 := by rw [hW0]; simp
  have HX := Lib.hid (show BoxAt W0 w.heap.size base prod epoch seq txn marker (.slice ad len cap) by rw [hW0]; exact boxAt_new w _ _ _ _ _ _ _)
  have HB := Lib.hid (show Below w.heap.size w W0 by rw [hW0]; exact (Below.refl _ _).alloc (Nat.le_refl _) _)
  have HW0 := Lib.hid hW0
  clear hW0
  go_enter Try.func63, Try.ntmps63
  go_wp2_with fail
  rw [← HW0.out]
  refine (CP.out W0 HB.out).mono ?_
  rintro e w1 ⟨rfl, hb⟩
  have HX1 := Lib.hid (HX.out.on hb)
  have HB1 := Lib.hid (HB.out.trans (hb.mono HB.out.size))
  clear hb
  by_cases h0 : ev = 0
  · have h1 : (ev != 0) = false := by simpa using h0
    have H0 := Lib.hid h0
    clear h0
    have hc0 := HX1.out.c0
    have hc1 := HX1.out.c1
    have hc2 := HX1.out.c2
    have hc3 := HX1.out.c3
    have hc4 := HX1.out.c4
    have hc5 := HX1.out.c5
    have hc6 := HX1.out.c6
    go_wp2_with fail
    refine (CW.out H0.out w1 HB1.out).mono ?_
    rintro e w2 hg
    obtain ⟨g, c, rfl, ho, hb, hbb⟩ := gives_on hg HB1.out rfl
    clear hg hc0 hc1 hc2 hc3 hc4 hc5 hc6
    go_wp2
    go_ret2
    exact gives_bytes H0.out ho.out hb.out
  · have h1 : (ev != 0) = true := by simpa using h0
    have H0 := Lib.hid h0
    clear h0
    go_wp2
    go_ret2
    exact gives_none H0.out HB1.out
theorem refSize_any (w : World) (b : Bat) (ad : Option Addr) (len cap : Nat) (hr : RecsAt w ad len cap b.recs) (ht : TextsOk b.recs) (hL : len ≤ 140737488355328) (hp : b.prod ≤ 9223372036854775807) :
    Calls Try.prog 48 #[.agg #[.int .i64 b.base, .int .i64 b.prod, .int .i64 b.epoch, .int .i64 b.seq, .bool b.txn, .int .i64 b.marker, .slice ad len cap]] w (Says (sizeB b) w) := by
  have CP : Hid (∀ W, Below w.heap.size w W → Calls Try.prog 63 #[.agg #[.int .i64 b.base, .int .i64 b.prod, .int .i64 b.epoch, .int .i64 b.seq, .bool b.txn, .int .i64 b.marker, .slice ad len cap]] W (GivesBytes W (rightE b) (bytesB b))) := fun W hW => refBytes_any W b ad len cap (hr.keep hW) ht hL hp
  have HY : Hid (rightE b = 0 → ((bytesB b).length : Int) = sizeB b) := fun h => by unfold sizeB; rw [if_pos h]
  have HN : Hid (rightE b ≠ 0 → 0 = sizeB b) := fun h => by unfold sizeB; rw [if_neg h]
  obtain ⟨P, hP⟩ : ∃ P, P = sizeB b := ⟨_, rfl⟩
  rw [← hP] at HY HN ⊢
  obtain ⟨ev, hev⟩ : ∃ ev, ev = rightE b := ⟨_, rfl⟩
  rw [← hev] at HY HN CP
  obtain ⟨L, hLL⟩ : ∃ L, L = bytesB b := ⟨_, rfl⟩
  rw [← hLL] at HY CP
  clear hev hP hr ht hp hLL hL
  obtain ⟨base, prod, epoch, seq, txn, marker, recs⟩ := b
  simp only at CP ⊢
  go_enter Try.func48, Try.ntmps48
  go_wp2_with fail
  refine (CP.out _ ((Below.refl _ _).alloc (Nat.le_refl _) _)).mono ?_
  rintro e w1 hg
  rcases hg with ⟨h, g, c, rfl, _, hb⟩ | ⟨h, rfl, hb⟩
  · have H := Lib.hid h
    have HB := Lib.hid (((Below.refl w.heap.size w).alloc (Nat.le_refl _) _).trans (hb.mono (by simp)))
    clear h hb
    go_wp2
    go_ret
    exact says_mk (HY.out H.out) HB.out
  · have H := Lib.hid h
    have HB := Lib.hid (((Below.refl w.heap.size w).alloc (Nat.le_refl _) _).trans (hb.mono (by simp)))
    clear h hb
    go_wp2
    go_ret
    exact says_mk (HN.out H.out) HB.out
theorem refCount_any (w : World) (b0 b1 b2 b3 : Int) (b4 : Bool) (b5 : Int) (ad : Option Addr) (len cap : Nat) (n : Int) (hn : (if b5 ≠ 0 then 1 else (len : Int)) = n) :
    Calls Try.prog 41 #[.agg #[.int .i64 b0, .int .i64 b1, .int .i64 b2, .int .i64 b3, .bool b4, .int .i64 b5, .slice ad len cap]] w (Says n w) := by
  by_cases h : b5 = 0
  · subst h
    obtain rfl : (len : Int) = n := by rw [← hn, if_neg (by decide)]
    clear hn
    go_enter Try.func41, Try.ntmps41
    go_wp2
    go_ret
    exact says_mk rfl ((Below.refl _ _).alloc (Nat.le_refl _) _)
  · have h1 : (b5 != 0) = true := by simpa using h
    obtain rfl : 1 = n := by rw [← hn, if_pos h]
    clear hn
    go_enter Try.func41, Try.ntmps41
    go_wp2
    go_ret
    exact says_mk rfl ((Below.refl _ _).alloc (Nat.le_refl _) _)
end Go.Proofs.Ytinilkkpocnnpaa
/-! The code's own batch, chapter 6: offset, unowned, owned, rightMarker, rightData: which errors a batch has. -/
namespace Go.Proofs.Ytinilkkpocnnpaa
open Go.RowKit
open Go.SeqMath
open Go.BatMath
set_option linter.unusedVariables false

end Go.Proofs.Ytinilkkpocnnpaa

/-! The code's own batch, chapter 6: rightData: which errors data have. -/
namespace Go.Proofs.Ytinilkkpocnnpaa
open Go.RowKit
open Go.SeqMath
open Go.BatMath
set_option linter.unusedVariables false

end Go.Proofs.Ytinilkkpocnnpaa

/-! The code's own batch, chapter 6: split, record, length, kind, Count. -/
namespace Go.Proofs.Ytinilkkpocnnpaa
open Go.RowKit
open Go.SeqMath
open Go.BatMath hiding AllB getD_lt take_all
open Go.VarMath (longB length_longB textB beB length_beB beB_take)
set_option linter.unusedVariables false

/-- What stands before round i of split's loop. -/
def SplitAt (w : World) (K u i : Nat) (wr : World) : Prop := Own wr w.heap.size ((beB K u).take i ++ List.replicate (K - i) 0) ∧ Below w.heap.size w wr
theorem SplitAt.free {w wr : World} {K u i : Nat} (h : SplitAt w K u i wr) (j : Nat) : wr.frozen? ⟨w.heap.size, j, none⟩ = false := h.1.free j
theorem SplitAt.cell {w wr : World} {K u i : Nat} (h : SplitAt w K u i wr) (hi : i < K) : ∃ x, wr.cell? ⟨w.heap.size, i, none⟩ = some x := ⟨_, h.1.cell i (by simp [length_beB]; omega)⟩
theorem SplitAt.next {w wr : World} {K u i z : Nat} (h : SplitAt w K u i wr) (hi : i < K) (hz : z = u / 256 ^ (K - 1 - i) % 256) : SplitAt w K u (i + 1) (wr.setCell ⟨w.heap.size, i, none⟩ (.int .u8 (z : Int))) := by
  refine ⟨?_, h.2.setCell (Nat.le_refl _) _⟩
  have hs := h.1.set i z
  have e : ((beB K u).take i ++ List.replicate (K - i) 0).set i z = (beB K u).take (i + 1) ++ List.replicate (K - (i + 1)) 0 := by
    rw [beB_take i K u hi, ← hz]
    have hl : ((beB K u).take i).length = i := by rw [List.length_take, length_beB]; omega
    obtain ⟨m, hm⟩ : ∃ m, K - i = m + 1 := ⟨K - i - 1, by omega⟩
    rw [hm, show K - (i + 1) = m by omega, List.set_append_right _ _ (by omega), hl, Nat.sub_self, List.replicate_succ, List.set_cons_zero, List.append_assoc]
    rfl
  rw [e] at hs
  exact hs
theorem batCount_any (w : World) (b0 b1 b2 b3 : Int) (b4 : Bool) (b5 : Int) (ad : Option Addr) (len cap : Nat) (n : Int) (hn : (if b5 ≠ 0 then 1 else (len : Int)) = n) :
    Calls Try.prog 55 #[.agg #[.int .i64 b0, .int .i64 b1, .int .i64 b2, .int .i64 b3, .bool b4, .int .i64 b5, .slice ad len cap]] w (Says n w) := by
  by_cases h : b5 = 0
  · subst h
    obtain rfl : (len : Int) = n := by rw [← hn, if_neg (by decide)]
    clear hn
    go_enter Try.func55, Try.ntmps55
    go_wp2
    go_ret
    exact says_mk rfl ((Below.refl _ _).alloc (Nat.le_refl _) _)
  · have h1 : (b5 != 0) = true := by simpa using h
    obtain rfl : 1 = n := by rw [← hn, if_pos h]
    clear hn
    go_enter Try.func55, Try.ntmps55
    go_wp2
    go_ret
    exact says_mk rfl ((Below.refl _ _).alloc (Nat.le_refl _) _)
end Go.Proofs.Ytinilkkpocnnpaa

/-! The code's own batch, chapter 6: Right, Size. -/
namespace Go.Proofs.Ytinilkkpocnnpaa
open Go.RowKit
open Go.SeqMath
open Go.BatMath hiding AllB getD_lt take_all
set_option linter.unusedVariables false

end Go.Proofs.Ytinilkkpocnnpaa

/-! The code's own batch, chapter 6: body: what stands under the sum of a batch that is right. -/
namespace Go.Proofs.Ytinilkkpocnnpaa
open Go.RowKit
open Go.SeqMath
open Go.BatMath hiding AllB getD_lt take_all
open Go.VarMath (longB length_longB textB beB length_beB)
set_option linter.unusedVariables false

end Go.Proofs.Ytinilkkpocnnpaa

/-! The code's own batch, chapter 6: Bytes. -/
namespace Go.Proofs.Ytinilkkpocnnpaa
open Go.RowKit
open Go.SeqMath
open Go.BatMath hiding AllB getD_lt take_all
open Go.VarMath (longB length_longB textB beB length_beB)
open Go.CrcMath (sealB)
set_option linter.unusedVariables false

end Go.Proofs.Ytinilkkpocnnpaa

/-! The code's own batch, chapter 6: Same. -/
namespace Go.Proofs.Ytinilkkpocnnpaa
open Go.RowKit
open Go.SeqMath
open Go.BatMath
set_option linter.unusedVariables false

end Go.Proofs.Ytinilkkpocnnpaa
namespace Go.Proofs.Ytinilkkpocnnpaa
open Go.RowKit
set_option linter.unusedVariables false

/-- 'Within' from 0 on gives a place up to the last one. -/
theorem within_in (n hi : Int) (w : World) (h0 : 0 ≤ n) (h1 : n ≤ hi) : Calls Try.prog 16 #[.int .i64 n, .int .i64 0, .int .i64 hi] w fun e w' => e = .returned (.int .i64 n) ∧ w = w' := by
  go_enter Try.func16, Try.ntmps16
  go_wp2
  go_ret
  exact ⟨rfl, rfl⟩
theorem as_nat {X hi : Int} {w : World} (h0 : 0 ≤ X) (h1 : X ≤ hi) : ∃ k : Nat, Ending.returned (.int .i64 X) = .returned (.int .i64 k) ∧ (k : Int) ≤ hi ∧ w = w :=
  ⟨X.toNat, by rw [Int.toNat_of_nonneg h0], by omega, rfl⟩
theorem within_any (n hi : Int) (w : World) (hn : -9223372036854775808 ≤ n ∧ n ≤ 9223372036854775807) (hh : 0 ≤ hi ∧ hi ≤ 281474976710656) :
    Calls Try.prog 16 #[.int .i64 n, .int .i64 0, .int .i64 hi] w fun e w' => ∃ k : Nat, e = .returned (.int .i64 k) ∧ (k : Int) ≤ hi ∧ w = w' := by
  by_cases h : 0 ≤ n ∧ n ≤ hi
  · refine (within_in n hi w h.1 h.2).mono ?_
    rintro e w' ⟨rfl, rfl⟩
    exact ⟨n.toNat, by rw [Int.toNat_of_nonneg h.1], by omega, rfl⟩
  · have hg : (decide (0 ≤ n) && decide (n ≤ hi)) = false := by
      simp only [Bool.and_eq_false_iff, decide_eq_false_iff_not]; omega
    have m1 : n.tmod (hi + 1) < hi + 1 := Int.tmod_lt_of_pos _ (by omega)
    have m2 : -(hi + 1) < n.tmod (hi + 1) := by
      have := Int.tmod_lt_of_pos (-n) (b := hi + 1) (by omega)
      rw [Int.neg_tmod] at this
      omega
    have m3 : n % (hi + 1) < hi + 1 := Int.emod_lt_of_pos _ (by omega)
    have m4 : 0 ≤ n % (hi + 1) := Int.emod_nonneg _ (by omega)
    go_enter Try.func16, Try.ntmps16
    go_wp2
    all_goals
      go_ret
      exact as_nat (by omega) (by omega)
end Go.Proofs.Ytinilkkpocnnpaa
namespace Go.Proofs.Ytinilkkpocnnpaa
open Go.RowKit
open Go.BatMath hiding AllB getD_lt take_all
set_option linter.unusedVariables false

/-- Block kt is a tape that stands at its i-th number. -/
structure TapeAt (w : World) (kt : Nat) (ad : Option Addr) (len cap i : Nat) : Prop where
  blk : w.heap[kt]? = some (.cells #[.slice ad len cap, .int .i64 (i : Int)] 26 (0, 0))
  le : i ≤ len
  big : len ≤ 140737488355328
  nums : ∀ j, j < len → ∃ b off n, ad = some ⟨b, off, none⟩ ∧ b < kt ∧ w.cell? ⟨b, off + j, none⟩ = some (.int .i64 n) ∧ In64 n
section
variable {w w' w1 w2 : World} {kt len cap i : Nat} {ad : Option Addr}
theorem TapeAt.c0 (h : TapeAt w kt ad len cap i) : w.cell? ⟨kt, 0, none⟩ = some (.slice ad len cap) := by rw [cell_of_row _ _ 0 _ _ _ h.blk]; rfl
theorem TapeAt.c1 (h : TapeAt w kt ad len cap i) : w.cell? ⟨kt, 1, none⟩ = some (.int .i64 (i : Int)) := by rw [cell_of_row _ _ 1 _ _ _ h.blk]; rfl
theorem TapeAt.free (h : TapeAt w kt ad len cap i) (j : Nat) : w.frozen? ⟨kt, j, none⟩ = false := frozen_of_row w kt j _ _ h.blk
theorem TapeAt.lt (h : TapeAt w kt ad len cap i) : kt < w.heap.size := lt_of_block h.blk
theorem TapeAt.on (h : TapeAt w kt ad len cap i) (hb : Below w.heap.size w w') : TapeAt w' kt ad len cap i := by
  refine ⟨(hb.block kt h.lt).trans h.blk, h.le, h.big, fun j hj => ?_⟩
  obtain ⟨b, off, n, e, hne, hc, hn⟩ := h.nums j hj
  exact ⟨b, off, n, e, hne, (hb.cell (World.block_lt_of_cell? _ _ hc)).trans hc, hn⟩
theorem TapeAt.drewN (h : TapeAt w kt ad len cap i) (n : Nat) : TapeAt (w.drewN n) kt ad len cap i := h.on (bel_drewN (Below.refl _ _) n)
theorem TapeAt.step (h : TapeAt w kt ad len cap i) (hi : i < len) (z : Int) (hz : z = ((i + 1 : Nat) : Int)) : TapeAt (w.setCell ⟨kt, 1, none⟩ (.int .i64 z)) kt ad len cap (i + 1) := by
  subst hz
  refine ⟨box_set h.blk 1 _, hi, h.big, fun j hj => ?_⟩
  obtain ⟨b, off, n, e, hne, hc, hn⟩ := h.nums j hj
  refine ⟨b, off, n, e, hne, ?_, hn⟩
  rw [World.cell?_of_block (a := ⟨b, off + j, none⟩) (w := w)]
  · exact hc
  · show (w.heap.modify kt _)[b]? = _
    rw [Array.getElem?_modify, if_neg (by omega)]
theorem TapeAt.grow {r : Option Nat} (h : TapeAt w kt ad len cap i) (hg : w.grownBy w' r) (hr : ∀ k, r = some k → kt < k) : TapeAt w' kt ad len cap i := by
  refine ⟨(hg.block kt h.lt (fun e => by have := hr kt e.symm; omega)).trans h.blk, h.le, h.big, fun j hj => ?_⟩
  obtain ⟨b, off, n, e, hne, hc, hn⟩ := h.nums j hj
  exact ⟨b, off, n, e, hne, hg.cell hc (fun e => by have := hr b e.symm; omega), hn⟩
theorem OwnRecs.tape {base : Nat} {v : Value} {l : List Rc} (h : OwnRecs w base v l) (hg : w.grownBy w' (some kt)) (hk : kt < base) : OwnRecs w' base v l := by
  refine ⟨h.1, ?_⟩
  rcases h.2 with hn | ⟨g, cap, cur, rfl, hbg, hh, r⟩
  · exact .inl hn
  · exact .inr ⟨g, cap, cur, rfl, hbg, (hg.block g (lt_of_block hh) (fun e => by have := Option.some.inj e; omega)).trans hh, r⟩
theorem RecsAt.tape {cap2 : Nat} {a : Option Addr} {l : List Rc} {n : Nat} (h : RecsAt w a n cap2 l) (hg : w.grownBy w' (some kt)) (hk : ∀ x, a = some x → x.block ≠ kt) : RecsAt w' a n cap2 l := by
  refine ⟨h.length, h.fits, h.room, ?_⟩
  rcases h.cells with h0 | ⟨b, off, e, hlt, hc⟩
  · exact .inl h0
  · refine .inr ⟨b, off, e, Nat.lt_of_lt_of_le hlt hg.size, fun i r hi => ?_⟩
    have hne : b ≠ kt := hk _ e
    obtain ⟨c1, c2⟩ := hc i r hi
    exact ⟨hg.cell c1 (fun e => hne (Option.some.inj e)), hg.cell c2 (fun e => hne (Option.some.inj e))⟩
theorem BoxAt.tape {k : Nat} {b0 b1 b2 b3 : Int} {b4 : Bool} {b5 : Int} {v : Value} (h : BoxAt w k b0 b1 b2 b3 b4 b5 v) (hg : w.grownBy w' (some kt)) (hk : k ≠ kt) : BoxAt w' k b0 b1 b2 b3 b4 b5 v := by
  unfold BoxAt at *
  rw [hg.block k (lt_of_block h) (fun e => hk (Option.some.inj e))]
  exact h
end
/-- A number of 0 to n - 1. -/
def GivesNext (w : World) (kt : Nat) (ad : Option Addr) (len cap : Nat) (n : Int) (e : Ending) (w' : World) : Prop :=
  ∃ (v : Int) (i : Nat), e = .returned (.int .i64 v) ∧ 0 ≤ v ∧ v < n ∧ TapeAt w' kt ad len cap i ∧ w.grownBy w' (some kt)
theorem gives_next {w w' : World} {kt : Nat} {ad : Option Addr} {len cap i : Nat} {n v : Int} (h0 : 0 ≤ v) (h1 : v < n) (ht : TapeAt w' kt ad len cap i) (hg : w.grownBy w' (some kt)) : GivesNext w kt ad len cap n (.returned (.int .i64 v)) w' := ⟨v, i, rfl, h0, h1, ht, hg⟩
set_option maxRecDepth 100000 in
set_option maxHeartbeats 2000000 in
theorem tapeNext_any (w : World) (kt : Nat) (ad : Option Addr) (len cap i : Nat) (n : Int) (h : TapeAt w kt ad len cap i) (n0 : 1 ≤ n) (n1 : n ≤ 1073741824) :
    Calls Try.prog 21 #[.pointer (some ⟨kt, 0, none⟩), .int .i64 n] w (GivesNext w kt ad len cap n) := by
  have H := Lib.hid h
  have hc0 := h.c0
  have hc1 := h.c1
  have hf1 := h.free 1
  have hle := h.le
  have hbig := h.big
  have hn1 : ¬ n < 1 := by omega
  have hnd : decide (n < 1) = false := by simp; omega
  by_cases hi : i < len
  · obtain ⟨b, off, z, rfl, hne, hcell, hz⟩ := h.nums i hi
    have hblt : b < w.heap.size := World.block_lt_of_cell? _ _ hcell
    have hge : decide (len ≤ i) = false := by simp; omega
    have hge2 : decide ((len : Int) ≤ (i : Int)) = false := by simp; omega
    have HC := Lib.hid hcell
    clear h hcell
    go_enter Try.func21, Try.ntmps21
    go_wp2_with fail
    go_quiet (fail)
    go_upto_region 3 with fail
    go_cut [] from 5 (fun wx => Hid (TapeAt wx kt (some ⟨b, off, none⟩) len cap (i + 1)) ∧ Hid (w.grownBy wx (some kt)))
    case first =>
      go_wp2
      go_meet
      case rel => exact ⟨(H.out.drewN _).step hi _ (by omega), grow_set (grow_drewN (grow_refl _ _) _) 1 _⟩
    case rest =>
      obtain ⟨HT, HG⟩ := hcut
      clear hc0 hc1 hf1
      have hc0 := HT.out.c0
      have hc1 : wc.cell? ⟨kt, 1, none⟩ = some (.int .i64 ((i : Int) + 1)) := HT.out.c1
      have hcx : wc.cell? ⟨b, off + i, none⟩ = some (.int .i64 z) := (World.cell?_of_block (a := ⟨b, off + i, none⟩) (HG.out.block b hblt (fun e => by have := Option.some.inj e; omega))).trans HC.out
      have hw1 : IntKind.i64.wrap ((i : Int) + 1 - 1) = (i : Int) := by rw [IntKind.wrap_i64]; omega
      have hw2 : IntKind.i64.wrap (i : Int) = (i : Int) := by rw [IntKind.wrap_i64]; omega
      have hi2 : (i : Int) < (len : Int) := by omega
      have hnz : (n == 0) = false := by simp; omega
      have hnz2 : ¬ n = 0 := by omega
      go_wp2_with fail
      go_region_held3 (fun W => Below wc.heap.size wc W ∧ W.cell? ⟨kt, 0, none⟩ = some (.slice (some ⟨b, off, none⟩) len cap) ∧ W.cell? ⟨kt, 1, none⟩ = some (.int .i64 ((i : Int) + 1)) ∧ W.cell? ⟨b, off + i, none⟩ = some (.int .i64 z)) (first | exact ‹Below _ _ _ ∧ _› | exact ⟨(Below.refl _ _).drew, hc0, hc1, hcx⟩) (first | (go_at_call 16; refine (within_any z 1073741824 _ hz (by omega)).mono ?_; rintro e w' ⟨k, rfl, hk, rfl⟩))
      go_wp2
      go_ret
      have hv1 : (k : Int).tmod n < n := Int.tmod_lt_of_pos _ (by omega)
      have hv0 : 0 ≤ (k : Int).tmod n := Int.tmod_nonneg _ (by omega)
      exact gives_next hv0 hv1 (HT.out.on (Below.refl _ _).drew) (grow_below HG.out (Below.refl _ _).drew)
  · obtain rfl : i = len := by omega
    have hge : decide (i ≤ i) = true := by simp
    have hge2 : decide ((i : Int) ≤ (i : Int)) = true := by simp
    clear h
    go_enter Try.func21, Try.ntmps21
    go_wp2_with fail
    go_quiet (fail)
    go_wp2
    go_ret
    exact gives_next (by omega) (by omega) (H.out.drewN _) (grow_drewN (grow_refl _ _) _)
/-- A short text. -/
def GivesText (w : World) (kt : Nat) (ad : Option Addr) (len cap : Nat) (e : Ending) (w' : World) : Prop :=
  ∃ (s : ByteArray) (i : Nat), e = .returned (.string s) ∧ s.size ≤ 64 ∧ TapeAt w' kt ad len cap i ∧ w.grownBy w' (some kt)
def shorts : List ByteArray := [⟨#[]⟩, ⟨#[97]⟩, ⟨#[107, 101, 121]⟩, ⟨#[228, 184, 150]⟩, ⟨#[116, 119, 111, 32, 119, 111, 114, 100, 115]⟩, ⟨#[98, 255]⟩, ⟨#[107, 50]⟩, ⟨#[61]⟩, ⟨#[97, 10, 98]⟩]
theorem shorts_size : ∀ s ∈ shorts, s.size ≤ 64 := by decide
set_option maxRecDepth 100000 in
set_option maxHeartbeats 2000000 in
theorem tapeText_any (w : World) (kt : Nat) (ad : Option Addr) (len cap i : Nat) (h : TapeAt w kt ad len cap i) :
    Calls Try.prog 58 #[.pointer (some ⟨kt, 0, none⟩)] w (GivesText w kt ad len cap) := by
  have HT := Lib.hid (h.on ((Below.refl w.heap.size w).alloc (Nat.le_refl _) (.cells (shorts.map Value.string).toArray 9)))
  have hrow : (w.alloc (.cells (shorts.map Value.string).toArray 9)).heap[w.heap.size]? = some (.cells (shorts.map Value.string).toArray 9 (0, 0)) := heap_alloc_new w _
  have HR := Lib.hid hrow
  have hne : w.heap.size ≠ kt := by have := h.lt; omega
  clear h hrow
  go_enter Try.func58, Try.ntmps58
  go_wp2_with fail
  refine (tapeNext_any _ kt ad len cap i 9 HT.out (by omega) (by omega)).mono ?_
  rintro e w1 ⟨v, i1, rfl, v0, v1, ht1, hg1⟩
  obtain ⟨k, rfl⟩ : ∃ k : Nat, v = (k : Int) := ⟨v.toNat, by omega⟩
  have hk9 : k < 9 := by omega
  obtain ⟨s, hs⟩ : ∃ s, shorts[k]? = some s := ⟨_, List.getElem?_eq_getElem hk9⟩
  have hcell : w1.cell? ⟨w.heap.size, k, none⟩ = some (.string s) := by
    have hb := (hg1.block w.heap.size (lt_of_block HR.out) (fun e => hne (Option.some.inj e))).trans HR.out
    rw [cell_of_row _ _ _ _ _ _ hb]
    simp [hs]
  have HS : Hid (s.size ≤ 64) := shorts_size s (List.mem_of_getElem? hs)
  have HG : Hid (w.grownBy w1 (some kt)) := grow_trans (grow_alloc (grow_refl _ _) _) hg1
  have HT1 := Lib.hid ht1
  clear hs hg1 ht1
  go_wp2
  go_ret
  exact ⟨s, i1, rfl, HS.out, HT1.out, HG.out⟩
theorem int_eq {a b : Int} (h : a = b) : Value.int .i64 a = .int .i64 b := by rw [h]
/-- One to most records, short ones, in new memory. -/
def GivesRecs (w : World) (kt : Nat) (ad : Option Addr) (len cap : Nat) (most : Nat) (e : Ending) (w' : World) : Prop :=
  ∃ (l : List Rc) (v : Value) (i : Nat), e = .returned v ∧ OwnRecs w' w.heap.size v l ∧ 1 ≤ l.length ∧ l.length ≤ most ∧ (∀ r ∈ l, r.key.size ≤ 64 ∧ r.val.size ≤ 64) ∧ TapeAt w' kt ad len cap i ∧ w.grownBy w' (some kt)
/-- What stands before a round: so many are left. -/
def RecsLoop (w : World) (kt : Nat) (ad : Option Addr) (len cap : Nat) (n : Nat) (v5 v6 : Value) (wr : World) : Prop :=
  ∃ (l : List Rc) (j i : Nat) (u : Value), u = v5 ∧ v6 = .int .i64 j ∧ l.length + j = n ∧ OwnRecs wr w.heap.size u l ∧ (∀ r ∈ l, r.key.size ≤ 64 ∧ r.val.size ≤ 64) ∧ TapeAt wr kt ad len cap i ∧ w.grownBy wr (some kt)
set_option maxRecDepth 100000 in
set_option maxHeartbeats 2000000 in
theorem tapeRecs_any (w : World) (kt : Nat) (ad : Option Addr) (len cap i : Nat) (most : Nat) (h : TapeAt w kt ad len cap i) (m0 : 1 ≤ most) (m1 : most ≤ 1000) :
    Calls Try.prog 40 #[.pointer (some ⟨kt, 0, none⟩), .int .i64 (most : Int)] w (GivesRecs w kt ad len cap most) := by
  have H := Lib.hid h
  have hkt := h.lt
  clear h
  go_enter Try.func40, Try.ntmps40
  go_wp2_with fail
  refine (tapeNext_any w kt ad len cap i (most : Int) H.out (by omega) (by omega)).mono ?_
  rintro e w1 ⟨v, i1, rfl, v0, v1, ht1, hg1⟩
  obtain ⟨k, rfl⟩ : ∃ k : Nat, v = (k : Int) := ⟨v.toNat, by omega⟩
  have hkm : k < most := by omega
  have HT1 := Lib.hid ht1
  have HG1 := Lib.hid hg1
  clear ht1 hg1 v0 v1
  go_wp2_with fail
  go_loopw [5, 6] (fun v5 v6 wr => RecsLoop w kt ad len cap (k + 1) v5 v6 wr) (fun _ v6 _ => (intOf v6).toNat)
  case atStart => exact ⟨[], k + 1, i1, _, rfl, by go_num, by simp, ownRecs_nil _ _, (fun r hr => by cases hr), HT1.out, HG1.out⟩
  case round =>
    obtain ⟨l, j, i2, u, rfl, rfl, hlj, hown, hsz, ht, hg⟩ := hrel
    have HLJ := Lib.hid hlj
    have HO := Lib.hid hown
    have HS := Lib.hid hsz
    have HT := Lib.hid ht
    have HG := Lib.hid hg
    have hjb : j ≤ 1001 := by omega
    clear hlj hown hsz ht hg
    by_cases hj : 0 < j
    · go_wp2_with fail
      refine (tapeText_any wr kt ad len cap i2 HT.out).mono ?_
      rintro e w2 ⟨s1, i3, rfl, hs1, ht2, hg2⟩
      have HT2 := Lib.hid ht2
      have HG2 := Lib.hid (grow_trans HG.out hg2)
      have HO2 := Lib.hid (HO.out.tape hg2 hkt)
      clear ht2 hg2
      go_wp2_with fail
      refine (tapeText_any w2 kt ad len cap i3 HT2.out).mono ?_
      rintro e w3 ⟨s2, i4, rfl, hs2, ht3, hg3⟩
      have HT3 := Lib.hid ht3
      have HG3 := Lib.hid (grow_trans HG2.out hg3)
      have HO3 := Lib.hid (HO2.out.tape hg3 hkt)
      clear ht3 hg3
      have HGA : Hid (w.grownBy (w3.alloc (.cells #[.string s1, .string s2] 48)) (some kt)) := grow_alloc HG3.out _
      go_wp2_with (at_builtin; refine list_recs (by rfl) (.tmp 15) (.tmp 21) rfl w.heap.size l [⟨s1, s2⟩] _ rfl (HO3.out.on ((Below.refl _ _).alloc (Nat.le_refl _) _)) HGA.out.size ⟨w3.heap.size, 0, none⟩ 1 1 rfl rfl (recNews_lit w3 s1 s2 _ rfl) (by have := HLJ.out; omega) ?_)
      intro v' w4 ho4 hg4
      have hrow : ∀ k, u.ownBlock = some k → w.heap.size ≤ k := fun k hk => (HO3.out.lt k hk).1
      have HT4 := Lib.hid ((HT3.out.on ((Below.refl _ _).alloc (Nat.le_refl _) (.cells #[.string s1, .string s2] 48))).grow hg4 (fun k hk => by have := hrow k hk; omega))
      have HG4 := Lib.hid (grow_own HGA.out hg4 hrow)
      have HO4 := Lib.hid ho4
      have HLJ4 : Hid ((l ++ [(⟨s1, s2⟩ : Rc)]).length + (j - 1) = k + 1) := by show _ = _; rw [List.length_append]; have := HLJ.out; simp; omega
      have HS4 : Hid (∀ r ∈ l ++ [(⟨s1, s2⟩ : Rc)], r.key.size ≤ 64 ∧ r.val.size ≤ 64) := by
        intro r hr
        rcases List.mem_append.1 hr with hr | hr
        · exact HS.out r hr
        · rw [List.mem_singleton.1 hr]; exact ⟨hs1, hs2⟩
      clear ho4 hg4 hrow
      go_wp2
      go_roundw
      case rel => exact ⟨_, j - 1, i4, _, rfl, int_eq (by omega), HLJ4.out, HO4.out, HS4.out, HT4.out, HG4.out⟩
      case measure =>
        simp [intOf]; omega
    · obtain rfl : j = 0 := by omega
      go_wp2
      go_ret
      exact ⟨l, u, i2, rfl, HO.out, by have := HLJ.out; omega, by have := HLJ.out; omega, HS.out, HT.out, HG.out⟩
end Go.Proofs.Ytinilkkpocnnpaa
namespace Go.Proofs.Ytinilkkpocnnpaa
open Go.RowKit
open Go.SeqMath
open Go.BatMath hiding AllB getD_lt take_all
set_option linter.unusedVariables false

theorem TapeAt.other {w : World} {kt len cap i k j : Nat} {ad : Option Addr} (h : TapeAt w kt ad len cap i) (hk : kt < k) (u : Value) : TapeAt (w.setCell ⟨k, j, none⟩ u) kt ad len cap i := by
  have hx : ∀ b, b < k → (w.setCell ⟨k, j, none⟩ u).heap[b]? = w.heap[b]? := fun b hb => by
    show (w.heap.modify k _)[b]? = _
    rw [Array.getElem?_modify, if_neg (by omega)]
  refine ⟨(hx kt hk).trans h.blk, h.le, h.big, fun j' hj => ?_⟩
  obtain ⟨b, off, n, e, hne, hc, hn⟩ := h.nums j' hj
  exact ⟨b, off, n, e, hne, (World.cell?_of_block (a := ⟨b, off + j', none⟩) (hx b (by omega))).trans hc, hn⟩
/-- Block kt is a tape, wherever it stands. -/
def TapeT (w : World) (kt : Nat) (ad : Option Addr) (len cap : Nat) : Prop := ∃ i, TapeAt w kt ad len cap i
theorem TapeT.other {w : World} {kt len cap k j : Nat} {ad : Option Addr} (h : TapeT w kt ad len cap) (hk : kt < k) (u : Value) : TapeT (w.setCell ⟨k, j, none⟩ u) kt ad len cap := by
  obtain ⟨i, h⟩ := h
  exact ⟨i, h.other hk u⟩
/-- The walk's state: the batch that is being made, the result that is none yet, the tape, what has turned since w. -/
structure TB (w : World) (kt : Nat) (ad : Option Addr) (len cap kr kb : Nat) (b0 b1 b2 b3 : Int) (b4 : Bool) (b5 : Int) (v : Value) (W : World) : Prop where
  box : BoxAt W kb b0 b1 b2 b3 b4 b5 v
  res : BoxAt W kr 0 0 0 0 false 0 (.slice none 0 0)
  lo : w.heap.size ≤ kb
  lr : w.heap.size ≤ kr
  ne : kb ≠ kr
  ht : kt < w.heap.size
  tape : TapeT W kt ad len cap
  grow : w.grownBy W (some kt)
section
variable {w W W' : World} {kt len cap kr kb : Nat} {ad : Option Addr} {b0 b1 b2 b3 : Int} {b4 : Bool} {b5 : Int} {v : Value}
theorem TB.s2 (h : TB w kt ad len cap kr kb b0 b1 b2 b3 b4 b5 v W) (n : Int) : TB w kt ad len cap kr kb b0 b1 n b3 b4 b5 v (W.setCell ⟨kb, 2, none⟩ (.int .i64 n)) := ⟨h.box.s2 n, h.res.off h.ne _, h.lo, h.lr, h.ne, h.ht, h.tape.other (by have := h.lo; have := h.ht; omega) _, grow_new h.grow h.lo _⟩
theorem TB.s3 (h : TB w kt ad len cap kr kb b0 b1 b2 b3 b4 b5 v W) (n : Int) : TB w kt ad len cap kr kb b0 b1 b2 n b4 b5 v (W.setCell ⟨kb, 3, none⟩ (.int .i64 n)) := ⟨h.box.s3 n, h.res.off h.ne _, h.lo, h.lr, h.ne, h.ht, h.tape.other (by have := h.lo; have := h.ht; omega) _, grow_new h.grow h.lo _⟩
theorem TB.s4 (h : TB w kt ad len cap kr kb b0 b1 b2 b3 b4 b5 v W) (n : Bool) : TB w kt ad len cap kr kb b0 b1 b2 b3 n b5 v (W.setCell ⟨kb, 4, none⟩ (.bool n)) := ⟨h.box.s4 n, h.res.off h.ne _, h.lo, h.lr, h.ne, h.ht, h.tape.other (by have := h.lo; have := h.ht; omega) _, grow_new h.grow h.lo _⟩
theorem TB.s5 (h : TB w kt ad len cap kr kb b0 b1 b2 b3 b4 b5 v W) (n : Int) : TB w kt ad len cap kr kb b0 b1 b2 b3 b4 n v (W.setCell ⟨kb, 5, none⟩ (.int .i64 n)) := ⟨h.box.s5 n, h.res.off h.ne _, h.lo, h.lr, h.ne, h.ht, h.tape.other (by have := h.lo; have := h.ht; omega) _, grow_new h.grow h.lo _⟩
theorem TB.s6 (h : TB w kt ad len cap kr kb b0 b1 b2 b3 b4 b5 v W) (n : Value) : TB w kt ad len cap kr kb b0 b1 b2 b3 b4 b5 n (W.setCell ⟨kb, 6, none⟩ n) := ⟨h.box.s6 n, h.res.off h.ne _, h.lo, h.lr, h.ne, h.ht, h.tape.other (by have := h.lo; have := h.ht; omega) _, grow_new h.grow h.lo _⟩
theorem TB.next (h : TB w kt ad len cap kr kb b0 b1 b2 b3 b4 b5 v W) (hg : W.grownBy W' (some kt)) (ht : TapeT W' kt ad len cap) : TB w kt ad len cap kr kb b0 b1 b2 b3 b4 b5 v W' :=
  ⟨h.box.tape hg (by have := h.lo; have := h.ht; omega), h.res.tape hg (by have := h.lr; have := h.ht; omega), h.lo, h.lr, h.ne, h.ht, ht, grow_trans h.grow hg⟩
end
theorem resultsTape {tmps : Array Value} {B : Nat} {W : World} {b0 b1 b2 b3 : Int} {b4 : Bool} {b5 : Int} {v : Value} (h : BoxAt W B b0 b1 b2 b3 b4 b5 v) (ht : tmps.getD 4 undef = .pointer (some ⟨B, 0, none⟩)) :
    (results Try.f20 tmps).run Try.prog W = .ok (.agg #[.int .i64 b0, .int .i64 b1, .int .i64 b2, .int .i64 b3, .bool b4, .int .i64 b5, v]) W := by
  rw [results_cell_one (p := 4) (ty := 33) Try.results20, ht]
  have hl := run_loadVar_row (P := Try.prog) W B 33 33 _ (0, 0) _ h Try.underlying33 rfl (by kernel_rfl)
  simp only [asAddr, Sem.run_pure, Result.andThen, hl]
/-- A batch that is right, with this base, its records in new memory. -/
def GivesTape (w : World) (kt : Nat) (ad : Option Addr) (len cap : Nat) (base : Int) (e : Ending) (w' : World) : Prop :=
  ∃ (b : Bat) (ad' : Option Addr) (cap' : Nat), e = .returned (.agg #[.int .i64 b.base, .int .i64 b.prod, .int .i64 b.epoch, .int .i64 b.seq, .bool b.txn, .int .i64 b.marker, .slice ad' b.recs.length cap']) ∧
    b.base = base ∧ rightE b = 0 ∧ b.wf ∧ RecsAt w' ad' b.recs.length cap' b.recs ∧ (∀ a, ad' = some a → w.heap.size ≤ a.block) ∧ TapeT w' kt ad len cap ∧ w.grownBy w' (some kt)
/-- What the last statement leaves: the batch is copied into the result. -/
theorem gives_tape {w W : World} {kt len cap kr kb n cap' : Nat} {ad ad' : Option Addr} {b : Bat} {base : Int} {x0 x1 x2 x3 : Int} {x4 : Bool} {x5 : Int} {xv : Value} {u0 u1 u2 u3 u4 u5 u6 : Value} (hT : TB w kt ad len cap kr kb x0 x1 x2 x3 x4 x5 xv W) (hb : b.base = base) (ho : rightE b = 0) (hw : b.wf) (hn : b.recs.length = n) (hr : RecsAt W ad' n cap' b.recs) (hk : ∀ a, ad' = some a → kr < a.block) :
    GivesTape w kt ad len cap base (.returned (.agg #[.int .i64 b.base, .int .i64 b.prod, .int .i64 b.epoch, .int .i64 b.seq, .bool b.txn, .int .i64 b.marker, .slice ad' n cap'])) (((((((W.setCell ⟨kr, 0, none⟩ u0).setCell ⟨kr, 1, none⟩ u1).setCell ⟨kr, 2, none⟩ u2).setCell ⟨kr, 3, none⟩ u3).setCell ⟨kr, 4, none⟩ u4).setCell ⟨kr, 5, none⟩ u5).setCell ⟨kr, 6, none⟩ u6) := by
  subst hn
  have hlr := hT.lr
  have hlt : kt < kr := by have := hT.ht; omega
  refine ⟨b, ad', cap', rfl, hb, ho, hw, ((((((hr.put hk).put hk).put hk).put hk).put hk).put hk).put hk, (fun a h => by have := hk a h; omega), ((((((hT.tape.other hlt _).other hlt _).other hlt _).other hlt _).other hlt _).other hlt _).other hlt _, ?_⟩
  exact grow_new (grow_new (grow_new (grow_new (grow_new (grow_new (grow_new hT.grow hlr _) hlr _) hlr _) hlr _) hlr _) hlr _) hlr _
theorem right_none {base : Int} {l : List Rc} (h0 : 0 ≤ base) (h1 : base ≤ 1099511627776) (hl : 1 ≤ l.length) (hm : l.length ≤ 4) (hs : ∀ r ∈ l, r.key.size ≤ 64 ∧ r.val.size ≤ 64) : rightE ⟨base, -1, -1, -1, false, 0, l⟩ = 0 := by
  refine e_fine h0 h1 rfl ⟨.inl rfl, fun h => ?_⟩ ?_
  · simp only at h; rw [h] at hl; simp at hl
  · rintro (h | ⟨r, hr, h⟩)
    · simp only at h; omega
    · have := hs r hr
      rcases h with h | h <;> omega
theorem right_data {base p e s : Int} {t : Bool} {l : List Rc} (h0 : 0 ≤ base) (h1 : base ≤ 1099511627776) (p0 : 0 ≤ p) (e0 : 0 ≤ e) (e1 : e ≤ 32767) (s0 : 0 ≤ s) (s1 : s ≤ 2147483647) (hl : 1 ≤ l.length) (hm : l.length ≤ 4) (hs : ∀ r ∈ l, r.key.size ≤ 64 ∧ r.val.size ≤ 64) : rightE ⟨base, p, e, s, t, 0, l⟩ = 0 := by
  refine e_fine h0 h1 rfl ⟨.inr ⟨?_, right_yes s0 s1⟩, fun h => ?_⟩ ?_
  · unfold headB; simp [p0, e0, e1]
  · simp only at h; rw [h] at hl; simp at hl
  · rintro (h | ⟨r, hr, h⟩)
    · simp only at h; omega
    · have := hs r hr
      rcases h with h | h <;> omega
theorem right_mark {base p e m : Int} (h0 : 0 ≤ base) (h1 : base ≤ 1099511627776) (p0 : 0 ≤ p) (e0 : 0 ≤ e) (e1 : e ≤ 32767) (hm : m = 1 ∨ m = 2) : rightE ⟨base, p, e, -1, true, m, []⟩ = 0 := by
  rw [e_mark h0 h1 (by simp only; omega), if_pos]
  refine ⟨hm, ?_, rfl, rfl, rfl⟩
  unfold headB; simp [p0, e0, e1]
theorem bat_wf {a b c d f : Int} {t : Bool} {l : List Rc} (h0 : In64 a) (h1 : In64 b) (h2 : In64 c) (h3 : In64 d) (h4 : In64 f) : (⟨a, b, c, d, t, f, l⟩ : Bat).wf := ⟨h0, h1, h2, h3, h4⟩
set_option maxRecDepth 100000 in
set_option maxHeartbeats 4000000 in
theorem tapeBatch_any (w : World) (kt : Nat) (ad : Option Addr) (len cap i : Nat) (base : Int) (h : TapeAt w kt ad len cap i) (h0 : 0 ≤ base) (h1 : base ≤ 1099511627776) :
    Calls Try.prog 20 #[.pointer (some ⟨kt, 0, none⟩), .int .i64 base] w (GivesTape w kt ad len cap base) := by
  have hkt := h.lt
  have HR0 := Lib.hid (boxAt_new w 0 0 0 0 false 0 (.slice none 0 0))
  have H := Lib.hid (h.on ((Below.refl w.heap.size w).alloc (Nat.le_refl _) (.cells #[.int .i64 0, .int .i64 0, .int .i64 0, .int .i64 0, .bool false, .int .i64 0, .slice none 0 0] 33)))
  have HG0 := Lib.hid (grow_alloc (grow_refl w (some kt)) (.cells #[.int .i64 0, .int .i64 0, .int .i64 0, .int .i64 0, .bool false, .int .i64 0, .slice none 0 0] 33))
  clear h
  go_enter Try.func20, Try.ntmps20
  go_wp2_with fail
  refine (tapeNext_any _ kt ad len cap i 4 H.out (by omega) (by omega)).mono ?_
  rintro e w1 ⟨v, i1, rfl, v0, v1, ht1, hg1⟩
  obtain ⟨kb, hkb⟩ : ∃ kb, kb = w1.heap.size := ⟨_, rfl⟩
  obtain ⟨kr, hkr⟩ : ∃ kr, kr = w.heap.size := ⟨_, rfl⟩
  have hkk : kr < kb := by rw [hkb, hkr]; exact Nat.lt_of_lt_of_le HR0.out.lt hg1.size
  obtain ⟨p, hp⟩ : ∃ p, p = v - 1 := ⟨_, rfl⟩
  obtain ⟨W2, hW2⟩ : ∃ W2, W2 = w1.alloc (.cells #[.int .i64 base, .int .i64 p, .int .i64 0, .int .i64 0, .bool false, .int .i64 0, .slice none 0 0] 33) := ⟨_, rfl⟩
  have HT2 : Hid (TB w kt ad len cap kr kb base p 0 0 false 0 (.slice none 0 0) W2) := by
    show TB _ _ _ _ _ _ _ _ _ _ _ _ _ _ _
    have hbb : Below w1.heap.size w1 W2 := by rw [hW2]; exact (Below.refl _ _).alloc (Nat.le_refl _) _
    refine ⟨by rw [hW2, hkb]; exact boxAt_new w1 _ _ _ _ _ _ _, ?_, by omega, by omega, by omega, hkt, ⟨i1, ht1.on hbb⟩, grow_below (grow_trans HG0.out hg1) hbb⟩
    have := (HR0.out.tape hg1 (by omega)).on hbb
    rw [hkr]; exact this
  have hpv : v - 1 = p := hp.symm
  have HW2 := Lib.hid hW2
  have p0 : -1 ≤ p := by omega
  have p2 : p ≤ 2 := by omega
  have HKB := Lib.hid hkb
  have HKR := Lib.hid hkr
  clear hkb hkr hW2 hp ht1 hg1
  by_cases hneg : p < 0
  · obtain rfl : p = -1 := by omega
    clear p0 p2
    go_upto_if 13 with (fail)
    rw [← HW2.out, ← HKB.out, ← HKR.out]
    obtain ⟨j1, hj1⟩ := HT2.out.tape
    go_wp2_with fail
    refine (tapeRecs_any W2 kt ad len cap j1 4 hj1 (by omega) (by omega)).mono ?_
    rintro e w3 ⟨l, v', m1, rfl, hown, hl1, hl4, hsz, ht1, hg1⟩
    obtain ⟨ad3, c3, hv3, hrec, hblk⟩ := hown.at
    obtain ⟨nl, hnl⟩ : ∃ nl, l.length = nl := ⟨_, rfl⟩
    rw [hnl] at hv3 hrec hl1 hl4
    subst hv3
    have HN1 := Lib.hid (HT2.out.next hg1 ⟨m1, ht1⟩)
    have HBLK : Hid (∀ a, ad3 = some a → kr < a.block) := fun a h => by have h1 := hblk a h; have h2 := HT2.out.res.lt; omega
    have HBLB : Hid (∀ a, ad3 = some a → kb < a.block) := fun a h => by have h1 := hblk a h; have h2 := HT2.out.box.lt; omega
    have HREC := Lib.hid hrec
    have HNL := Lib.hid hnl
    have HSZ := Lib.hid hsz
    clear hown hrec hblk hnl hsz hj1 ht1 hg1
    have x2 := HN1.out.box.c2
    have f2 := HN1.out.box.free 2
    have x3 := HN1.out.box.c3
    have f3 := HN1.out.box.free 3
    have x6 := HN1.out.box.c6
    have f6 := HN1.out.box.free 6
    go_upto_region 4 with fail
    obtain ⟨W4, hW4⟩ : ∃ W, W = ((w3.setCell ⟨kb, 2, none⟩ (.int .i64 (-1))).setCell ⟨kb, 3, none⟩ (.int .i64 (-1))).setCell ⟨kb, 6, none⟩ (.slice ad3 nl c3) := ⟨_, rfl⟩
    have HSW4 := Lib.hid (show TB w kt ad len cap kr kb base (-1) (-1) (-1) false 0 (.slice ad3 nl c3) W4 by rw [hW4]; exact ((HN1.out.s2 (-1)).s3 (-1)).s6 _)
    rw [← hW4]
    have HREC4 : Hid (RecsAt W4 ad3 nl c3 l) := by show RecsAt _ _ _ _ _; rw [hW4]; exact ((HREC.out.put HBLB.out).put HBLB.out).put HBLB.out
    have HOK := Lib.hid (right_none h0 h1 (by rw [HNL.out]; exact hl1) (by rw [HNL.out]; exact hl4) HSZ.out)
    clear hW4
    clear x2 f2 x3 f3 x6 f6
    have x0 := HSW4.out.box.c0
    have x1 := HSW4.out.box.c1
    have x2 := HSW4.out.box.c2
    have x3 := HSW4.out.box.c3
    have x4 := HSW4.out.box.c4
    have x5 := HSW4.out.box.c5
    have x6 := HSW4.out.box.c6
    have r0 := HSW4.out.res.c0
    have q0 := HSW4.out.res.free 0
    have r1 := HSW4.out.res.c1
    have q1 := HSW4.out.res.free 1
    have r2 := HSW4.out.res.c2
    have q2 := HSW4.out.res.free 2
    have r3 := HSW4.out.res.c3
    have q3 := HSW4.out.res.free 3
    have r4 := HSW4.out.res.c4
    have q4 := HSW4.out.res.free 4
    have r5 := HSW4.out.res.c5
    have q5 := HSW4.out.res.free 5
    have r6 := HSW4.out.res.c6
    have q6 := HSW4.out.res.free 6
    go_wp2
    exact bodyPost_ret (resultsTape (((((((HSW4.out.res.s0 (base)).s1 (-1)).s2 (-1)).s3 (-1)).s4 (false)).s5 (0)).s6 (.slice ad3 nl c3)) rfl) rfl (gives_tape HSW4.out rfl HOK.out (bat_wf ⟨by omega, by omega⟩ ⟨by omega, by omega⟩ ⟨by omega, by omega⟩ ⟨by omega, by omega⟩ ⟨by omega, by omega⟩) HNL.out HREC4.out HBLK.out)
  · have hpos : 0 ≤ p := by omega
    clear hneg p0
    go_upto_if 13 with (fail)
    rw [← HW2.out, ← HKB.out, ← HKR.out]
    obtain ⟨j1, hj1⟩ := HT2.out.tape
    go_wp2_with fail
    refine (tapeNext_any W2 kt ad len cap j1 3 hj1 (by omega) (by omega)).mono ?_
    rintro e w3 ⟨ve, m1, rfl, ve0, ve1, ht1, hg1⟩
    have HN1 := Lib.hid (HT2.out.next hg1 ⟨m1, ht1⟩)
    clear hj1 ht1 hg1
    have x2 := HN1.out.box.c2
    have f2 := HN1.out.box.free 2
    go_upto_region 6 with fail
    obtain ⟨W4, hW4⟩ : ∃ W, W = w3.setCell ⟨kb, 2, none⟩ (.int .i64 ve) := ⟨_, rfl⟩
    have HSW4 := Lib.hid (show TB w kt ad len cap kr kb base p ve 0 false 0 (.slice none 0 0) W4 by rw [hW4]; exact HN1.out.s2 ve)
    rw [← hW4]
    clear x2 f2
    clear hW4
    obtain ⟨j2, hj2⟩ := HSW4.out.tape
    go_wp2_with fail
    refine (tapeNext_any W4 kt ad len cap j2 4 hj2 (by omega) (by omega)).mono ?_
    rintro e w5 ⟨vq, m2, rfl, vq0, vq1, ht2, hg2⟩
    have HN2 := Lib.hid (HSW4.out.next hg2 ⟨m2, ht2⟩)
    clear hj2 ht2 hg2
    by_cases hq : vq = 0
    · subst hq
      obtain ⟨j3, hj3⟩ := HN2.out.tape
      go_wp2_with fail
      refine (tapeNext_any w5 kt ad len cap j3 2 hj3 (by omega) (by omega)).mono ?_
      rintro e w6 ⟨vm, m3, rfl, vm0, vm1, ht3, hg3⟩
      have HN3 := Lib.hid (HN2.out.next hg3 ⟨m3, ht3⟩)
      clear hj3 ht3 hg3
      have x3 := HN3.out.box.c3
      have f3 := HN3.out.box.free 3
      have x4 := HN3.out.box.c4
      have f4 := HN3.out.box.free 4
      have x5 := HN3.out.box.c5
      have f5 := HN3.out.box.free 5
      go_upto_region 8 with fail
      obtain ⟨W7, hW7⟩ : ∃ W, W = ((w6.setCell ⟨kb, 3, none⟩ (.int .i64 (-1))).setCell ⟨kb, 4, none⟩ (.bool true)).setCell ⟨kb, 5, none⟩ (.int .i64 (1 + vm)) := ⟨_, rfl⟩
      have HSW7 := Lib.hid (show TB w kt ad len cap kr kb base p ve (-1) true (1 + vm) (.slice none 0 0) W7 by rw [hW7]; exact ((HN3.out.s3 (-1)).s4 true).s5 (1 + vm))
      rw [← hW7]
      clear x3 f3 x4 f4 x5 f5
      have HOK := Lib.hid (right_mark (m := 1 + vm) h0 h1 hpos ve0 (by omega) (by omega))
      clear hW7
      have x0 := HSW7.out.box.c0
      have x1 := HSW7.out.box.c1
      have x2 := HSW7.out.box.c2
      have x3 := HSW7.out.box.c3
      have x4 := HSW7.out.box.c4
      have x5 := HSW7.out.box.c5
      have x6 := HSW7.out.box.c6
      have r0 := HSW7.out.res.c0
      have q0 := HSW7.out.res.free 0
      have r1 := HSW7.out.res.c1
      have q1 := HSW7.out.res.free 1
      have r2 := HSW7.out.res.c2
      have q2 := HSW7.out.res.free 2
      have r3 := HSW7.out.res.c3
      have q3 := HSW7.out.res.free 3
      have r4 := HSW7.out.res.c4
      have q4 := HSW7.out.res.free 4
      have r5 := HSW7.out.res.c5
      have q5 := HSW7.out.res.free 5
      have r6 := HSW7.out.res.c6
      have q6 := HSW7.out.res.free 6
      go_wp2
      exact bodyPost_ret (resultsTape (((((((HSW7.out.res.s0 (base)).s1 (p)).s2 (ve)).s3 (-1)).s4 (true)).s5 (1 + vm)).s6 (.slice none 0 0)) rfl) rfl (gives_tape HSW7.out rfl HOK.out (bat_wf ⟨by omega, by omega⟩ ⟨by omega, by omega⟩ ⟨by omega, by omega⟩ ⟨by omega, by omega⟩ ⟨by omega, by omega⟩) rfl (recsAt_nil _) (fun a h => by cases h))
    · have hqb : (vq == 0) = false := by simpa using hq
      obtain ⟨j3, hj3⟩ := HN2.out.tape
      go_wp2_with fail
      refine (tapeNext_any w5 kt ad len cap j3 6 hj3 (by omega) (by omega)).mono ?_
      rintro e w6 ⟨vs, m3, rfl, vs0, vs1, ht3, hg3⟩
      have HN3 := Lib.hid (HN2.out.next hg3 ⟨m3, ht3⟩)
      clear hj3 ht3 hg3
      obtain ⟨j4, hj4⟩ := HN3.out.tape
      go_wp2_with fail
      refine (tapeNext_any w6 kt ad len cap j4 2 hj4 (by omega) (by omega)).mono ?_
      rintro e w7 ⟨vt, m4, rfl, vt0, vt1, ht4, hg4⟩
      have HN4 := Lib.hid (HN3.out.next hg4 ⟨m4, ht4⟩)
      clear hj4 ht4 hg4
      obtain ⟨tb, htb⟩ : ∃ tb, (vt == 0) = tb := ⟨_, rfl⟩
      obtain ⟨j5, hj5⟩ := HN4.out.tape
      go_wp2_with fail
      refine (tapeRecs_any w7 kt ad len cap j5 4 hj5 (by omega) (by omega)).mono ?_
      rintro e w8 ⟨l, v', m5, rfl, hown, hl1, hl4, hsz, ht5, hg5⟩
      obtain ⟨ad3, c3, hv3, hrec, hblk⟩ := hown.at
      obtain ⟨nl, hnl⟩ : ∃ nl, l.length = nl := ⟨_, rfl⟩
      rw [hnl] at hv3 hrec hl1 hl4
      subst hv3
      have HN5 := Lib.hid (HN4.out.next hg5 ⟨m5, ht5⟩)
      have HBLK : Hid (∀ a, ad3 = some a → kr < a.block) := fun a h => by have h1 := hblk a h; have h2 := HN4.out.res.lt; omega
      have HBLB : Hid (∀ a, ad3 = some a → kb < a.block) := fun a h => by have h1 := hblk a h; have h2 := HN4.out.box.lt; omega
      have HREC := Lib.hid hrec
      have HNL := Lib.hid hnl
      have HSZ := Lib.hid hsz
      clear hown hrec hblk hnl hsz hj5 ht5 hg5
      have x3 := HN5.out.box.c3
      have f3 := HN5.out.box.free 3
      have x4 := HN5.out.box.c4
      have f4 := HN5.out.box.free 4
      have x6 := HN5.out.box.c6
      have f6 := HN5.out.box.free 6
      go_upto_region 10 with fail
      obtain ⟨W9, hW9⟩ : ∃ W, W = ((w8.setCell ⟨kb, 3, none⟩ (.int .i64 vs)).setCell ⟨kb, 4, none⟩ (.bool tb)).setCell ⟨kb, 6, none⟩ (.slice ad3 nl c3) := ⟨_, rfl⟩
      have HSW9 := Lib.hid (show TB w kt ad len cap kr kb base p ve vs tb 0 (.slice ad3 nl c3) W9 by rw [hW9]; exact ((HN5.out.s3 vs).s4 tb).s6 _)
      rw [← hW9]
      have HREC9 : Hid (RecsAt W9 ad3 nl c3 l) := by show RecsAt _ _ _ _ _; rw [hW9]; exact ((HREC.out.put HBLB.out).put HBLB.out).put HBLB.out
      clear hW9
      clear x3 f3 x4 f4 x6 f6
      obtain ⟨j6, hj6⟩ := HSW9.out.tape
      go_wp2_with fail
      refine (tapeNext_any W9 kt ad len cap j6 9 hj6 (by omega) (by omega)).mono ?_
      rintro e w10 ⟨vz, m6, rfl, vz0, vz1, ht6, hg6⟩
      have HGR := Lib.hid hg6
      have HN6 := Lib.hid (HSW9.out.next hg6 ⟨m6, ht6⟩)
      clear hj6 ht6 hg6
      have HREC10 := Lib.hid (HREC9.out.tape (w' := w10) (kt := kt) HGR.out (fun x hx => by have := HBLK.out x hx; have := HT2.out.lr; omega))
      by_cases hz : vz = 0
      · subst hz
        obtain ⟨j7, hj7⟩ := HN6.out.tape
        go_wp2_with fail
        refine (tapeNext_any w10 kt ad len cap j7 3 hj7 (by omega) (by omega)).mono ?_
        rintro e w11 ⟨vy, m7, rfl, vy0, vy1, ht7, hg7⟩
        have HGR7 := Lib.hid hg7
        have HN7 := Lib.hid (HN6.out.next hg7 ⟨m7, ht7⟩)
        clear hj7 ht7 hg7
        have HREC11 := Lib.hid (HREC10.out.tape (w' := w11) (kt := kt) HGR7.out (fun x hx => by have := HBLK.out x hx; have := HT2.out.lr; omega))
        have x3 := HN7.out.box.c3
        have f3 := HN7.out.box.free 3
        go_upto_region 12 with fail
        obtain ⟨W12, hW12⟩ : ∃ W, W = w11.setCell ⟨kb, 3, none⟩ (.int .i64 (2147483647 - vy)) := ⟨_, rfl⟩
        have HSW12 := Lib.hid (show TB w kt ad len cap kr kb base p ve (2147483647 - vy) tb 0 (.slice ad3 nl c3) W12 by rw [hW12]; exact HN7.out.s3 (2147483647 - vy))
        rw [← hW12]
        clear x3 f3
        have HREC12 : Hid (RecsAt W12 ad3 nl c3 l) := by show RecsAt _ _ _ _ _; rw [hW12]; exact HREC11.out.put HBLB.out
        have HOK := Lib.hid (right_data (p := p) (e := ve) (s := 2147483647 - vy) (t := tb) h0 h1 hpos ve0 (by omega) (by omega) (by omega) (by rw [HNL.out]; exact hl1) (by rw [HNL.out]; exact hl4) HSZ.out)
        clear hW12
        have x0 := HSW12.out.box.c0
        have x1 := HSW12.out.box.c1
        have x2 := HSW12.out.box.c2
        have x3 := HSW12.out.box.c3
        have x4 := HSW12.out.box.c4
        have x5 := HSW12.out.box.c5
        have x6 := HSW12.out.box.c6
        have r0 := HSW12.out.res.c0
        have q0 := HSW12.out.res.free 0
        have r1 := HSW12.out.res.c1
        have q1 := HSW12.out.res.free 1
        have r2 := HSW12.out.res.c2
        have q2 := HSW12.out.res.free 2
        have r3 := HSW12.out.res.c3
        have q3 := HSW12.out.res.free 3
        have r4 := HSW12.out.res.c4
        have q4 := HSW12.out.res.free 4
        have r5 := HSW12.out.res.c5
        have q5 := HSW12.out.res.free 5
        have r6 := HSW12.out.res.c6
        have q6 := HSW12.out.res.free 6
        go_wp2
        exact bodyPost_ret (resultsTape (((((((HSW12.out.res.s0 (base)).s1 (p)).s2 (ve)).s3 (2147483647 - vy)).s4 (tb)).s5 (0)).s6 (.slice ad3 nl c3)) rfl) rfl (gives_tape HSW12.out rfl HOK.out (bat_wf ⟨by omega, by omega⟩ ⟨by omega, by omega⟩ ⟨by omega, by omega⟩ ⟨by omega, by omega⟩ ⟨by omega, by omega⟩) HNL.out HREC12.out HBLK.out)
      · have hzb : (vz == 0) = false := by simpa using hz
        have HOK := Lib.hid (right_data (p := p) (e := ve) (s := vs) (t := tb) h0 h1 hpos ve0 (by omega) vs0 (by omega) (by rw [HNL.out]; exact hl1) (by rw [HNL.out]; exact hl4) HSZ.out)
        have x0 := HN6.out.box.c0
        have x1 := HN6.out.box.c1
        have x2 := HN6.out.box.c2
        have x3 := HN6.out.box.c3
        have x4 := HN6.out.box.c4
        have x5 := HN6.out.box.c5
        have x6 := HN6.out.box.c6
        have r0 := HN6.out.res.c0
        have q0 := HN6.out.res.free 0
        have r1 := HN6.out.res.c1
        have q1 := HN6.out.res.free 1
        have r2 := HN6.out.res.c2
        have q2 := HN6.out.res.free 2
        have r3 := HN6.out.res.c3
        have q3 := HN6.out.res.free 3
        have r4 := HN6.out.res.c4
        have q4 := HN6.out.res.free 4
        have r5 := HN6.out.res.c5
        have q5 := HN6.out.res.free 5
        have r6 := HN6.out.res.c6
        have q6 := HN6.out.res.free 6
        go_wp2
        exact bodyPost_ret (resultsTape (((((((HN6.out.res.s0 (base)).s1 (p)).s2 (ve)).s3 (vs)).s4 (tb)).s5 (0)).s6 (.slice ad3 nl c3)) rfl) rfl (gives_tape HN6.out rfl HOK.out (bat_wf ⟨by omega, by omega⟩ ⟨by omega, by omega⟩ ⟨by omega, by omega⟩ ⟨by omega, by omega⟩ ⟨by omega, by omega⟩) HNL.out HREC10.out HBLK.out)
end Go.Proofs.Ytinilkkpocnnpaa
namespace Go.Proofs.Ytinilkkpocnnpaa
open Go.RowKit
open Go.SeqMath
open Go.BatMath hiding AllB getD_lt take_all
open Go.VarMath (longB length_longB)
set_option linter.unusedVariables false

theorem texts_of {l : List Rc} (h : ∀ r ∈ l, r.key.size ≤ 64 ∧ r.val.size ≤ 64) : TextsOk l := fun r hr => by have := h r hr; omega
end Go.Proofs.Ytinilkkpocnnpaa
