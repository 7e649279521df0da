/- Parts of a proof, merged: SnOn, SnNums, SnWrite, SnIface, SnReadC, SnapList, SnListK, Runes, NameIt. -/
import Derived.Lib.MapLaws
import Derived.Lib.ValidLaws
import Derived.Lib.RuneLoops
import Derived.WalkKit
import Derived.BigCall
import Derived.Below
import Derived.Lib.Hide
import Derived.Deep.Light
import Derived.Lib.OthersKept
import Derived.BigQuiet
import Derived.Deep.QuietTactic
import Derived.Test.YtgohekjkbgfeeaaGreatProg
import Derived.Test.YtgohekjkbgfeeaaGreatKg16
import Derived.Test.YtgohekjkbgfeeaaGreatKg15
import Derived.Test.YtgohekjkbgfeeaaGreatKg1
import Derived.Test.YtgohekjkbgfeeaaGreatKg4
import Derived.Test.YtgohekjkbgfeeaaGreatKg3
import Derived.Test.YtgohekjkbgfeeaaGreatKg5
namespace Go.Proofs.YtgohekjkbgfeeaaGreat
open Go.RowKit
open Go.SnapMath
open Go.ProdMath
open Go.BatMath hiding AllB getD_lt take_all
set_option linter.unusedVariables false

theorem rowD_take {start : Int} {bs : List Bat} (h : RowD start bs) : ∀ k, RowD start (bs.take k) := by
  induction h with
  | nil => intro k; rw [List.take_nil]; exact RowD.nil
  | @snoc l b hl hb hw hc hn he ih =>
    intro k
    by_cases hk : k ≤ l.length
    · rw [List.take_append_of_le_length hk]; exact ih k
    · rw [List.take_of_length_le (by rw [List.length_append, List.length_singleton]; omega)]
      exact RowD.snoc hl hb hw hc hn he
theorem BatsAt.take {w : World} {ad : Option Addr} {len cap : Nat} {ms : List BM} (h : BatsAt w ad len cap ms) (k : Nat) (hk : k ≤ len) : BatsAt w ad k cap (ms.take k) := ⟨h.row.take k hk, fun m hm => h.ins m (List.mem_of_mem_take hm)⟩
/-- The code's table with its parts younger than B, so that what is done to it leaves what is older. -/
structure SnapMore (T : Nat → World → Addr → List Pd → Prop) : Prop where
  code : SnapCode (T 0)
  low : ∀ B W a l, T B W a l → T 0 W a l
  keep : ∀ B W W' a l, T B W a l → Below W.heap.size W W' → T B W' a l
  fold : ∀ W ad len cap ms, BatsAt W ad len cap ms → len ≤ 5000 → BatsOk (bats ms) → Calls Tryz.prog 18 #[.slice ad len cap] W (FoldDoes (T W.heap.size) W (foldP [] (bats ms)))
  read : ∀ W ad len cap bs, Byt W ad len cap bs → bs.length ≤ 1048600 → Calls Tryz.prog 19 #[.slice ad len cap] W (ReadDoes (T W.heap.size) W bs)
  apply : ∀ B W a l (b : Bat) rd rn rc, T B W a l → B ≤ W.heap.size → Asc l → fewP l → RecsAt W rd rn rc b.recs → TextsOk b.recs → rn ≤ 140737488355328 → b.prod ≤ 9223372036854775807 →
    Calls Tryz.prog 21 #[.pointer (some a), .agg #[.int .i64 b.base, .int .i64 b.prod, .int .i64 b.epoch, .int .i64 b.seq, .bool b.txn, .int .i64 b.marker, .slice rd rn rc]] W (fun e w' => (∃ v, e = .returned v) ∧ T B w' a (tapplyD l b) ∧ Below B W w')
set_option maxRecDepth 100000 in
set_option maxHeartbeats 8000000 in
theorem snOn_any {T : Nat → World → Addr → List Pd → Prop} (C : SnapMore T) (K : ∀ W, Calls Tryz.prog 15 #[] W (GivesBool W true)) (w : World) (tad : Option Addr) (tlen tcap : Nat)
    (hrow : Calls Tryz.prog 7 #[.slice tad tlen tcap, .int .i64 0, .int .i64 30] w (RowDoes w 0 30)) (n0 : Int) (hn0 : In64 n0) :
    Calls Tryz.prog 5 #[.slice tad tlen tcap, .int .i64 n0] w (GivesBool w true) := by
  have HC := Lib.hid C
  have HK := Lib.hid K
  have HR := Lib.hid hrow
  clear C K hrow
  go_enter Tryz.func5, Tryz.ntmps5
  go_wp2_with fail
  refine HR.out.mono ?_
  rintro e w1 ⟨ad, len, cap, ms, rfl, hba, hok, hrd, hlen, hb1⟩
  have hml := hba.row.length
  obtain ⟨bs, hbs⟩ : ∃ bs, bs = bats ms := ⟨_, rfl⟩
  rw [← hbs] at hok hrd
  have hbl : bs.length = len := by rw [hbs]; unfold bats; rw [List.length_map]; exact hml
  have HACC : Hid (∀ i, AccOk (foldP [] (bs.take i))) := fun i => row_acc (rowD_take hrd i) (by decide) (by decide)
  have HFL : Hid (∀ i, (foldP [] (bs.take i)).length ≤ 5000) := fun i => by
    have h1 := fold_len (bs.take i) []
    rw [List.length_take, List.length_nil] at h1
    omega
  have HGET : Hid (∀ (i : Nat) m, ms[i]? = some m → bs[i]? = some m.b) := by
    intro i m hm
    rw [hbs]; unfold bats
    rw [List.getElem?_map, hm]; rfl
  have HBT : Hid (∀ i, bats (ms.take i) = bs.take i) := fun i => by
    rw [hbs]
    unfold bats
    rw [List.map_take]
  have HBA := Lib.hid hba
  have HOK : Hid (BatsOk bs) := hok
  have HB1 := Lib.hid hb1
  have HBL := Lib.hid hbl
  have HBS := Lib.hid hbs
  clear hba hok hrd hb1 hml hbl hbs HR
  go_wp2_with fail
  refine (within_any n0 (len : Int) w1 hn0 ⟨by omega, by omega⟩).mono ?_
  rintro e w1' ⟨k, rfl, hk, rfl⟩
  have hkl : k ≤ len := by omega
  have hsl := row_upto batK_ok ad len cap k (Nat.le_trans hkl HBA.out.row.fits)
  obtain ⟨fa, fc, hsf, hfr, _⟩ := row_from batK_ok HBA.out.row k hkl
  have HFR := Lib.hid hfr
  clear hfr hk
  have hslz : ∀ W, (Instr.slice 22 (.slice ad len cap) none (some (.int .i64 (k : Int))) none).run Tryz.prog W = .ok (.slice ad k cap) W := hsl
  have hsfz : ∀ W, (Instr.slice 22 (.slice ad len cap) (some (.int .i64 (k : Int))) none none).run Tryz.prog W = .ok (.slice fa (len - k) fc) W := hsf
  clear hsl hsf
  go_wp2_with fail
  refine (HC.out.fold w1 ad k cap (ms.take k) (HBA.out.take k hkl) (by omega) (by rw [HBT.out k]; exact fun b hb => HOK.out b (List.mem_of_mem_take hb))).mono ?_
  rintro e w2 ⟨a, rfl, ht2, hb2⟩
  rw [HBT.out k] at ht2
  have HTA := Lib.hid (HC.out.low _ _ _ _ ht2)
  have HBA2 := Lib.hid (HBA.out.keep hb2)
  have HFR2 := Lib.hid (HFR.out.keep hb2)
  have HB2 := Lib.hid (HB1.out.trans (hb2.mono HB1.out.size))
  clear ht2 hb2 HB1 HFR
  go_wp2_with fail
  refine (HC.out.fold w2 ad len cap ms HBA2.out (by omega) (by rw [← HBS.out]; exact HOK.out)).mono ?_
  rintro e w3 ⟨b, rfl, ht3, hb3⟩
  rw [← HBS.out] at ht3
  have HTB := Lib.hid (HC.out.low _ _ _ _ ht3)
  have HTA3 := Lib.hid (HC.out.keep _ _ _ _ _ HTA.out hb3)
  have HBA3 := Lib.hid (HBA2.out.keep hb3)
  have HFR3 := Lib.hid (HFR2.out.keep hb3)
  have HB3 := Lib.hid (HB2.out.trans (hb3.mono HB2.out.size))
  clear ht3 hb3 HTA HBA2 HFR2 HB2 HBA
  go_wp2_with fail
  refine (HC.out.code.bytes w3 a _ (k : Int) HTA3.out (HACC.out k) (HFL.out k) (by omega) (by omega)).mono ?_
  rintro e w4 ⟨v, rfl, g, cg, rfl, hcg, hg, hpre, hb4⟩
  have hsn : IsSnap (snapS (foldP [] (bs.take k)) (k : Int)) (foldP [] (bs.take k)) (k : Int) := ⟨HACC.out k, ⟨by omega, by omega⟩, rfl⟩
  have hk64 : In64 (k : Int) := ⟨by omega, by omega⟩
  have hb6 : (snapS (foldP [] (bs.take k)) (k : Int)).length ≤ 1048600 := snap_size (HACC.out k) (HFL.out k) hk64
  have hall : CrcMath.AllB (snapS (foldP [] (bs.take k)) (k : Int)) := CrcMath.sealB_all (bodyS_all ⟨Nat.le_trans (HFL.out k) (by omega), (HACC.out k).pdIn⟩ hk64)
  obtain ⟨sb, hsb⟩ : ∃ sb, sb = snapS (foldP [] (bs.take k)) (k : Int) := ⟨_, rfl⟩
  rw [← hsb] at hpre hcg hsn hb6 hall ⊢
  have HY4 := Lib.hid (hpre.byt hall cg hcg)
  have HSN := Lib.hid hsn
  have HTB4 := Lib.hid (HC.out.keep _ _ _ _ _ HTB.out hb4)
  have HBA4 := Lib.hid (HBA3.out.keep hb4)
  have HFR4 := Lib.hid (HFR3.out.keep hb4)
  have HB4 := Lib.hid (HB3.out.trans (hb4.mono HB3.out.size))
  clear hsb hpre hcg hsn hall hb4 hg HTB HTA3 HBA3 HFR3 HB3
  go_wp2_with fail
  refine (HC.out.read w4 _ _ _ sb HY4.out hb6).mono ?_
  rintro e w5 ⟨hb5, hc⟩
  rcases hc with ⟨x, l5, n5, rfl, ht5, hs5⟩ | ⟨rfl, hno⟩
  rotate_left
  · exact absurd HSN.out (hno _ _)
  obtain ⟨h1, h2⟩ := IsSnap.one HSN.out hs5 hb6
  subst h1 h2
  have HTX := Lib.hid ht5
  have HTB4' := HTB4
  have HB5 := Lib.hid hb5
  have HW4 : Hid (w.heap.size ≤ w4.heap.size) := HB4.out.size
  clear ht5 hs5 hb5 hb6 HY4 HSN
  go_wp2
  go_loopw [55] (fun v55 wr => ∃ j : Nat, v55 = .int .i64 (j : Int) ∧ j ≤ len - k ∧ Hid (T w4.heap.size wr x (foldP [] (bs.take (k + j)))) ∧ Hid (Below w4.heap.size w4 wr)) (fun v55 _ => (len - k) - (intOf v55).toNat)
  case atStart => exact ⟨0, rfl, Nat.zero_le _, HTX.out, HB5.out⟩
  case round =>
    obtain ⟨j, rfl, hj, HX, HB⟩ := hrel
    clear HTX HB5
    obtain ⟨wo, hwo⟩ : ∃ wo : World, wo = wr := ⟨_, rfl⟩
    subst hwo
    by_cases hlt : j < len - k
    · have hd : decide (j < len - k) = true := decide_eq_true hlt
      have hjl : (j : Int) < ((len - k : Nat) : Int) := by omega
      have hfb : BatsAt w4 fa (len - k) fc (ms.drop k) := ⟨HFR4.out, fun m hm => HBA4.out.ins m (List.mem_of_mem_drop hm)⟩
      obtain ⟨bk, off, m, rfl, hbk, hm, hrec, c0, c1, c2, c3, c4, c5, c6⟩ := (hfb.keep HB.out).get hlt
      rw [List.getElem?_drop] at hm
      have hbm := HGET.out (k + j) m hm
      have htk : bs.take (k + (j + 1)) = bs.take (k + j) ++ [m.b] := by
        rw [show k + (j + 1) = (k + j) + 1 by omega, List.take_add_one, hbm]; rfl
      have HTK := Lib.hid htk
      obtain ⟨hk1, hk2, hk3⟩ := HOK.out m.b (List.mem_of_getElem? hbm)
      have HK1 := Lib.hid hk1
      have HRC := Lib.hid hrec
      clear hbm htk hk1 hm hrec hbk hfb
      go_upto_region 12 with fail
      obtain ⟨W1, hW1⟩ : ∃ W1, W1 = wo.alloc (.cells #[.int .i64 m.b.base, .int .i64 m.b.prod, .int .i64 m.b.epoch, .int .i64 m.b.seq, .bool m.b.txn, .int .i64 m.b.marker, .slice m.ad m.b.recs.length m.cap] 56) := ⟨_, rfl⟩
      have hb1 : Below wo.heap.size wo W1 := by rw [hW1]; exact (Below.refl _ _).alloc (Nat.le_refl _) _
      obtain ⟨Q, hQ⟩ : ∃ K, K = wo.heap.size := ⟨_, rfl⟩
      have HX1 : Hid (BoxAt W1 Q m.b.base m.b.prod m.b.epoch m.b.seq m.b.txn m.b.marker (.slice m.ad m.b.recs.length m.cap)) := by show BoxAt _ _ _ _ _ _ _ _ _; rw [hW1, hQ]; exact boxAt_new wo _ _ _ _ _ _ _
      have HT1 := Lib.hid (HC.out.keep _ _ _ _ _ HX.out hb1)
      have HB1 : Hid (Below w4.heap.size w4 W1) := HB.out.trans (hb1.mono HB.out.size)
      have HRC1 := Lib.hid (HRC.out.keep hb1)
      rw [← hW1, ← hQ]
      clear hW1 hb1 hQ c0 c1 c2 c3 c4 c5 c6
      have p0 := HX1.out.c0
      have p1 := HX1.out.c1
      have p2 := HX1.out.c2
      have p3 := HX1.out.c3
      have p4 := HX1.out.c4
      have p5 := HX1.out.c5
      have p6 := HX1.out.c6
      go_wp2_with fail
      refine (HC.out.apply _ W1 x _ m.b m.ad m.b.recs.length m.cap HT1.out HB1.out.size (HACC.out (k + j)).asc (HACC.out (k + j)).few HRC1.out HK1.out hk3 hk2).mono ?_
      rintro e w2' ⟨⟨v, rfl⟩, ht2, hb2⟩
      rw [← foldP_snoc, ← HTK.out] at ht2
      have HX2 := Lib.hid ht2
      have HB2 : Hid (Below w4.heap.size w4 w2') := HB1.out.trans hb2
      clear ht2 hb2 p0 p1 p2 p3 p4 p5 p6 HX1 HT1 HB1 HRC1 HX HB HRC
      go_wp2
      go_roundw
      case rel => exact ⟨j + 1, rfl, by omega, HX2.out, HB2.out⟩
      case measure => simp [intOf]; omega
    · have hd : decide (j < len - k) = false := decide_eq_false hlt
      have HX0 : Hid (T 0 wo x (foldP [] bs)) := by
        have h1 := HC.out.low _ _ _ _ HX.out
        rw [show bs.take (k + j) = bs by rw [show k + j = bs.length by rw [HBL.out]; omega, List.take_length]] at h1
        exact h1
      have HB0 : Hid (T 0 wo b (foldP [] bs)) := HC.out.keep _ _ _ _ _ HTB4.out HB.out
      have hal : AccOk (foldP [] bs) := by
        have h1 := HACC.out bs.length
        rwa [List.take_length] at h1
      have hfl : (foldP [] bs).length ≤ 5000 := by
        have h1 := HFL.out bs.length
        rwa [List.take_length] at h1
      obtain ⟨l, hl⟩ : ∃ l, l = foldP [] bs := ⟨_, rfl⟩
      rw [← hl] at HX0 HB0 hal hfl
      have HAL := Lib.hid hal
      have HBE := Lib.hid (HB4.out.trans (HB.out.mono HB4.out.size))
      have hsz : (snapS l 3).length ≤ 1048600 := snap_size hal hfl ⟨by decide, by decide⟩
      have hin : PdsIn l := ⟨by omega, hal.pdIn⟩
      have hall : CrcMath.AllB (snapS l 3) := CrcMath.sealB_all (bodyS_all hin ⟨by decide, by decide⟩)
      obtain ⟨sb, hsb⟩ : ∃ sb, sb = snapS l 3 := ⟨_, rfl⟩
      rw [← hsb] at hall
      have HSB := Lib.hid hsb
      have HAB := Lib.hid hall
      obtain ⟨L, hL⟩ : ∃ L, L = sb.length := ⟨_, rfl⟩
      have HL := Lib.hid hL
      obtain ⟨s1, hs1⟩ : ∃ s, s = str sb := ⟨_, rfl⟩
      have HS1 := Lib.hid hs1
      have hse : (s1.toList == s1.toList) = true := by rw [hs1]; exact str_same _
      have hdrw : Below wo.heap.size wo wo.drew := (Below.refl _ wo).drew
      clear hl hal hsz hin hall hsb hL hs1 HX HB
      go_upto_region 14 with fail
      refine wp_region_noPanic ?_
      refine wp_region_z [] (fun (_ : World) => True) (by kernel_rfl) ?_
      have hHeld : (fun (_ : World) => True) wo.drew := trivial
      obtain ⟨u0, hu⟩ : ∃ u, u = wo.drew := ⟨_, rfl⟩
      rw [← hu] at hHeld hdrw
      rw [← hu]
      clear hu
      have HU := Lib.hid hdrw
      clear hdrw
      refine wpAnyZ_take (i := 0) (oi := ⟨_, _, _, _, _, _⟩) (v := ?_) rfl (by kernel_rfl) (by kernel_rfl) (by kernel_rfl) (by kernel_rfl) (by kernel_rfl) (fun _ _ _ h => h) (Or.inl ⟨by rfl, ?_⟩) (by assumption) ?_
      rotate_left
      · intro W hSw
        (try dsimp only at hSw)
        go_simp
        (try with_reducible rfl)
      (try simp only [Act.put, List.setIfInBounds_toArray, List.set_cons_zero, List.set_cons_succ])
      refine wpAnyZ_take (i := 2) (oi := ⟨_, _, _, _, _, _⟩) (v := ?_) rfl (by kernel_rfl) (by kernel_rfl) (by kernel_rfl) (by kernel_rfl) (by kernel_rfl) (fun _ _ _ h => h) (Or.inl ⟨by rfl, ?_⟩) (by assumption) ?_
      rotate_left
      · intro W hSw
        (try dsimp only at hSw)
        go_simp
        (try with_reducible rfl)
      (try simp only [Act.put, List.setIfInBounds_toArray, List.set_cons_zero, List.set_cons_succ])
      refine wpAnyZ_ready (rs := [1]) (by kernel_rfl) (by simp) ?_
      refine AllReadyZ.cons (o := ⟨_, _, _, _, _, _⟩) rfl (fun C hC => ?_) AllReadyZ.nil
      go_simp
      refine (HC.out.code.all u0 x l (HC.out.keep _ _ _ _ _ HX0.out HU.out) HAL.out.few (by omega)).mono ?_
      rintro e u1 ⟨xa, xn, xc, xs, rfl, hpx, hex, hb⟩
      have HPX := Lib.hid hpx
      have HEX := Lib.hid hex
      replace HU := Lib.hid (HU.out.trans (hb.mono HU.out.size))
      clear hb hpx hex
      have hHeld : (fun (_ : World) => True) u1 := trivial
      refine hC.out _ _ (fun _ => hHeld) (fun _ => ?_)
      clear hC C
      (try simp only [Act.put, List.setIfInBounds_toArray, List.set_cons_zero, List.set_cons_succ])
      refine wpAnyZ_ready (rs := [3]) (by kernel_rfl) (by simp) ?_
      refine AllReadyZ.cons (o := ⟨_, _, _, _, _, _⟩) rfl (fun C hC => ?_) AllReadyZ.nil
      go_simp
      refine (HC.out.code.all u1 b l (HC.out.keep _ _ _ _ _ HB0.out HU.out) HAL.out.few (by omega)).mono ?_
      rintro e u2 ⟨ya, yn, yc, ys, rfl, hpy, hey, hb⟩
      have HPY := Lib.hid hpy
      have HPX2 := Lib.hid (HPX.out.keep hb)
      have HEY := Lib.hid hey
      have hxn : xn ≤ 1000000 := by
        have h1 := congrArg List.length HEX.out
        have h2 : xs.length = xn := HPX.out.row.length
        unfold pds at h1
        rw [List.length_map] at h1
        omega
      replace HU := Lib.hid (HU.out.trans (hb.mono HU.out.size))
      clear hb hpy hey HPX
      have hHeld : (fun (_ : World) => True) u2 := trivial
      refine hC.out _ _ (fun _ => hHeld) (fun _ => ?_)
      clear hC C
      (try simp only [Act.put, List.setIfInBounds_toArray, List.set_cons_zero, List.set_cons_succ])
      refine wpAnyZ_ready (rs := [4]) (by kernel_rfl) (by simp) ?_
      refine AllReadyZ.cons (o := ⟨_, _, _, _, _, _⟩) rfl (fun C hC => ?_) AllReadyZ.nil
      go_simp
      refine (refAllP_any u2 xa ya xn yn xc yc xs ys HPX2.out HPY.out (by rw [HEX.out, HEY.out]) hxn (by rw [HEX.out]; exact HAL.out.few)).mono ?_
      rintro e u3 ⟨rfl, hb⟩
      replace HU := Lib.hid (HU.out.trans (hb.mono HU.out.size))
      clear hb HPX2 HPY HEX HEY
      have hHeld : (fun (_ : World) => True) u3 := trivial
      refine hC.out _ _ (fun _ => hHeld) (fun _ => ?_)
      clear hC C
      (try simp only [Act.put, List.setIfInBounds_toArray, List.set_cons_zero, List.set_cons_succ])
      refine wpAnyZ_take (i := 5) (oi := ⟨_, _, _, _, _, _⟩) (v := ?_) rfl (by kernel_rfl) (by kernel_rfl) (by kernel_rfl) (by kernel_rfl) (by kernel_rfl) (fun _ _ _ h => h) (Or.inl ⟨by rfl, ?_⟩) (by assumption) ?_
      rotate_left
      · intro W hSw
        (try dsimp only at hSw)
        go_simp
        (try with_reducible rfl)
      (try simp only [Act.put, List.setIfInBounds_toArray, List.set_cons_zero, List.set_cons_succ])
      refine wpAnyZ_take (i := 6) (oi := ⟨_, _, _, _, _, _⟩) (v := ?_) rfl (by kernel_rfl) (by kernel_rfl) (by kernel_rfl) (by kernel_rfl) (by kernel_rfl) (fun _ _ _ h => h) (Or.inl ⟨by rfl, ?_⟩) (by assumption) ?_
      rotate_left
      · intro W hSw
        (try dsimp only at hSw)
        go_simp
        (try with_reducible rfl)
      (try simp only [Act.put, List.setIfInBounds_toArray, List.set_cons_zero, List.set_cons_succ])
      refine wpAnyZ_take (i := 9) (oi := ⟨_, _, _, _, _, _⟩) (v := ?_) rfl (by kernel_rfl) (by kernel_rfl) (by kernel_rfl) (by kernel_rfl) (by kernel_rfl) (fun _ _ _ h => h) (Or.inl ⟨by rfl, ?_⟩) (by assumption) ?_
      rotate_left
      · intro W hSw
        (try dsimp only at hSw)
        go_simp
        (try with_reducible rfl)
      (try simp only [Act.put, List.setIfInBounds_toArray, List.set_cons_zero, List.set_cons_succ])
      refine wpAnyZ_ready (rs := [7]) (by kernel_rfl) (by simp) ?_
      refine AllReadyZ.cons (o := ⟨_, _, _, _, _, _⟩) rfl (fun C hC => ?_) AllReadyZ.nil
      go_simp
      refine (HC.out.code.bytes u3 x l 3 (HC.out.keep _ _ _ _ _ HX0.out HU.out) HAL.out hfl (by decide) (by decide)).mono ?_
      rintro e u4 ⟨v5, rfl, g5, c5, rfl, hc5, hg5, hp5, hb⟩
      rw [← HSB.out] at hp5 hc5 ⊢
      have hy5 := hp5.byt HAB.out c5 hc5
      rw [← HL.out] at hy5 ⊢
      have HY5 := Lib.hid hy5
      replace HU := Lib.hid (HU.out.trans (hb.mono HU.out.size))
      clear hb hp5 hg5 hc5 hy5
      have hHeld : (fun (_ : World) => True) u4 := trivial
      refine hC.out _ _ (fun _ => hHeld) (fun _ => ?_)
      clear hC C
      (try simp only [Act.put, List.setIfInBounds_toArray, List.set_cons_zero, List.set_cons_succ])
      refine wpAnyZ_strengthen (S' := (fun (V : World) => (convert 31 9 (.slice (some ⟨g5, 0, none⟩) L c5)).run Tryz.prog V = .ok (.string s1) V)) (fun V h => trivial) _ _ _ _ ?_
      clear hHeld
      have hHeld : (fun (V : World) => (convert 31 9 (.slice (some ⟨g5, 0, none⟩) L c5)).run Tryz.prog V = .ok (.string s1) V) u4 := run_str_at HY5.out HS1.out
      refine wpAnyZ_take (i := 8) (oi := ⟨_, _, _, _, _, _⟩) (v := ?_) rfl (by kernel_rfl) (by kernel_rfl) (by kernel_rfl) (by kernel_rfl) (by kernel_rfl) (fun _ _ _ h => h) (Or.inl ⟨by rfl, ?_⟩) (by assumption) ?_
      rotate_left
      · intro W hSw
        (try dsimp only at hSw)
        go_simp
        (try with_reducible rfl)
      (try simp only [Act.put, List.setIfInBounds_toArray, List.set_cons_zero, List.set_cons_succ])
      refine wpAnyZ_ready (rs := [10]) (by kernel_rfl) (by simp) ?_
      refine AllReadyZ.cons (o := ⟨_, _, _, _, _, _⟩) rfl (fun C hC => ?_) AllReadyZ.nil
      go_simp
      refine (HC.out.code.bytes u4 b l 3 (HC.out.keep _ _ _ _ _ HB0.out HU.out) HAL.out hfl (by decide) (by decide)).mono ?_
      rintro e u5 ⟨v6, rfl, g6, c6, rfl, hc6, hg6, hp6, hb⟩
      rw [← HSB.out] at hp6 hc6 ⊢
      have hy6 := hp6.byt HAB.out c6 hc6
      rw [← HL.out] at hy6 ⊢
      have hcv := run_str_at hy6 HS1.out
      have HY6 := Lib.hid (HY5.out.keep hb (Nat.le_refl _))
      replace HU := Lib.hid (HU.out.trans (hb.mono HU.out.size))
      clear hb hp6 hg6 hc6 hy6 HY5
      have hHeld : (fun (V : World) => (convert 31 9 (.slice (some ⟨g5, 0, none⟩) L c5)).run Tryz.prog V = .ok (.string s1) V) u5 := run_str_at HY6.out HS1.out
      refine hC.out _ _ (fun _ => hHeld) (fun _ => ?_)
      clear hC C
      (try simp only [Act.put, List.setIfInBounds_toArray, List.set_cons_zero, List.set_cons_succ])
      refine wpAnyZ_ready (rs := [11]) (by kernel_rfl) (by simp) ?_
      refine AllReadyZ.cons (o := ⟨_, _, _, _, _, _⟩) rfl (fun C hC => ?_) AllReadyZ.nil
      go_simp
      have hHeld : (fun (V : World) => (convert 31 9 (.slice (some ⟨g5, 0, none⟩) L c5)).run Tryz.prog V = .ok (.string s1) V) u5 := run_str_at HY6.out HS1.out
      refine hC.out _ _ (fun _ => hHeld) (fun _ => ?_)
      clear hC C
      (try simp only [Act.put, List.setIfInBounds_toArray, List.set_cons_zero, List.set_cons_succ])
      clear hcv
      refine wpAnyZ_take (i := 12) (oi := ⟨_, _, _, _, _, _⟩) (v := ?_) rfl (by kernel_rfl) (by kernel_rfl) (by kernel_rfl) (by kernel_rfl) (by kernel_rfl) (fun _ _ _ h => h) (Or.inl ⟨by rfl, ?_⟩) (by assumption) ?_
      rotate_left
      · intro W hSw
        (try dsimp only at hSw)
        go_simp
        (try with_reducible rfl)
      (try simp only [Act.put, List.setIfInBounds_toArray, List.set_cons_zero, List.set_cons_succ])
      refine wpAnyZ_take (i := 13) (oi := ⟨_, _, _, _, _, _⟩) (v := ?_) rfl (by kernel_rfl) (by kernel_rfl) (by kernel_rfl) (by kernel_rfl) (by kernel_rfl) (fun _ _ _ h => h) (Or.inl ⟨by rfl, ?_⟩) (by assumption) ?_
      rotate_left
      · intro W hSw
        (try dsimp only at hSw)
        go_simp
        (try with_reducible rfl)
      (try simp only [Act.put, List.setIfInBounds_toArray, List.set_cons_zero, List.set_cons_succ])
      refine wpAnyZ_take (i := 14) (oi := ⟨_, _, _, _, _, _⟩) (v := ?_) rfl (by kernel_rfl) (by kernel_rfl) (by kernel_rfl) (by kernel_rfl) (by kernel_rfl) (fun _ _ _ h => h) (Or.inl ⟨by rfl, ?_⟩) (by assumption) ?_
      rotate_left
      · intro W hSw
        (try dsimp only at hSw)
        go_simp
        (try with_reducible rfl)
      (try simp only [Act.put, List.setIfInBounds_toArray, List.set_cons_zero, List.set_cons_succ])
      refine wpAnyZ_ready (rs := [15]) (by kernel_rfl) (by simp) ?_
      refine AllReadyZ.cons (o := ⟨_, _, _, _, _, _⟩) rfl (fun C hC => ?_) AllReadyZ.nil
      go_simp
      refine (HK.out u5).mono ?_
      rintro e u6 ⟨rfl, hb⟩
      have HY7 := Lib.hid (HY6.out.keep hb (Nat.le_refl _))
      replace HU := Lib.hid (HU.out.trans (hb.mono HU.out.size))
      clear hb
      have hHeld : (fun (V : World) => (convert 31 9 (.slice (some ⟨g5, 0, none⟩) L c5)).run Tryz.prog V = .ok (.string s1) V) u6 := run_str_at HY7.out HS1.out
      refine hC.out _ _ (fun _ => hHeld) (fun _ => ?_)
      clear hC C
      (try simp only [Act.put, List.setIfInBounds_toArray, List.set_cons_zero, List.set_cons_succ])
      refine wpAnyZ_take (i := 16) (oi := ⟨_, _, _, _, _, _⟩) (v := ?_) rfl (by kernel_rfl) (by kernel_rfl) (by kernel_rfl) (by kernel_rfl) (by kernel_rfl) (fun _ _ _ h => h) (Or.inl ⟨by rfl, ?_⟩) (by assumption) ?_
      rotate_left
      · intro W hSw
        (try dsimp only at hSw)
        go_simp
        (try with_reducible rfl)
      (try simp only [Act.put, List.setIfInBounds_toArray, List.set_cons_zero, List.set_cons_succ])
      refine wpAnyZ_take (i := 17) (oi := ⟨_, _, _, _, _, _⟩) (v := ?_) rfl (by kernel_rfl) (by kernel_rfl) (by kernel_rfl) (by kernel_rfl) (by kernel_rfl) (fun _ _ _ h => h) (Or.inl ⟨by rfl, ?_⟩) (by assumption) ?_
      rotate_left
      · intro W hSw
        (try dsimp only at hSw)
        go_simp
        (try with_reducible rfl)
      (try simp only [Act.put, List.setIfInBounds_toArray, List.set_cons_zero, List.set_cons_succ])
      refine wpAnyZ_done (by kernel_rfl) ?_ _
      refine NoPanic.normal ?_
      clear hHeld
      go_wp2
      go_ret
      exact ⟨rfl, HBE.out.trans (HU.out.mono HBE.out.size)⟩
end Go.Proofs.YtgohekjkbgfeeaaGreat
namespace Go.Proofs.YtgohekjkbgfeeaaGreat
open Go.RowKit
open Go.SnapMath
open Go.VarMath (encN)
open Go.BatMath hiding AllB getD_lt take_all
set_option linter.unusedVariables false

def encsI : List Int → List Nat
  | [] => []
  | n :: l => encN n ++ encsI l
theorem encsI_app : ∀ (a b : List Int), encsI (a ++ b) = encsI a ++ encsI b
  | [], b => rfl
  | n :: a, b => by
    show encN n ++ encsI (a ++ b) = encN n ++ encsI a ++ encsI b
    rw [encsI_app a b, List.append_assoc]
theorem encsI_take {l : List Int} {j : Nat} {n : Int} (h : l[j]? = some n) : encsI (l.take (j + 1)) = encsI (l.take j) ++ encN n := by
  rw [List.take_add_one, h]
  show encsI (l.take j ++ [n]) = _
  rw [encsI_app]
  show _ ++ (encN n ++ []) = _
  rw [List.append_nil]
theorem encsI_len : ∀ {l : List Int} (h : ∀ n ∈ l, In64 n), (encsI l).length ≤ 10 * l.length
  | [], _ => Nat.zero_le _
  | n :: l, h => by
    have h1 := (encL (h n (by simp))).2
    have h2 := encsI_len (l := l) fun y hy => h y (by simp [hy])
    show (encN n ++ encsI l).length ≤ _
    rw [List.length_append, List.length_cons]
    omega
theorem grow_more {w w1 w2 : World} {r r2 : Option Nat} (h : w.grownBy w1 r) (h2 : w1.grownBy w2 r2) (hr : ∀ k, r2 = some k → r = some k ∨ w.heap.size ≤ k) : w.grownBy w2 r := by
  refine ⟨h2.os.trans h.os, h2.tape.trans h.tape, h2.output.trans h.output, Nat.le_trans h.size h2.size, fun k hk hn => (h2.block k (Nat.lt_of_lt_of_le hk h.size) (fun e => ?_)).trans (h.block k hk hn)⟩
  rcases hr k e.symm with h3 | h3
  · exact hn h3.symm
  · omega
section
variable {α : Type} {K : Kind α} {bytes : Nat}
theorem Appended.refl {w : World} {base : Nat} {v : Value} {l : List α} (h : OwnRow K w base v l) : Appended K w base v l v w := ⟨h, grow_refl _ _, fun h => h, fun k hk => .inl hk⟩
theorem Appended.trans {w w1 w2 w3 : World} {base : Nat} {v v1 v2 : Value} {l1 l2 : List α} (h : Appended K w base v l1 v1 w1) (hb : Below w1.heap.size w1 w2) (h2 : Appended K w2 base v1 l2 v2 w3) : Appended K w base v l2 v2 w3 := by
  refine ⟨h2.1, grow_more (grow_below h.2.1 hb) h2.2.1 h.2.2.2, fun hv => h2.2.2.1 (h.2.2.1 hv), fun k hk => ?_⟩
  rcases h2.2.2.2 k hk with h3 | h3
  · exact h.2.2.2 k h3
  · exact .inr (Nat.le_trans (Nat.le_trans h.2.1.size hb.size) h3)
end
def GivesNums (w : World) (base : Nat) (v : Value) (bs : List Nat) (e : Ending) (w' : World) : Prop := ∃ v', e = .returned v' ∧ Appended byteK w base v bs v' w'
set_option maxRecDepth 100000 in
set_option maxHeartbeats 4000000 in
theorem snNums_any (w : World) (base : Nat) (v : Value) (bs : List Nat) (hv : OwnRow byteK w base v bs) (hbase : base ≤ w.heap.size) (hL : bs.length ≤ 50000000000) (ad : Option Addr) (n cap : Nat) (ns : List Int) (h : RowAt idK w ad n cap ns) (ha : ∀ a, ad = some a → some a.block ≠ v.ownBlock) (hn : n ≤ 100) (hin : ∀ x ∈ ns, In64 x) :
    Calls Tryz.prog 42 #[v, .slice ad n cap] w (GivesNums w base v (bs ++ encsI ns)) := by
  have H := Lib.hid h
  have HA := Lib.hid ha
  have HIN := Lib.hid hin
  have HV := Lib.hid hv
  have HL := Lib.hid hL
  have HB := Lib.hid hbase
  have HNL := Lib.hid h.length
  clear h ha hin hv hL hbase
  go_enter Tryz.func42, Tryz.ntmps42
  go_wp2
  go_loopw [0, 9] (fun v0 v9 wr => ∃ (j : Nat) (u : Value), u = v0 ∧ v9 = .int .i64 (j : Int) ∧ j ≤ n ∧ Hid (Appended byteK w base v (bs ++ encsI (ns.take j)) u wr)) (fun _ v9 _ => n - (intOf v9).toNat)
  case atStart =>
    refine ⟨0, v, rfl, rfl, Nat.zero_le _, ?_⟩
    show Appended _ _ _ _ _ _ _
    rw [List.take_zero]
    show Appended byteK w base v (bs ++ []) v w
    rw [List.append_nil]
    exact Appended.refl HV.out
  case round =>
    obtain ⟨j, u, rfl, rfl, hj, HAP⟩ := hrel
    obtain ⟨wo, hwo⟩ : ∃ wo : World, wo = wr := ⟨_, rfl⟩
    subst hwo
    by_cases hlt : j < n
    · have hd : decide (j < n) = true := decide_eq_true hlt
      have hjl : (j : Int) < (n : Int) := by omega
      obtain ⟨bk, off, x, rfl, hbk, hx, hc⟩ := (H.out.grown HAP.out.2.1 HA.out).get hlt
      have c0 : wo.cell? ⟨bk, off + j, none⟩ = some (.int .i64 x) := by
        have h1 := hc 0 _ rfl
        rwa [show off + (j * idK.size + 0) = off + j by show off + (j * 1 + 0) = _; omega] at h1
      have HX : Hid (encsI (ns.take (j + 1)) = encsI (ns.take j) ++ encN x) := encsI_take hx
      have HXI : Hid (In64 x) := HIN.out x (List.mem_of_getElem? hx)
      have HTL : Hid ((encsI (ns.take j)).length ≤ 1000) := by
        show _ ≤ _
        have h1 := encsI_len (l := ns.take j) fun y hy => HIN.out y (List.mem_of_mem_take hy)
        rw [List.length_take] at h1
        have := HNL.out
        omega
      clear hc hx hbk
      go_wp2_with fail
      refine (put_any wo none 0 0 [] x ⟨Byt.nil wo, fun _ => rfl⟩ (by omega) HXI.out.1 HXI.out.2).mono ?_
      rintro e w2 ⟨g, cp, rfl, hown, hb2⟩
      rw [List.nil_append] at hown ⊢
      obtain ⟨la, hla⟩ : ∃ la, (encN x).length = la := ⟨_, rfl⟩
      have hl10 := (encL HXI.out).2
      have HROW : Hid (RowAt byteK w2 (some ⟨g, 0, none⟩) la cp (encN x)) := by
        have h1 : OwnRow byteK w2 wo.heap.size (.slice (some ⟨g, 0, none⟩) (encN x).length cp) (encN x) := own_bytes.2 hown
        obtain ⟨ad2, cap2, e, hr, _⟩ := OwnRow.row byteK_ok h1 hla
        rw [hla] at e
        cases e
        exact hr
      rw [hla]
      have HB2 := Lib.hid hb2
      have HLA := Lib.hid hla
      rw [hla] at hl10
      clear hown hb2 hla
      go_wp2_with (at_builtin; refine list_row (by rfl) byteK_ok (.tmp 13) (.tmp 15) rfl base (bs ++ encsI (ns.take j)) (encN x) u rfl (HAP.out.1.on HB2.out) (Nat.le_trans HB.out (Nat.le_trans HAP.out.2.1.size HB2.out.size)) (some ⟨g, 0, none⟩) la cp rfl HROW.out (by have := HL.out; have := HTL.out; rw [List.length_append]; omega) ?_)
      intro v7 w7 hap
      have HAP7 : Hid (Appended byteK w base v (bs ++ encsI (ns.take (j + 1))) v7 w7) := by
        have h1 := HAP.out.trans HB2.out hap
        first | rw [List.append_assoc] at h1 | skip
        rw [← HX.out] at h1
        exact h1
      clear hap HAP HROW
      go_wp2
      go_roundw
      case rel => exact ⟨j + 1, v7, rfl, rfl, by omega, HAP7.out⟩
      case measure => simp [intOf]; omega
    · have hd : decide (j < n) = false := decide_eq_false hlt
      have hjn : j = n := by omega
      have HFIN : Hid (Appended byteK w base v (bs ++ encsI ns) u wo) := by
        have h1 := HAP.out
        rw [hjn, List.take_of_length_le (by rw [HNL.out]; exact Nat.le_refl _)] at h1
        exact h1
      clear hjn
      go_wp2
      go_ret
      exact ⟨_, rfl, HFIN.out⟩
end Go.Proofs.YtgohekjkbgfeeaaGreat
namespace Go.Proofs.YtgohekjkbgfeeaaGreat
open Go.RowKit
open Go.SeqMath
open Go.ProdMath
open Go.SnapMath
open Go.VarMath (encN)
open Go.BatMath hiding AllB getD_lt take_all
set_option linter.unusedVariables false

theorem pdS_encsI (p : Pd) : pdS p = encsI [p.id, p.epoch, p.opn, (p.last.length : Int)] ++ trsS p.last := by
  unfold pdS
  simp only [encsI, List.append_assoc, List.append_nil]
theorem trS_encs (x : Tr) : trS x = encsI [x.f, x.l, x.b] := by
  unfold trS
  simp only [encsI, List.append_nil]
theorem body_encs (l : List Pd) (n : Int) : bodyS l n = encsI [n, (l.length : Int)] ++ pdsS l := by
  unfold bodyS
  simp only [encsI, List.append_assoc, List.append_nil]
theorem TBox.row {w : World} {k : Nat} {x : Tr} (h : TBox w k x) : RowAt idK w (some ⟨k, 0, none⟩) 3 3 [x.f, x.l, x.b] := by
  refine ⟨rfl, Nat.le_refl _, (fun e => by cases e), .inr ⟨k, 0, rfl, lt_of_block h, fun i y hi j u hj => ?_⟩⟩
  have hj0 : j = 0 := by
    have := (List.getElem?_eq_some_iff.1 hj).1
    simp [idK] at this
    omega
  subst hj0
  simp [idK] at hj
  subst hj
  match i, hi with
  | 0, hi => cases hi; exact h.c0
  | 1, hi => cases hi; exact h.c1
  | 2, hi => cases hi; exact h.c2
theorem own_ne {α : Type} {K : Kind α} {w : World} {base P : Nat} {v : Value} {l : List α} (h : OwnRow K w base v l) (hP : w.heap.size ≤ P) : ∀ k, v.ownBlock = some k → k ≠ P := fun k hk e => by
  have := (h.lt k hk).2
  omega
theorem app_ne {α : Type} {K : Kind α} {w w' : World} {base P : Nat} {v v' : Value} {l : List α} (h : Appended K w base v l v' w') (hP : P < w.heap.size) (hv : ∀ k, v.ownBlock = some k → k ≠ P) : ∀ k, v'.ownBlock = some k → k ≠ P := fun k hk => by
  rcases h.2.2.2 k hk with h3 | h3
  · exact hv k h3
  · omega
set_option maxRecDepth 100000 in
set_option maxHeartbeats 8000000 in
theorem snWrite_any (w : World) (kt km : Nat) (ms : List PM) (h : TcOk w kt km ms) (hac : AccOk (pds ms)) (hL : ms.length ≤ 100000) (n : Int) (hn : In64 n) :
    Calls Tryz.prog 20 #[.pointer (some ⟨kt, 0, none⟩), .int .i64 n] w (GivesMade w (snapS (pds ms) n)) := by
  have CA := Lib.hid (tcAll_any w kt km ms h hac.asc hac.few (Nat.le_trans hL (by decide)))
  obtain ⟨l, hl⟩ : ∃ l, l = pds ms := ⟨_, rfl⟩
  have hll0 : l.length ≤ 100000 := by rw [hl]; unfold pds; rw [List.length_map]; exact hL
  rw [← hl] at CA hac ⊢
  have HIN := Lib.hid hac.pdIn
  have HF : Hid (fewP l) := hac.few
  clear h hL hac hl
  go_enter Tryz.func20, Tryz.ntmps20
  go_wp2_with fail
  refine CA.out.mono ?_
  rintro e w1 ⟨lad, len, lcap, os, rfl, hp, hpd, hb1⟩
  have hlo : os.length = len := hp.row.length
  have hll : l.length = len := by rw [← hpd]; unfold pds; rw [List.length_map]; exact hlo
  have HGET : Hid (∀ (i : Nat) m, os[i]? = some m → l[i]? = some m.p) := by
    intro i m hm
    rw [← hpd]; unfold pds
    rw [List.getElem?_map, hm]; rfl
  have H := Lib.hid hp
  have HB1 := Lib.hid hb1
  have HLL := Lib.hid hll
  have hL6 : len ≤ 100000 := by rw [← hll]; exact hll0
  have HTK : Hid (∀ j, (pdsS (l.take j)).length ≤ 19000000) := fun j => by
    have h1 := pdsS_len (l := l.take j) (fun p hp => HIN.out p (List.mem_of_mem_take hp)) (fun p hp => HF.out p (List.mem_of_mem_take hp))
    rw [List.length_take] at h1
    omega
  have HHD : Hid ((encsI [n, (len : Int)]).length ≤ 20) := by
    show _ ≤ _
    have h1 := encsI_len (l := [n, (len : Int)]) (fun x hx => by
      simp only [List.mem_cons, List.not_mem_nil, or_false] at hx
      rcases hx with rfl | rfl
      · exact hn
      · exact in_nat (by omega))
    simpa using h1
  have hIN2 : ∀ x ∈ [n, (len : Int)], In64 x := fun x hx => by
    simp only [List.mem_cons, List.not_mem_nil, or_false] at hx
    rcases hx with rfl | rfl
    · exact hn
    · exact in_nat (by omega)
  have HIN2 := Lib.hid hIN2
  clear hp hpd hb1 hlo hll hll0 CA hIN2
  go_wp2_with fail
  obtain ⟨W2, hW2⟩ : ∃ z, z = w1.alloc (.cells #[.int .i64 n, .int .i64 (len : Int)] 2) := ⟨_, rfl⟩
  have hr2 : RowAt idK W2 (some ⟨w1.heap.size, 0, none⟩) 2 2 [n, (len : Int)] := by rw [hW2]; exact rowAt_lit idK_ok w1 [n, (len : Int)] (by simp) _ rfl 2 rfl
  have hb2 : Below w1.heap.size w1 W2 := by rw [hW2]; exact (Below.refl _ _).alloc (Nat.le_refl _) _
  rw [← hW2]
  clear hW2
  refine (snNums_any W2 w1.heap.size (.slice none 0 0) [] (ownRow_nil _ _ _) hb2.size (by simp) _ 2 2 _ hr2 (fun a _ e => by cases e) (by omega) HIN2.out).mono ?_
  rintro e w3 ⟨v, rfl, hap⟩
  rw [List.nil_append] at hap
  have HO3 : Hid (OwnRow byteK w3 w1.heap.size v (encsI [n, (len : Int)] ++ pdsS (l.take 0))) := by
    have h1 := hap.1
    show OwnRow _ _ _ _ (_ ++ [])
    rw [List.append_nil]
    exact h1
  have HB3 : Hid (Below w1.heap.size w1 w3) := appended_below hap (ownRow_nil byteK W2 w1.heap.size) hb2 (Nat.le_refl _) hb2.size
  clear hap hr2 hb2 HIN2
  go_wp2
  go_loopw [6, 22] (fun v6 v22 wr => ∃ (j : Nat) (u : Value), u = v6 ∧ v22 = .int .i64 (j : Int) ∧ j ≤ len ∧ Hid (OwnRow byteK wr w1.heap.size u (encsI [n, (len : Int)] ++ pdsS (l.take j))) ∧ Hid (Below w1.heap.size w1 wr)) (fun _ v22 _ => len - (intOf v22).toNat)
  case atStart => exact ⟨0, v, rfl, rfl, Nat.zero_le _, HO3.out, HB3.out⟩
  case round =>
    obtain ⟨j, u, rfl, rfl, hj, HO, HB⟩ := hrel
    clear HO3 HB3
    obtain ⟨wo, hwo⟩ : ∃ wo : World, wo = wr := ⟨_, rfl⟩
    subst hwo
    by_cases hlt : j < len
    · have hd : decide (j < len) = true := decide_eq_true hlt
      have hjl : (j : Int) < (len : Int) := by omega
      obtain ⟨bk, off, m, rfl, hbk, hm, hla, c0, c1, c2, c3⟩ := (H.out.keep HB.out).get hlt
      have hlm := HGET.out j m hm
      have hpin := HIN.out m.p (List.mem_of_getElem? hlm)
      have hp5 := HF.out m.p (List.mem_of_getElem? hlm)
      have HPT := Lib.hid (pdsS_take hlm)
      have hla1 := (H.out.ins m (List.mem_of_getElem? hm))
      obtain ⟨⟨pid, pep, pl, po⟩, pd, pc⟩ := m
      simp only at c0 c1 c2 c3 hp5 HPT
      obtain ⟨i1, i2, i3, i4, i5⟩ := hpin
      simp only at i1 i2 i3 i4 i5
      obtain ⟨pn, hpn⟩ : ∃ q, q = pl.length := ⟨_, rfl⟩
      have hlb : RowAt trK w1 pd pl.length pc pl := hla1
      rw [← hpn] at c2 hp5 hlb i4
      have HPN := Lib.hid hpn
      have HLA := Lib.hid hlb
      have HIT := Lib.hid i5
      obtain ⟨X, hX⟩ : ∃ X, X = encsI [n, (len : Int)] ++ pdsS (l.take j) := ⟨_, rfl⟩
      rw [← hX] at HO
      have HXL : Hid (X.length ≤ 19000020) := by
        show _ ≤ _
        have h1 := HHD.out
        have h2 := HTK.out j
        rw [hX, List.length_append]
        omega
      have HXE : Hid (encsI [n, (len : Int)] ++ pdsS (l.take (j + 1)) = X ++ encsI [pid, pep, po, (pn : Int)] ++ trsS pl) := by
        show _ = _
        rw [HPT.out, hX, pdS_encsI]
        show _ ++ (_ ++ (encsI [pid, pep, po, (pl.length : Int)] ++ trsS pl)) = _
        rw [← hpn]
        simp only [List.append_assoc]
      have HI4 : Hid (∀ x ∈ [pid, pep, po, (pn : Int)], In64 x) := fun x hx => by
        simp only [List.mem_cons, List.not_mem_nil, or_false] at hx
        rcases hx with rfl | rfl | rfl | rfl
        · exact i1
        · exact i2
        · exact i3
        · exact in_nat i4
      clear hm hla hla1 hlm hlb hbk hpn i5 hX HPT i1 i2 i3
      go_upto_region 8 with fail
      obtain ⟨W1, hW1⟩ : ∃ z, z = wo.alloc (.cells #[.int .i64 pid, .int .i64 pep, .slice pd pn pc, .int .i64 po] 78) := ⟨_, rfl⟩
      obtain ⟨P, hP⟩ : ∃ P, P = wo.heap.size := ⟨_, rfl⟩
      have hb : Below wo.heap.size wo W1 := by rw [hW1]; exact (Below.refl _ _).alloc (Nat.le_refl _) _
      have HP : Hid (PBox W1 P pid pep (.slice pd pn pc) po) := by show PBox _ _ _ _ _ _; rw [hW1, hP]; exact pbox_new wo _ _ _ _
      have HNE : Hid (∀ k, u.ownBlock = some k → k ≠ P) := own_ne HO.out (by rw [hP]; exact Nat.le_refl _)
      replace HO := Lib.hid (HO.out.on hb)
      replace HB := Lib.hid (HB.out.trans (hb.mono HB.out.size))
      rw [← hW1, ← hP]
      clear hW1 hP hb c0 c1 c2 c3
      have p0 := HP.out.c0
      have p1 := HP.out.c1
      have p2 := HP.out.c2
      have p3 := HP.out.c3
      go_wp2_with fail
      obtain ⟨W2, hW2⟩ : ∃ z, z = W1.alloc (.cells #[.int .i64 pid, .int .i64 pep, .int .i64 po, .int .i64 (pn : Int)] 2) := ⟨_, rfl⟩
      obtain ⟨g2, hg2⟩ : ∃ z, z = W1.heap.size := ⟨_, rfl⟩
      have hr2 : RowAt idK W2 (some ⟨g2, 0, none⟩) 4 4 [pid, pep, po, (pn : Int)] := by rw [hW2, hg2]; exact rowAt_lit idK_ok W1 [pid, pep, po, (pn : Int)] (by simp) _ rfl 4 rfl
      have hb2 : Below W1.heap.size W1 W2 := by rw [hW2]; exact (Below.refl _ _).alloc (Nat.le_refl _) _
      have hne2 := own_ne HO.out (Nat.le_of_eq hg2.symm)
      have HB2 := Lib.hid (HB.out.trans (hb2.mono HB.out.size))
      rw [← hW2, ← hg2]
      clear hW2 hg2
      refine (snNums_any W2 w1.heap.size u X (HO.out.on hb2) HB2.out.size (by have := HXL.out; omega) _ 4 4 _ hr2 (fun a ha e => by cases ha; exact hne2 _ e.symm rfl) (by omega) HI4.out).mono ?_
      rintro e w5 ⟨v5, rfl, hap⟩
      have HP5 : Hid (PBox w5 P pid pep (.slice pd pn pc) po) := (HP.out.on hb2).grown hap.2.1 (fun e => HNE.out P e rfl)
      have HNE5 : Hid (∀ k, v5.ownBlock = some k → k ≠ P) := app_ne hap (Nat.lt_of_lt_of_le HP.out.lt hb2.size) HNE.out
      have HB5 : Hid (Below w1.heap.size w1 w5) := appended_below hap (HO.out.on hb2) HB2.out (Nat.le_refl _) HB2.out.size
      obtain ⟨Y, hY⟩ : ∃ Y, Y = X ++ encsI [pid, pep, po, (pn : Int)] := ⟨_, rfl⟩
      have HYL : Hid (Y.length ≤ 19000060) := by
        show _ ≤ _
        have h1 := encsI_len HI4.out
        have h2 := HXL.out
        simp only [List.length_cons, List.length_nil] at h1
        rw [hY, List.length_append]
        omega
      have HO5 : Hid (OwnRow byteK w5 w1.heap.size v5 (Y ++ trsS (pl.take 0))) := by
        show OwnRow _ _ _ _ (_ ++ [])
        rw [List.append_nil, hY]
        exact hap.1
      have HYE : Hid (encsI [n, (len : Int)] ++ pdsS (l.take (j + 1)) = Y ++ trsS pl) := by
        show _ = _
        rw [hY]
        exact HXE.out
      clear hap hr2 hb2 hne2 HB2 HO HB HP HNE p0 p1 p2 p3 hY HXE HXL HI4
      have q2 := HP5.out.c2
      go_wp2
      go_loopw [6, 41] (fun v6 v41 wr => ∃ (i : Nat) (u : Value), u = v6 ∧ v41 = .int .i64 (i : Int) ∧ i ≤ pn ∧ Hid (OwnRow byteK wr w1.heap.size u (Y ++ trsS (pl.take i))) ∧ Hid (Below w1.heap.size w1 wr)) (fun _ v41 _ => pn - (intOf v41).toNat)
      case atStart => exact ⟨0, v5, rfl, rfl, Nat.zero_le _, HO5.out, HB5.out⟩
      case round =>
        obtain ⟨i, u6, rfl, rfl, hi, HO6, HB6⟩ := hrel
        clear HO5 HB5 q2 HP5 HNE5
        obtain ⟨wi, hwi⟩ : ∃ wi : World, wi = wr := ⟨_, rfl⟩
        subst hwi
        by_cases hlt2 : i < pn
        · have hd2 : decide (i < pn) = true := decide_eq_true hlt2
          have hil : (i : Int) < (pn : Int) := by omega
          obtain ⟨b2, o2, x, rfl, hb2k, hx, hc⟩ := (HLA.out.keep HB6.out).get hlt2
          obtain ⟨xf, xl, xb⟩ := x
          have d0 : wi.cell? ⟨b2, o2 + i * 3, none⟩ = some (.int .i64 xf) := hc 0 _ rfl
          have d1 : wi.cell? ⟨b2, o2 + i * 3 + 1, none⟩ = some (.int .i64 xl) := hc 1 _ rfl
          have d2 : wi.cell? ⟨b2, o2 + i * 3 + 2, none⟩ = some (.int .i64 xb) := hc 2 _ rfl
          have HXT : Hid (Y ++ trsS (pl.take (i + 1)) = Y ++ trsS (pl.take i) ++ encsI [xf, xl, xb]) := by
            show _ = _
            rw [trsS_take hx, trS_encs, List.append_assoc]
          have HI3 : Hid (∀ y ∈ [xf, xl, xb], In64 y) := fun y hy => by
            have h1 := HIT.out ⟨xf, xl, xb⟩ (List.mem_of_getElem? hx)
            simp only [List.mem_cons, List.not_mem_nil, or_false] at hy
            rcases hy with rfl | rfl | rfl
            · exact h1.1
            · exact h1.2.1
            · exact h1.2.2
          have HTL : Hid ((Y ++ trsS (pl.take i)).length ≤ 20000000) := by
            show _ ≤ _
            have h1 := trsS_len (l := pl.take i) fun y hy => HIT.out y (List.mem_of_mem_take hy)
            have h2 := HYL.out
            rw [List.length_take] at h1
            rw [List.length_append]
            omega
          clear hx hc hb2k
          go_upto_region 12 with fail
          obtain ⟨W6, hW6⟩ : ∃ z, z = wi.alloc (.cells #[.int .i64 xf, .int .i64 xl, .int .i64 xb] 79) := ⟨_, rfl⟩
          obtain ⟨Q, hQ⟩ : ∃ Q, Q = wi.heap.size := ⟨_, rfl⟩
          have hb : Below wi.heap.size wi W6 := by rw [hW6]; exact (Below.refl _ _).alloc (Nat.le_refl _) _
          have HT6 : Hid (RowAt idK W6 (some ⟨Q, 0, none⟩) 3 3 [xf, xl, xb]) := by show RowAt _ _ _ _ _ _; rw [hW6, hQ]; exact (tbox_new wi ⟨xf, xl, xb⟩).row
          have HNE : Hid (∀ k, u6.ownBlock = some k → k ≠ Q) := own_ne HO6.out (by rw [hQ]; exact Nat.le_refl _)
          replace HO6 := Lib.hid (HO6.out.on hb)
          replace HB6 := Lib.hid (HB6.out.trans (hb.mono HB6.out.size))
          rw [← hW6, ← hQ]
          clear hW6 hQ hb d0 d1 d2
          go_wp2_with fail
          refine (snNums_any W6 w1.heap.size u6 _ HO6.out HB6.out.size (by have := HTL.out; omega) _ 3 3 _ HT6.out (fun a ha e => by cases ha; exact HNE.out _ e.symm rfl) (by omega) HI3.out).mono ?_
          rintro e w7 ⟨v7, rfl, hap⟩
          rw [← HXT.out] at hap
          have HB7 : Hid (Below w1.heap.size w1 w7) := appended_below hap HO6.out HB6.out (Nat.le_refl _) HB6.out.size
          have HO7 := Lib.hid hap.1
          clear hap
          go_wp2
          go_roundw
          case rel => exact ⟨i + 1, v7, rfl, rfl, by omega, HO7.out, HB7.out⟩
          case measure => simp [intOf]; omega
        · have hd2 : decide (i < pn) = false := decide_eq_false hlt2
          have hin : i = pn := by omega
          have HO8 : Hid (OwnRow byteK wi w1.heap.size u6 (encsI [n, (len : Int)] ++ pdsS (l.take (j + 1)))) := by
            have h1 := HO6.out
            rw [hin, HPN.out, List.take_length, ← HYE.out] at h1
            exact h1
          clear hin
          go_wp2
          go_roundw
          case rel => exact ⟨j + 1, u6, rfl, rfl, by omega, HO8.out, HB6.out⟩
          case measure => simp [intOf]; omega
    · have hd : decide (j < len) = false := decide_eq_false hlt
      have hjn : j = len := by omega
      have HFIN : Hid (OwnRow byteK wo w1.heap.size u (bodyS l n)) := by
        have h1 := HO.out
        rw [hjn, List.take_of_length_le (by rw [HLL.out]; exact Nat.le_refl _), ← HLL.out, ← body_encs] at h1
        exact h1
      have hAll : CrcMath.AllB (bodyS l n) := bodyS_all ⟨by rw [HLL.out]; omega, HIN.out⟩ hn
      have hbl : (bodyS l n).length ≤ 20000000 := by
        have h1 := HHD.out
        have h2 := HTK.out len
        rw [List.take_of_length_le (by rw [HLL.out]; exact Nat.le_refl _)] at h2
        rw [body_encs, HLL.out, List.length_append]
        omega
      obtain ⟨L, hLe⟩ : ∃ L, (bodyS l n).length = L := ⟨_, rfl⟩
      obtain ⟨ad9, cap9, rfl, hrow9⟩ := own_byt HFIN.out hAll hLe
      rw [hLe] at hbl
      have HROW9 := Lib.hid hrow9
      have HLE := Lib.hid hLe
      have HB9 := Lib.hid (HB1.out.trans (HB.out.mono HB1.out.size))
      clear hjn hAll hLe hrow9 HFIN HO
      go_wp2_with fail
      refine (crcPut_any wo ad9 L cap9 (bodyS l n) HROW9.out.1 (by omega)).mono ?_
      rintro e w9 ⟨g9, rfl, hg9, hown9, hb9⟩
      have HS9 : Hid ((snapS l n).length = L + 4) := by
        show _ = _
        unfold snapS
        rw [CrcMath.length_sealB, HLE.out]
      have HG9 : Hid (w.heap.size ≤ g9) := Nat.le_trans HB9.out.size hg9
      have HOW9 : Hid (Own w9 g9 (snapS l n)) := hown9
      have HBZ := Lib.hid (HB9.out.trans (hb9.mono HB9.out.size))
      clear hg9 hown9 hb9
      go_wp2
      go_ret
      exact ⟨.slice (some ⟨g9, 0, none⟩) (L + 4) (L + 4), rfl, g9, L + 4, by rw [HS9.out], by rw [HS9.out]; exact Nat.le_refl _, HG9.out, HOW9.out.pre, HBZ.out⟩
end Go.Proofs.YtgohekjkbgfeeaaGreat
namespace Go.Proofs.YtgohekjkbgfeeaaGreat
open Go.RowKit
open Go.SnapMath
open Go.ProdMath
open Go.BatMath hiding AllB getD_lt take_all
set_option linter.unusedVariables false

/-- The table at a holds the states l; its parts are no older than B. -/
def TT (B : Nat) (w : World) (a : Addr) (l : List Pd) : Prop := ∃ kt km ps, a = ⟨kt, 0, none⟩ ∧ TcOk w kt km ps ∧ pds ps = l ∧ B ≤ kt ∧ B ≤ km ∧ Asc l
theorem tt_low {B : Nat} {w : World} {a : Addr} {l : List Pd} (h : TT B w a l) : TT 0 w a l := by
  obtain ⟨kt, km, ps, e, h1, h2, h3, h4, h5⟩ := h
  exact ⟨kt, km, ps, e, h1, h2, Nat.zero_le _, Nat.zero_le _, h5⟩
theorem tt_keep {B : Nat} {w w' : World} {a : Addr} {l : List Pd} (h : TT B w a l) (hb : Below w.heap.size w w') : TT B w' a l := by
  obtain ⟨kt, km, ps, e, h1, h2, h3, h4, h5⟩ := h
  exact ⟨kt, km, ps, e, h1.keep hb, h2, h3, h4, h5⟩
theorem tt_fold (W : World) (ad : Option Addr) (len cap : Nat) (ms : List BM) (h : BatsAt W ad len cap ms) (hL : len ≤ 5000) (hok : BatsOk (bats ms)) : Calls Tryz.prog 18 #[.slice ad len cap] W (FoldDoes (TT W.heap.size) W (foldP [] (bats ms))) := by
  refine (tcFold_any W ad len cap ms h (by omega) hok).mono ?_
  rintro e w' ⟨kt, km, ps, rfl, h1, h2, h3, h4, hb⟩
  exact ⟨_, rfl, ⟨kt, km, ps, rfl, h1, h2, h3, h4, fold_asc _ List.Pairwise.nil⟩, hb⟩
theorem tt_new (W : World) : Calls Tryz.prog 36 #[] W (FoldDoes (TT W.heap.size) W []) := by
  refine (tcNew_any W).mono ?_
  rintro e w' ⟨kt, km, rfl, h1, hb, h3, h4⟩
  exact ⟨_, rfl, ⟨kt, km, [], rfl, h1, rfl, h3, h4, List.Pairwise.nil⟩, hb⟩
theorem fold_low {W : World} {l : List Pd} {e : Ending} {w' : World} (h : FoldDoes (TT W.heap.size) W l e w') : FoldDoes (TT 0) W l e w' := by
  obtain ⟨a, e1, h1, h2⟩ := h
  exact ⟨a, e1, tt_low h1, h2⟩
theorem read_low {W : World} {bs : List Nat} {e : Ending} {w' : World} (h : ReadDoes (TT W.heap.size) W bs e w') : ReadDoes (TT 0) W bs e w' := by
  obtain ⟨hb, h1⟩ := h
  refine ⟨hb, ?_⟩
  rcases h1 with ⟨a, l, n, e1, h2, h3⟩ | h1
  · exact .inl ⟨a, l, n, e1, tt_low h2, h3⟩
  · exact .inr h1
theorem snap_code (hread : ∀ W ad len cap bs, Byt W ad len cap bs → bs.length ≤ 1048600 → Calls Tryz.prog 19 #[.slice ad len cap] W (ReadDoes (TT W.heap.size) W bs)) : SnapCode (TT 0) where
  keep := fun W W' a l h hb => tt_keep h hb
  all := fun W a l h hf hL => by
    obtain ⟨kt, km, ps, rfl, h1, rfl, h3, h4, h5⟩ := h
    refine (tcAll_any W kt km ps h1 h5 hf (by unfold pds at hL; rw [List.length_map] at hL; exact hL)).mono ?_
    rintro e w' ⟨ad, n, cap, os, rfl, h6, h7, hb⟩
    exact ⟨ad, n, cap, os, rfl, h6, h7, hb⟩
  fold := fun W ad len cap ms h hL hok => (tt_fold W ad len cap ms h hL hok).mono fun e w' h => fold_low h
  bytes := fun W a l n h hac hL h0 h1 => by
    obtain ⟨kt, km, ps, rfl, g1, rfl, g3, g4, g5⟩ := h
    exact snWrite_any W kt km ps g1 hac (by unfold pds at hL; rw [List.length_map] at hL; omega) n ⟨by omega, by omega⟩
  read := fun W ad len cap bs h hL => (hread W ad len cap bs h hL).mono fun e w' h => read_low h
theorem snap_more (hread : ∀ W ad len cap bs, Byt W ad len cap bs → bs.length ≤ 1048600 → Calls Tryz.prog 19 #[.slice ad len cap] W (ReadDoes (TT W.heap.size) W bs)) : SnapMore TT where
  code := snap_code hread
  low := fun B W a l h => tt_low h
  keep := fun B W W' a l h hb => tt_keep h hb
  fold := tt_fold
  read := hread
  apply := fun B W a l b rd rn rc h hB ha hf hr ht hrn hp => by
    obtain ⟨kt, km, ps, rfl, g1, rfl, g3, g4, g5⟩ := h
    refine (tcApply_any W kt km ps g1 ha hf b rd rn rc hr ht hrn hp).mono ?_
    rintro e w' ⟨d, ms, rfl, _, h1, h2, hg⟩
    exact ⟨⟨_, rfl⟩, ⟨kt, km, ms, rfl, h1, h2, g3, g4, tapply_asc ha b⟩, below_grown hg g4 hB⟩
end Go.Proofs.YtgohekjkbgfeeaaGreat
namespace Go.Proofs.YtgohekjkbgfeeaaGreat
open Go.RowKit
open Go.SnapMath
open Go.ProdMath
open Go.BatMath hiding AllB getD_lt take_all
set_option linter.unusedVariables false

/-- crc.Check in one piece. -/
theorem checkS_any (w : World) (ad : Option Addr) (len cap : Nat) (bs : List Nat) (h : Byt w ad len cap bs) (hL : len ≤ 140737488355328) :
    Calls Tryz.prog 39 #[.slice ad len cap] w (GivesUns w bs) := by
  have hall := h.all
  refine (check_any w ad len cap bs h hL).mono ?_
  rintro e w' ⟨h1, h2⟩
  cases hk : CrcMath.okB bs with
  | false =>
    obtain ⟨rfl, hb⟩ := h1 hk
    have ho : openS bs = ([], true) := by unfold openS; rw [hk]; rfl
    unfold GivesUns
    rw [ho]
    exact ⟨none, 0, 0, rfl, Byt.nil _, hb⟩
  | true =>
    obtain ⟨g, m, hm, rfl, hg, hown, hb⟩ := h2 hk
    have ho : openS bs = (bs.drop 4, false) := by unfold openS; rw [hk]; rfl
    have hm2 : (bs.drop 4).length = m := by rw [List.length_drop, h.length]; omega
    have h9 := hown.byt (fun x hx => hall x (List.mem_of_mem_drop hx)) m (by omega)
    rw [hm2] at h9
    unfold GivesUns
    rw [ho]
    exact ⟨_, _, _, rfl, h9, hb⟩
theorem snap_ok0 {bs : List Nat} (h : (openS bs).2 = false) : CrcMath.okB bs = true ∧ (openS bs).1 = bs.drop 4 := by
  unfold openS at *
  cases hk : CrcMath.okB bs with
  | true => exact ⟨rfl, rfl⟩
  | false => rw [hk] at h; cases h
theorem snap_ok1 {bs : List Nat} (h : (openS bs).2 = true) : CrcMath.okB bs = false := by
  unfold openS at h
  cases hk : CrcMath.okB bs with
  | true => rw [hk] at h; cases h
  | false => rfl
set_option maxRecDepth 100000 in
set_option maxHeartbeats 8000000 in
theorem snReadC_any (w : World) (ad : Option Addr) (len cap : Nat) (bs : List Nat) (h : Byt w ad len cap bs) (hL : bs.length ≤ 1048600) :
    Calls Tryz.prog 19 #[.slice ad len cap] w (ReadDoes (TT w.heap.size) w bs) := by
  have H := Lib.hid h
  have HALL := Lib.hid h.all
  have hlen := h.length
  have HLL : Hid (len ≤ 140737488355328) := by show _ ≤ _; omega
  have HL := Lib.hid hL
  clear h hL hlen
  go_enter Tryz.func19, Tryz.ntmps19
  go_wp2_with fail
  refine (checkS_any w ad len cap bs H.out HLL.out).mono ?_
  rintro e w1 ⟨ad1, len1, cap1, rfl, hy1, hb1⟩
  have HY1 := Lib.hid hy1
  have HB1 := Lib.hid hb1
  clear hy1 hb1
  obtain ⟨q, hq⟩ : ∃ q, (openS bs).2 = q := ⟨_, rfl⟩
  rw [hq]
  cases q with
  | true =>
    have HNO := Lib.hid (snap_no HL.out (.inl (snap_ok1 hq)))
    clear hq
    go_wp2
    go_ret3
    exact ⟨HB1.out, .inr ⟨rfl, HNO.out⟩⟩
  | false =>
    obtain ⟨hok, hdr⟩ := snap_ok0 hq
    rw [hdr] at HY1
    have HOK := Lib.hid hok
    obtain ⟨b0, hb0⟩ : ∃ b0, bs.drop 4 = b0 := ⟨_, rfl⟩
    rw [hb0] at HY1
    have HB0 := Lib.hid hb0
    have hb0l : b0.length ≤ 1048600 := by have := HL.out; rw [← hb0, List.length_drop]; omega
    have HB0L := Lib.hid hb0l
    obtain ⟨⟨n, c, g⟩, e1⟩ : ∃ r, rdN b0 false = r := ⟨_, rfl⟩
    have l1 := (rdN_len b0 false).1
    have hin := rdN_in b0 false
    rw [e1] at l1 hin
    simp only at l1 hin
    have HCL : Hid (c.length ≤ 1048600) := Nat.le_trans l1 hb0l
    have HE1 := Lib.hid e1
    have HIN := Lib.hid hin
    clear hq hok hdr hb0 hb0l e1 l1 hin
    go_upto_region 5 with fail
    obtain ⟨W1, hW1⟩ : ∃ z, z = w1.alloc (.cells #[.slice ad1 len1 cap1, .bool false] 96) := ⟨_, rfl⟩
    obtain ⟨k, hk⟩ : ∃ k, k = w1.heap.size := ⟨_, rfl⟩
    have hb2 : Below w1.heap.size w1 W1 := by rw [hW1]; exact (Below.refl _ _).alloc (Nat.le_refl _) _
    have HRD : Hid (KrAt w1 W1 k b0 false) := by
      show KrAt _ _ _ _ _
      refine ⟨by rw [hk]; exact Nat.le_refl _, hb2, ⟨ad1, len1, cap1, by rw [hW1, hk]; exact kbox_new w1 _ _, HY1.out⟩, fun h => by cases h⟩
    have HB2 : Hid (Below w.heap.size w W1) := HB1.out.trans (hb2.mono HB1.out.size)
    have HWK : Hid (w.heap.size ≤ k) := by show _ ≤ _; rw [hk]; exact HB1.out.size
    rw [← hW1, ← hk]
    clear hW1 hk hb2 HB1 HY1
    go_wp2_with fail
    refine (snNext_any w1 W1 k _ _ HRD.out (Nat.le_trans HB0L.out (by omega))).mono ?_
    rintro e W2 ⟨rfl, hr, hg⟩
    rw [HE1.out] at hr ⊢
    have HRD2 := Lib.hid hr
    have HB3 := Lib.hid (HB2.out.trans (below_grown hg HWK.out HB2.out.size))
    clear hr hg HRD HB2
    go_wp2_with fail
    refine (snTable_any w1 W2 k _ _ HRD2.out HCL.out).mono ?_
    rintro e W3 ⟨hg, ⟨kt, km, ps, r, rfl, ht, hkt, hkm, hr, hg0, hts⟩ | ⟨rfl, hno⟩⟩
    · have HB4 := Lib.hid (HB3.out.trans (below_grown hg HWK.out HB3.out.size))
      have HT := Lib.hid ht
      have HKT : Hid (w.heap.size ≤ kt ∧ w.heap.size ≤ km) := by have := HB3.out.size; show _ ∧ _; omega
      have HTS := Lib.hid hts
      subst hg0
      obtain ⟨ra, rn, rc, hkb, hby⟩ := hr.box
      have HRL : Hid (r.length = rn) := hby.length
      have q0 := hkb.c0
      clear hg ht hkt hkm hr hts hkb hby HRD2
      by_cases hn0 : n < 0
      · have hd0 : decide (n < 0) = true := decide_eq_true hn0
        have HNO := Lib.hid (snap_no HL.out (.inr ⟨n, c, false, by rw [HB0.out]; exact HE1.out, .inr (.inl hn0)⟩))
        go_wp2
        go_ret3
        exact ⟨HB4.out, .inr ⟨rfl, HNO.out⟩⟩
      · have hd0 : decide (n < 0) = false := decide_eq_false hn0
        by_cases hn1 : 1099511627776 < n
        · have hd1 : decide (1099511627776 < n) = true := decide_eq_true hn1
          have HNO := Lib.hid (snap_no HL.out (.inr ⟨n, c, false, by rw [HB0.out]; exact HE1.out, .inr (.inr (.inl hn1))⟩))
          go_wp2
          go_ret3
          exact ⟨HB4.out, .inr ⟨rfl, HNO.out⟩⟩
        · have hd1 : decide (1099511627776 < n) = false := decide_eq_false hn1
          by_cases hr0 : 0 < rn
          · have hd2 : decide (0 < rn) = true := decide_eq_true hr0
            have hd2i : decide ((0 : Int) < (rn : Int)) = true := decide_eq_true (by omega)
            have HNO := Lib.hid (snap_no HL.out (.inr ⟨n, c, false, by rw [HB0.out]; exact HE1.out, .inr (.inr (.inr (.inr ⟨_, r, fun e => by have := HRL.out; rw [e] at this; simp at this; omega, HTS.out⟩)))⟩))
            go_wp2
            go_ret3
            exact ⟨HB4.out, .inr ⟨rfl, HNO.out⟩⟩
          · have hd2 : decide (0 < rn) = false := decide_eq_false hr0
            have hd2i : decide ((0 : Int) < (rn : Int)) = false := decide_eq_false (by omega)
            have HRN : Hid (r = []) := by
              show r = []
              exact List.eq_nil_of_length_eq_zero (by have := HRL.out; omega)
            have HYES : Hid (IsSnap bs (pds ps) n) := by
              have h1 := HTS.out
              rw [HRN.out] at h1
              exact tab_snap HALL.out HOK.out (by rw [HB0.out]; exact HE1.out) h1 (by omega) (by omega)
            have HASC : Hid (Asc (pds ps)) := HTS.out.1.asc
            go_wp2
            go_ret3
            exact ⟨HB4.out, .inl ⟨_, pds ps, n, rfl, ⟨kt, km, ps, rfl, HT.out, rfl, HKT.out.1, HKT.out.2, HASC.out⟩, HYES.out⟩⟩
    · have HB4 := Lib.hid (HB3.out.trans (below_grown hg HWK.out HB3.out.size))
      have HNO := Lib.hid (snap_no HL.out (.inr ⟨n, c, g, by rw [HB0.out]; exact HE1.out, by
        rcases hno with h | h
        · exact .inl h
        · exact .inr (.inr (.inr (.inl h)))⟩))
      clear hg hno
      go_wp2
      go_ret3
      exact ⟨HB4.out, .inr ⟨rfl, HNO.out⟩⟩
end Go.Proofs.YtgohekjkbgfeeaaGreat
namespace Go.SnapMath
set_option linter.unusedVariables false
section
variable {α : Type} {k : α → Int}
/-- In the order of their numbers, each number once. -/
def AscK (k : α → Int) (l : List α) : Prop := l.Pairwise fun a b => k a < k b
theorem AscK.nil : AscK k ([] : List α) := List.Pairwise.nil
theorem AscK.tail {a : α} {l : List α} (h : AscK k (a :: l)) : AscK k l := (List.pairwise_cons.1 h).2
theorem AscK.head {a : α} {l : List α} (h : AscK k (a :: l)) : ∀ x ∈ l, k a < k x := (List.pairwise_cons.1 h).1
/-- Two lists in order of the same things are one. -/
theorem AscK.one : ∀ {l l' : List α}, AscK k l → AscK k l' → (∀ x, x ∈ l ↔ x ∈ l') → l = l'
  | [], [], _, _, _ => rfl
  | [], b :: l', _, _, h => by have := (h b).2 (by simp); cases this
  | a :: l, [], _, _, h => by have := (h a).1 (by simp); cases this
  | a :: l, b :: l', h1, h2, h => by
    have e : a = b := by
      rcases List.mem_cons.1 ((h a).1 (by simp)) with e | ha
      · exact e
      · rcases List.mem_cons.1 ((h b).2 (by simp)) with e | hb
        · exact e.symm
        · have c1 := h2.head a ha
          have c2 := h1.head b hb
          omega
    subst e
    refine congrArg (a :: ·) (AscK.one h1.tail h2.tail fun x => ⟨fun hx => ?_, fun hx => ?_⟩)
    · rcases List.mem_cons.1 ((h x).1 (by simp [hx])) with e | hx'
      · subst e; have := h1.head _ hx; omega
      · exact hx'
    · rcases List.mem_cons.1 ((h x).2 (by simp [hx])) with e | hx'
      · subst e; have := h2.head _ hx; omega
      · exact hx'
theorem AscK.at {l : List α} (h : AscK k l) {i j : Nat} {a b : α} (hij : i < j) (ha : l[i]? = some a) (hb : l[j]? = some b) : k a < k b := by
  obtain ⟨hi, e1⟩ := List.getElem?_eq_some_iff.1 ha
  obtain ⟨hj, e2⟩ := List.getElem?_eq_some_iff.1 hb
  have := List.pairwise_iff_getElem.1 h i j hi hj hij
  rw [e1, e2] at this
  exact this
/-- Put in its place. -/
theorem AscK.put {l : List α} (h : AscK k l) {i : Nat} (hi : i ≤ l.length) {s : α} (hge : ∀ j x, i ≤ j → l[j]? = some x → k s < k x) (hlt : i = 0 ∨ ∃ x, l[i - 1]? = some x ∧ k x < k s) : AscK k (l.take i ++ s :: l.drop i) := by
  have h1 : AscK k (l.take i) := List.Pairwise.sublist (List.take_sublist i l) h
  have h2 : AscK k (l.drop i) := List.Pairwise.sublist (List.drop_sublist i l) h
  have hd : ∀ x ∈ l.drop i, k s < k x := fun x hx => by
    obtain ⟨j, hj⟩ := List.mem_iff_getElem?.1 hx
    rw [List.getElem?_drop] at hj
    exact hge _ x (Nat.le_add_right i j) hj
  have ht : ∀ x ∈ l.take i, k x < k s := fun x hx => by
    obtain ⟨j, hj⟩ := List.mem_iff_getElem?.1 hx
    have hjl := (List.getElem?_eq_some_iff.1 hj).1
    rw [List.length_take] at hjl
    rw [List.getElem?_take_of_lt (by omega)] at hj
    rcases hlt with e | ⟨y, hy, hys⟩
    · omega
    · rcases Nat.lt_or_ge j (i - 1) with hji | hji
      · have := h.at hji hj hy
        omega
      · have e : j = i - 1 := by omega
        rw [e, hy] at hj
        cases hj
        exact hys
  refine List.pairwise_append.2 ⟨h1, List.pairwise_cons.2 ⟨hd, h2⟩, fun a ha b hb => ?_⟩
  rcases List.mem_cons.1 hb with e | hb
  · rw [e]; exact ht a ha
  · have c1 := ht a ha
    have c2 := hd b hb
    omega
/-- It stands there already. -/
theorem AscK.in {l : List α} (h : AscK k l) {s : α} (hs : s ∈ l) {i : Nat} (hi : i ≤ l.length) (hge : ∀ j x, i ≤ j → l[j]? = some x → k s < k x) (hlt : i = 0 ∨ ∃ x, l[i - 1]? = some x ∧ k x ≤ k s) : 0 < i ∧ l[i - 1]? = some s := by
  obtain ⟨j, hj⟩ := List.mem_iff_getElem?.1 hs
  have hji : j < i := by
    rcases Nat.lt_or_ge j i with h | h
    · exact h
    · have := hge j s h hj; omega
  refine ⟨by omega, ?_⟩
  rcases hlt with e | ⟨x, hx, hxs⟩
  · omega
  · rcases Nat.lt_or_ge j (i - 1) with h2 | h2
    · have := h.at h2 hj hx; omega
    · rw [show i - 1 = j by omega]; exact hj
/-- The greatest that is at most e. -/
def BestK (k : α → Int) (l : List α) (e : Int) : Option α → Prop
  | none => ∀ x ∈ l, e < k x
  | some a => a ∈ l ∧ k a ≤ e ∧ ∀ x ∈ l, k x ≤ e → k x ≤ k a
theorem BestK.one {l : List α} {e : Int} {a b : Option α} (hinj : ∀ x ∈ l, ∀ y ∈ l, k x = k y → x = y) (ha : BestK k l e a) (hb : BestK k l e b) : a = b := by
  cases a with
  | none =>
    cases b with
    | none => rfl
    | some b =>
      obtain ⟨h1, h2, _⟩ := hb
      have := ha b h1
      omega
  | some a =>
    cases b with
    | none =>
      obtain ⟨h1, h2, _⟩ := ha
      have := hb a h1
      omega
    | some b =>
      obtain ⟨a1, a2, a3⟩ := ha
      obtain ⟨b1, b2, b3⟩ := hb
      have c1 := a3 b b1 b2
      have c2 := b3 a a1 a2
      rw [hinj a a1 b b1 (by omega)]
theorem BestK.nil (e : Int) : BestK k ([] : List α) e none := fun x hx => by cases hx
/-- One more at the end, that is seen. -/
theorem BestK.snoc {l : List α} {e : Int} {b : Option α} {s : α} (h : BestK k l e b) : BestK k (l ++ [s]) e (if k s ≤ e ∧ (∀ a, b = some a → k a < k s) then some s else b) := by
  have hm : ∀ x, x ∈ l ++ [s] ↔ x ∈ l ∨ x = s := fun x => by rw [List.mem_append, List.mem_singleton]
  split
  · rename_i hc
    refine ⟨(hm s).2 (.inr rfl), hc.1, fun x hx hxe => ?_⟩
    rcases (hm x).1 hx with hx | hx
    · cases b with
      | none => have := h x hx; omega
      | some a => have c1 := h.2.2 x hx hxe; have c2 := hc.2 a rfl; omega
    · rw [hx]; exact Int.le_refl _
  · rename_i hc
    cases b with
    | none =>
      intro x hx
      rcases (hm x).1 hx with hx | hx
      · exact h x hx
      · rw [hx]
        have : ¬ k s ≤ e := fun h1 => hc ⟨h1, fun a ha => (by cases ha)⟩
        omega
    | some a =>
      refine ⟨(hm a).2 (.inl h.1), h.2.1, fun x hx hxe => ?_⟩
      rcases (hm x).1 hx with hx | hx
      · exact h.2.2 x hx hxe
      · rw [hx] at hxe ⊢
        have : ¬ k a < k s := fun h1 => hc ⟨hxe, fun a' ha => by cases ha; exact h1⟩
        omega
end
end Go.SnapMath
namespace Go.Proofs.YtgohekjkbgfeeaaGreat
open Go.RowKit
open Go.SnapMath
set_option linter.unusedVariables false

theorem infoName : (Tryz.prog.info? 9).map (fun i => (i.zero, i.size, i.bytes)) = some (some (.string ⟨#[]⟩), 1, 16) := by kernel_rfl
def nameK : Kind ByteArray := ⟨fun s => [.string s], 1, 9, 39⟩
theorem nameK_ok : nameK.Ok 16 where
  und := Tryz.underlying39
  info := by
    obtain ⟨i, hi, hz, hs, hb⟩ := info_parts infoName
    exact ⟨i, _, hi, hz, hs, hb, rfl⟩
  len := fun _ => rfl
  pos := by decide
  one := fun r u hu => by
    simp only [nameK, List.mem_cons, List.not_mem_nil, or_false] at hu
    subst hu
    rfl
  few := by decide
def snapT : ByteArray := ⟨#[115, 110, 97, 112, 115, 104, 111, 116]⟩
/-- Names with their numbers, if they are snapshots', and what the document's Parse and Less say of them. -/
structure NamesAre (ns : List ByteArray) (P : ByteArray → Option Int) : Prop where
  parse : ∀ W s, s ∈ ns → Calls Tryz.prog 31 #[.string s] W (fun e w' => Below W.heap.size W w' ∧ ((∃ n, P s = some n ∧ e = .returned (.tuple #[.int .i64 n, .string snapT, .bool true])) ∨ (P s = none ∧ ∃ n kd ok, e = .returned (.tuple #[.int .i64 n, .string kd, .bool ok]) ∧ (ok = false ∨ (kd.toList == [115, 110, 97, 112, 115, 104, 111, 116]) = false))))
  less : ∀ W s t a b, s ∈ ns → t ∈ ns → P s = some a → P t = some b → Calls Tryz.prog 32 #[.string s, .string t] W (fun e w' => e = .returned (.bool (decide (a < b))) ∧ Below W.heap.size W w')
  inj : ∀ s ∈ ns, ∀ t ∈ ns, ∀ a, P s = some a → P t = some a → s = t
  pos : ∀ s ∈ ns, ∀ a, P s = some a → 0 ≤ a ∧ a ≤ 1099511627776
def keyP (P : ByteArray → Option Int) (s : ByteArray) : Int := (P s).getD 0
def snapsP (P : ByteArray → Option Int) (l : List ByteArray) : List ByteArray := l.filter fun s => (P s).isSome
/-- What the code's two functions are to give. -/
def LatestDoes (w : World) (P : ByteArray → Option Int) (ns : List ByteArray) (end0 : Int) (e : Ending) (w' : World) : Prop :=
  ∃ b : Option ByteArray, e = .returned (.tuple #[.string (b.getD ⟨#[]⟩), .bool b.isSome]) ∧ BestK (keyP P) (snapsP P ns) end0 b ∧ Below w.heap.size w w'
def OldDoes (w : World) (P : ByteArray → Option Int) (ns : List ByteArray) (keep : Int) (e : Ending) (w' : World) : Prop :=
  ∃ ad n cap S, e = .returned (.slice ad n cap) ∧ RowAt nameK w' ad n cap (S.take (S.length - keep.toNat)) ∧ AscK (keyP P) S ∧ (∀ x, x ∈ S ↔ x ∈ snapsP P ns) ∧ Below w.heap.size w w'
end Go.Proofs.YtgohekjkbgfeeaaGreat
namespace Go.RuneMath
open Go.Lib
set_option linter.unusedVariables false

def runesF : Nat → List UInt8 → List Nat
  | 0, _ => []
  | n + 1, l => if l = [] then [] else (decodeL l).1 :: runesF n (l.drop (decodeL l).2)
def runes (l : List UInt8) : List Nat := runesF l.length l
theorem runesF_nil : ∀ n, runesF n [] = []
  | 0 => rfl
  | _ + 1 => by simp [runesF]
theorem runesF_fuel : ∀ (n m : Nat) (l : List UInt8), l.length ≤ n → l.length ≤ m → runesF n l = runesF m l
  | 0, m, l, hn, _ => by
    have : l = [] := List.eq_nil_of_length_eq_zero (by omega)
    subst this
    rw [runesF_nil, runesF_nil]
  | n + 1, 0, l, _, hm => by
    have : l = [] := List.eq_nil_of_length_eq_zero (by omega)
    subst this
    rw [runesF_nil, runesF_nil]
  | n + 1, m + 1, l, hn, hm => by
    by_cases hne : l = []
    · subst hne
      rw [runesF_nil, runesF_nil]
    · have hw := decodeL_width l
      have hl : 0 < l.length := List.length_pos_iff.2 hne
      simp only [runesF, if_neg hne]
      rw [runesF_fuel n m _ (by rw [List.length_drop]; omega) (by rw [List.length_drop]; omega)]
theorem runes_nil : runes [] = [] := rfl
theorem runes_cons {l : List UInt8} (hne : l ≠ []) : runes l = (decodeL l).1 :: runes (l.drop (decodeL l).2) := by
  have hw := decodeL_width l
  have hl : 0 < l.length := List.length_pos_iff.2 hne
  unfold runes
  obtain ⟨n, hn⟩ : ∃ n, l.length = n + 1 := ⟨l.length - 1, by omega⟩
  rw [hn]
  simp only [runesF, if_neg hne]
  rw [runesF_fuel n _ _ (by rw [List.length_drop]; omega) (Nat.le_refl _)]
/-! ### at a place of a string -/
def rs (s : ByteArray) (pos : Nat) : List Nat := runes (s.data.toList.drop pos)
theorem rs_zero (s : ByteArray) : rs s 0 = runes s.data.toList := by unfold rs; rw [List.drop_zero]
theorem rs_end {s : ByteArray} {pos : Nat} (h : ¬ pos < s.size) : rs s pos = [] := by
  unfold rs
  rw [List.drop_eq_nil_of_le (by rw [← size_eq]; omega)]
  rfl
theorem drop_ne {s : ByteArray} {pos : Nat} (h : pos < s.size) : s.data.toList.drop pos ≠ [] := by
  intro h0
  have := congrArg List.length h0
  rw [List.length_drop, ← size_eq] at this
  simp at this
  omega
theorem rs_step {s : ByteArray} {pos : Nat} (h : pos < s.size) : rs s pos = (Utf8.decode s pos).1 :: rs s (pos + (Utf8.decode s pos).2) := by
  unfold rs
  rw [runes_cons (drop_ne h), decodeL_drop, List.drop_drop]

/-! ### encodings -/
def Scal (r : Nat) : Prop := r < 55296 ∨ (57343 < r ∧ r ≤ 1114111)
def enc (r : Nat) : List UInt8 := encodeRune (r : Int)
def encs (rs : List Nat) : List UInt8 := rs.flatMap enc
theorem encs_nil : encs [] = [] := rfl
theorem encs_cons (r : Nat) (l : List Nat) : encs (r :: l) = enc r ++ encs l := rfl
theorem encs_append (a b : List Nat) : encs (a ++ b) = encs a ++ encs b := by simp [encs]
theorem enc_len (r : Nat) : (enc r).length ≤ 4 := by
  unfold enc
  rw [← runeCells_length]
  exact (runeCells_le _).2
theorem encs_len : ∀ l : List Nat, (encs l).length ≤ 4 * l.length
  | [] => by simp [encs]
  | r :: l => by
    rw [encs_cons, List.length_append, List.length_cons]
    have := encs_len l
    have := enc_len r
    omega

/-! ### one row behind another -/
theorem runes_ascii (c : UInt8) (t : List UInt8) (h : c.toNat < 128) : runes (c :: t) = c.toNat :: runes t := by
  rw [runes_cons (by simp), decodeL_ascii c t h]
  simp
theorem runes_low : ∀ (l : List UInt8), (∀ c ∈ l, c.toNat < 128) → ∀ t, runes (l ++ t) = l.map (·.toNat) ++ runes t
  | [], _, t => rfl
  | c :: l, h, t => by
    rw [List.cons_append, runes_ascii c _ (h c (by simp)), runes_low l (fun x hx => h x (by simp [hx])) t]
    rfl
/-! ### names that may be -/
def okR (r : Nat) : Bool := (decide (97 ≤ r) && decide (r ≤ 122)) || (decide (48 ≤ r) && decide (r ≤ 57)) || decide (r = 46) || decide (r = 45) || decide (r = 95) || (decide (255 < r) && decide (r ≠ 65533))
def rightR (l : List Nat) : Bool := l.all okR && decide (1 ≤ l.length) && decide (l.length ≤ 40)
def rightB (l : List UInt8) : Bool := rightR (runes l)
/-! ### the order -/
/-! ### twenty digits -/
def dig (n : Nat) : Nat → List UInt8
  | 0 => []
  | k + 1 => dig (n / 10) k ++ [UInt8.ofNat (48 + n % 10)]
theorem dig_len : ∀ n k, (dig n k).length = k
  | _, 0 => rfl
  | n, k + 1 => by rw [dig, List.length_append, dig_len (n / 10) k]; rfl
theorem digit_nat (n : Nat) : (UInt8.ofNat (48 + n % 10)).toNat = 48 + n % 10 := by simp; omega
theorem dig_all : ∀ n k, ∀ c ∈ dig n k, 48 ≤ c.toNat ∧ c.toNat ≤ 57
  | _, 0, c, h => by simp [dig] at h
  | n, k + 1, c, h => by
    rw [dig] at h
    rcases List.mem_append.1 h with h | h
    · exact dig_all _ _ c h
    · rw [List.mem_singleton] at h
      subst h
      rw [digit_nat]
      omega
def valD (l : List UInt8) : Nat := l.foldl (fun a c => 10 * a + (c.toNat - 48)) 0
theorem valD_snoc (l : List UInt8) (c : UInt8) : valD (l ++ [c]) = 10 * valD l + (c.toNat - 48) := by simp [valD]
theorem valD_dig : ∀ k n, n < 10 ^ k → valD (dig n k) = n
  | 0, n, h => by simp at h; subst h; rfl
  | k + 1, n, h => by
    rw [dig, valD_snoc, valD_dig k (n / 10) (by rw [Nat.pow_succ] at h; omega), digit_nat]
    omega
theorem dig_take : ∀ j k n, (dig n (j + k)).take j = dig (n / 10 ^ k) j
  | j, 0, n => by simp [List.take_of_length_le, dig_len]
  | j, k + 1, n => by
    rw [← Nat.add_assoc, dig, List.take_append_of_le_length (by rw [dig_len]; omega), dig_take j k (n / 10), Nat.div_div_eq_div_mul]
    congr 2
    rw [Nat.pow_succ, Nat.mul_comm]
theorem low_dig (n k : Nat) : ∀ c ∈ dig n k, c.toNat < 128 := fun c h => by have := dig_all n k c h; omega
/-! ### names of files -/
def okFile (n : Int) (k : List UInt8) : Bool := decide (0 ≤ n) && decide (n ≤ 1099511627776) && rightB k && !(k.contains 46)
def fileL (n : Nat) (k : List UInt8) : List UInt8 := dig n 20 ++ 46 :: k
def fileS (n : Int) (k : List UInt8) : List UInt8 := if okFile n k then fileL n.toNat k else []
def parseK (l : List UInt8) : Bool := okFile (valD (l.take 20)) (l.drop 21) && decide (fileL (valD (l.take 20)) (l.drop 21) = l)
def parseN (l : List UInt8) : Nat := if parseK l then valD (l.take 20) else 0
def parseS (l : List UInt8) : List UInt8 := if parseK l then l.drop 21 else []
theorem lim20 : (1099511627776 : Nat) < 10 ^ 20 := by decide
theorem file_take {n : Nat} (h : n ≤ 1099511627776) (k : List UInt8) : valD ((fileL n k).take 20) = n := by
  unfold fileL
  rw [List.take_append_of_le_length (by rw [dig_len]; omega), List.take_of_length_le (by rw [dig_len]; omega)]
  exact valD_dig 20 n (Nat.lt_of_le_of_lt h lim20)
theorem file_drop (n : Nat) (k : List UInt8) : (fileL n k).drop 21 = k := by
  unfold fileL
  rw [List.drop_append, dig_len, List.drop_of_length_le (by rw [dig_len]; omega)]
  rfl
theorem ok_nat {n : Nat} {k : List UInt8} (h : okFile n k = true) : n ≤ 1099511627776 ∧ rightB k = true ∧ k.contains 46 = false := by
  unfold okFile at h
  simp only [Bool.and_eq_true, decide_eq_true_eq, Bool.not_eq_true'] at h
  exact ⟨by omega, h.1.2, h.2⟩
/-- What a file is named is parsed again. -/
theorem parse_file {n : Nat} {k l : List UInt8} (ho : okFile n k = true) (hl : fileL n k = l) : parseK l = true ∧ valD (l.take 20) = n ∧ l.drop 21 = k := by
  have h1 := (ok_nat ho).1
  subst hl
  rw [parseK, file_take h1, file_drop, ho]
  simp
/-- What is parsed is a file's name. -/
theorem parse_is {l : List UInt8} (h : parseK l = true) : okFile (valD (l.take 20)) (l.drop 21) = true ∧ fileL (valD (l.take 20)) (l.drop 21) = l := by
  unfold parseK at h
  simp only [Bool.and_eq_true, decide_eq_true_eq] at h
  exact h
theorem parse_yes {n : Nat} {k l : List UInt8} (ho : okFile n k = true) (hl : fileL n k = l) : parseK l = true ∧ parseN l = n ∧ parseS l = k := by
  obtain ⟨h1, h2, h3⟩ := parse_file ho hl
  refine ⟨h1, ?_, ?_⟩
  · rw [parseN, if_pos h1, h2]
  · rw [parseS, if_pos h1, h3]
theorem parse_no {l : List UInt8} (h : parseK l = false) : parseN l = 0 ∧ parseS l = [] := by
  refine ⟨?_, ?_⟩
  · rw [parseN, if_neg (by rw [h]; simp)]
  · rw [parseS, if_neg (by rw [h]; simp)]
/-! ### the number that stands in front -/
def numR : Nat → List Nat → Option Nat
  | n, [] => some n
  | n, r :: l => if 48 ≤ r ∧ r ≤ 57 then (if 1099511627776 < 10 * n + (r - 48) then none else numR (10 * n + (r - 48)) l) else none
theorem numR_val : ∀ (l p : List UInt8), (∀ c ∈ l, 48 ≤ c.toNat ∧ c.toNat ≤ 57) → (∀ j, valD (p ++ l.take j) ≤ 1099511627776) → numR (valD p) (l.map (·.toNat)) = some (valD (p ++ l))
  | [], p, _, _ => by simp [numR]
  | c :: l, p, hd, hv => by
    have h1 := hd c (by simp)
    have h2 := hv 1
    rw [List.take_succ_cons, List.take_zero, valD_snoc] at h2
    rw [List.map_cons, numR, if_pos h1, if_neg (by omega), ← valD_snoc, numR_val l (p ++ [c]) (fun x hx => hd x (by simp [hx])) (fun j => by have := hv (j + 1); rwa [List.take_succ_cons, ← List.singleton_append, ← List.append_assoc] at this)]
    simp
theorem num_dig {n : Nat} (h : n ≤ 1099511627776) : numR 0 (runes (dig n 20)) = some n := by
  have e := runes_low (dig n 20) (low_dig n 20) []
  rw [List.append_nil, runes_nil, List.append_nil] at e
  rw [e]
  have := numR_val (dig n 20) [] (dig_all n 20) (fun j => ?_)
  · rw [List.nil_append, valD_dig 20 n (Nat.lt_of_le_of_lt h lim20)] at this
    exact this
  · rw [List.nil_append]
    by_cases hj : j ≤ 20
    · have e2 := dig_take j (20 - j) n
      rw [show j + (20 - j) = 20 by omega] at e2
      rw [e2, valD_dig]
      · exact Nat.le_trans (Nat.div_le_self _ _) h
      · rw [Nat.div_lt_iff_lt_mul (Nat.pow_pos (by omega)), ← Nat.pow_add, show j + (20 - j) = 20 by omega]
        exact Nat.lt_of_le_of_lt h lim20
    · rw [List.take_of_length_le (by rw [dig_len]; omega), valD_dig 20 n (Nat.lt_of_le_of_lt h lim20)]
      exact h
end Go.RuneMath
namespace Go.Proofs.YtgohekjkbgfeeaaGreat
open Go.RowKit
open Go.RuneMath
set_option linter.unusedVariables false

theorem ret_bool {a b : Bool} (h : a = b) : Ending.returned (.bool a) = .returned (.bool b) := by rw [h]
/-- The iterator of a string in block k stands at pos. -/
def ItAt (w : World) (k : Nat) (s : ByteArray) (pos : Nat) : Prop := w.heap[k]? = some (.stringIter s pos)
theorem it_start (w : World) (s : ByteArray) : ItAt (w.alloc (.stringIter s 0)) w.heap.size s 0 := by
  unfold ItAt
  exact heap_alloc_new w _
theorem it_pos {w : World} {k : Nat} {s : ByteArray} {pos : Nat} (h : ItAt w k s pos) : w.iterPos k = pos := by
  unfold ItAt at h
  simp [World.iterPos, h]
theorem it_next {w : World} {k : Nat} {s : ByteArray} {pos : Nat} (h : ItAt w k s pos) (pos' : Nat) : ItAt (w.iterAt k s pos') k s pos' := Lib.iterAt_heap w k s pos pos' h
theorem step {w a b : World} (h : Below w.heap.size w a) (k : Below a.heap.size a b) : Below w.heap.size w b := h.trans (k.mono h.size)

/-! ### Right -/
def Rights (s : ByteArray) (w : World) (e : Ending) (w' : World) : Prop := e = .returned (.bool (rightB s.data.toList)) ∧ Below w.heap.size w w'
theorem rights_mk {s : ByteArray} {w w' : World} {b : Bool} (h : b = rightB s.data.toList) (hb : Below w.heap.size w w') : Rights s w (.returned (.bool b)) w' := ⟨by rw [h], hb⟩
theorem right_many {l pre tl : List Nat} {r : Nat} (h : l = pre ++ r :: tl) (h40 : pre.length = 40) : rightR l = false := by
  subst h
  unfold rightR
  simp
  omega
theorem right_bad {l pre tl : List Nat} {r : Nat} (h : l = pre ++ r :: tl) (hr : okR r = false) : rightR l = false := by
  subst h
  unfold rightR
  simp [hr]
theorem all_snoc {pre : List Nat} {r : Nat} (h : pre.all okR = true) (hr : okR r = true) : (pre ++ [r]).all okR = true := by simp [h, hr]
theorem split_snoc {l pre tl : List Nat} {r : Nat} (h : l = pre ++ r :: tl) : l = (pre ++ [r]) ++ tl := by rw [h]; simp
theorem below_drewN (w : World) (n : Nat) : Below w.heap.size w (w.drewN n) := by
  induction n with
  | zero => exact Below.refl _ _
  | succ n ih => exact ih.drew
end Go.Proofs.YtgohekjkbgfeeaaGreat
