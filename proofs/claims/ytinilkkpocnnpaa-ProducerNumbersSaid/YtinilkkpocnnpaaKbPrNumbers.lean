/- Chapter 10's law: a closed sentence: rows of forty tapes, batch by batch, each thing of a producer turned. -/
import Derived.Test.YtinilkkpocnnpaaKb10
import Derived.Test.YtinilkkpocnnpaaKb15
namespace Go.Proofs.Ytinilkkpocnnpaa
open Go.RowKit
open Go.SeqMath
open Go.ProdMath
open Go.BatMath hiding AllB getD_lt take_all
set_option linter.unusedVariables false

/-- What stands ahead of each batch of a tape. -/
def NumAt (w : World) (tad : Option Addr) (tcap kt km i : Nat) (wr : World) : Prop :=
  ∃ ad len cap ms, TapeT wr kt tad 400 tcap ∧ MOk wr km 1073741824 0 ad len cap ms ∧ RowD 0 (bats ms) ∧ len ≤ i ∧ Below w.heap.size w wr
set_option maxRecDepth 100000 in
set_option maxHeartbeats 16000000 in
theorem prNumbers_any (w : World) : Calls Try.prog 3 #[] w (GivesBool w true) := by
  go_enter Try.func3, Try.ntmps3
  go_wp2
  go_loopw [1] (fun v1 wr => ∃ k : Nat, v1 = .int .i64 (k : Int) ∧ k ≤ 40 ∧ Below w.heap.size w wr) (fun v1 _ => 40 - (intOf v1).toNat)
  case atStart => exact ⟨0, rfl, by omega, Below.refl _ _⟩
  case round =>
    obtain ⟨k, rfl, hk, hbel⟩ := hrel
    have HB := Lib.hid hbel
    clear hbel
    obtain ⟨wo, hwo⟩ : ∃ wo : World, wo = wr := ⟨_, rfl⟩
    subst hwo
    by_cases hlt : k < 40
    · have hd1 : decide ((k : Int) < 40) = true := decide_eq_true (by omega)
      have hd1n : decide (k < 40) = true := decide_eq_true hlt
      go_wp2_with fail
      refine (prTape_any wo k (by omega)).mono ?_
      rintro e w1 ⟨tad, tcap, zs, rfl, hnum, hb1⟩
      obtain ⟨W1, hW1⟩ : ∃ W, W = w1.alloc (.cells #[.slice tad 400 tcap, .int .i64 0] 26) := ⟨_, rfl⟩
      obtain ⟨W2, hW2⟩ : ∃ W, W = W1.alloc (.cells #[.int .i64 1073741824, .int .i64 0, .slice none 0 0] 30) := ⟨_, rfl⟩
      have hb2 : Below w1.heap.size w1 W1 := by rw [hW1]; exact (Below.refl _ _).alloc (Nat.le_refl _) _
      have hb3 : Below W1.heap.size W1 W2 := by rw [hW2]; exact (Below.refl _ _).alloc (Nat.le_refl _) _
      have ht1 : TapeAt W1 w1.heap.size tad 400 tcap 0 := by rw [hW1]; exact tape_new hnum.out (by omega)
      obtain ⟨kt, hkt⟩ : ∃ q, q = w1.heap.size := ⟨_, rfl⟩
      obtain ⟨km, hkm⟩ : ∃ q, q = w1.heap.size + 1 := ⟨_, rfl⟩
      have hsz : W1.heap.size = w1.heap.size + 1 := by rw [hW1]; simp
      rw [← hkt] at ht1
      have hkk : kt < km := by omega
      have h01 := HB.out.size
      have h12 := hb1.out.size
      have hktw : w.heap.size ≤ kt := by omega
      have hkmw : w.heap.size ≤ km := by omega
      have HT2 : Hid (TapeT W2 kt tad 400 tcap) := ⟨0, ht1.on hb3⟩
      have HM2 : Hid (MOk W2 km 1073741824 0 none 0 0 []) := by
        show MOk _ _ _ _ _ _ _ _
        refine ⟨?_, ⟨rowAt_nil _, (fun m hm => by cases hm)⟩, (fun a ha => by cases ha), (fun m hm => by cases hm)⟩
        show W2.heap[km]? = _
        rw [hW2, hkm, ← hsz]
        exact heap_alloc_new W1 _
      have hbb := HB.out.trans (hb1.out.mono HB.out.size)
      have hbb2 := hbb.trans (hb2.mono hbb.size)
      have HB2 := Lib.hid (hbb2.trans (hb3.mono hbb2.size))
      have HW1 := Lib.hid hW1
      have HW2 := Lib.hid hW2
      have HK1 := Lib.hid hkt
      have HK2 := Lib.hid hkm
      clear hnum hb1 hW1 hW2 hb2 hb3 ht1 hkt hkm hsz h01 h12 hbb hbb2
      go_upto_region 6 with fail
      rw [← HK2.out, ← HK1.out, ← HW1.out, ← HW2.out]
      clear HW1 HW2 HK1 HK2
      go_wp2
      go_loopw [4] (fun v4 wr => ∃ i : Nat, v4 = .int .i64 (i : Int) ∧ i ≤ 25 ∧ NumAt w tad tcap kt km i wr) (fun v4 _ => 25 - (intOf v4).toNat)
      case atStart => exact ⟨0, rfl, by omega, none, 0, 0, [], HT2.out, HM2.out, RowD.nil, Nat.zero_le _, HB2.out⟩
      case round =>
        obtain ⟨i, rfl, hi, ad, len, cap, ms, ht, hm, hrow, hlm, hbel⟩ := hrel
        obtain ⟨ix, htx⟩ := ht
        have HT := Lib.hid htx
        have HM := Lib.hid hm
        have HR := Lib.hid hrow
        have HBL := Lib.hid hbel
        clear htx hm hrow hbel HT2 HM2 HB2
        obtain ⟨wi, hwi⟩ : ∃ wi : World, wi = wr := ⟨_, rfl⟩
        subst hwi
        by_cases hil : i < 25
        · have hd2 : decide ((i : Int) < 25) = true := decide_eq_true (by omega)
          have hd2n : decide (i < 25) = true := decide_eq_true hil
          go_wp2_with fail
          refine (ask_any wi kt tad 400 tcap ix HT.out km 1073741824 0 ad len cap ms HM.out hkk (by omega) (rowD_ok HR.out)).mono ?_
          rintro e w3 ⟨b0, b1, b2, b3, b4, b5, recs, rd, rc, rfl, HP, HTX, HN, HRE3, HT3, HG3⟩
          have HM3 := Lib.hid (HM.out.grown HG3.out (by omega) (fun a ha e => by have := (HM.out.row a ha).1; omega) (fun m hm a ha e => by have := (HM.out.ins m hm a ha).1; omega))
          have HB3 : Hid (Below w.heap.size w w3) := HBL.out.trans (below_grown HG3.out hktw HBL.out.size)
          clear HT HM HBL HG3
          go_upto_region 10 with fail
          obtain ⟨w4, hw4, hb4, hx4, _⟩ := box_new w3 b0 b1 b2 b3 b4 b5 (.slice rd recs.length rc)
          obtain ⟨BX, hBX⟩ : ∃ B, B = w3.heap.size := ⟨_, rfl⟩
          rw [← hBX] at hx4
          have HX4 := Lib.hid hx4
          have HM4 := Lib.hid (HM3.out.keep hb4)
          have HRE4 := Lib.hid (HRE3.out.keep hb4)
          have HB4 := Lib.hid (HB3.out.trans (hb4.mono HB3.out.size))
          obtain ⟨i4, ht4⟩ := HT3.out
          have HT4 : Hid (TapeAt w4 kt tad 400 tcap i4) := ht4.on hb4
          have hktx : kt < BX := by have := ht4.lt; omega
          have hkmx : km < BX := by have := HM3.out.box.lt; omega
          have hwx : w.heap.size ≤ BX := by omega
          have HNX : Hid (∀ a, ad = some a → a.block ≠ BX) := fun a ha => by have := (HM3.out.row a ha).2; omega
          have HNI : Hid (∀ m ∈ ms, ∀ a, m.ad = some a → a.block ≠ BX) := fun m hm a ha => by have := (HM3.out.ins m hm a ha).2; omega
          have HNR : Hid (recs.length = 0 ∨ ∀ a, rd = some a → a.block ≠ BX) := by
            by_cases h0 : recs.length = 0
            · exact .inl h0
            · refine .inr fun a ha => ?_
              have h3 := (recsAt_row.1 HRE3.out).lt (by omega) a ha
              omega
          have hend := rowD_end HR.out (Int.le_refl 0) (by omega)
          have HEND := Lib.hid hend
          rw [← hBX, ← hw4]
          clear hw4 hb4 hx4 hBX ht4 HT3 HM3 HRE3 HB3 hend
          obtain ⟨bs, hbs⟩ : ∃ v, endD 0 (bats ms) = v := ⟨_, rfl⟩
          have HBS := Lib.hid hbs
          have x0 := HX4.out.c0
          have g0 := HX4.out.free 0
          clear hbs
          go_wp2_with fail
          refine (modEnd_any w4 km 1073741824 0 ad len cap ms HM4.out.box HM4.out.bats (by omega) (rowD_ok HR.out) bs HBS.out).mono ?_
          rintro e w5 ⟨rfl, hb5⟩
          have HX5 := Lib.hid (HX4.out.on hb5)
          have HM5 := Lib.hid (HM4.out.keep hb5)
          have HRE5 := Lib.hid (HRE4.out.keep hb5)
          have HT5 := Lib.hid (HT4.out.on hb5)
          have HB5 := Lib.hid (HB4.out.trans (hb5.mono HB4.out.size))
          clear hb5 HX4 HM4 HRE4 HT4 HB4 x0 g0
          have x0 := HX5.out.c0
          have g0 := HX5.out.free 0
          go_upto_region 11 with fail
          obtain ⟨w6, hw6⟩ : ∃ W, W = w5.setCell ⟨BX, 0, none⟩ (.int .i64 bs) := ⟨_, rfl⟩
          have hg6 : w5.grownBy w6 (some BX) := by rw [hw6]; exact grow_one w5 BX 0 _
          have HX6 : Hid (BoxAt w6 BX bs b1 b2 b3 b4 b5 (.slice rd recs.length rc)) := by show BoxAt _ _ _ _ _ _ _ _ _; rw [hw6]; exact HX5.out.s0 bs
          have HM6 := Lib.hid (HM5.out.grown hg6 (by omega) HNX.out HNI.out)
          have HRE6 : Hid (RecsAt w6 rd recs.length rc recs) := by show RecsAt _ _ _ _ _; rw [hw6]; exact recsAt_row.2 ((recsAt_row.1 HRE5.out).set HNR.out)
          have HT6 : Hid (TapeT w6 kt tad 400 tcap) := ⟨i4, by rw [hw6]; exact HT5.out.other hktx _⟩
          have HB6 : Hid (Below w.heap.size w w6) := by show Below _ _ _; rw [hw6]; exact HB5.out.setCell hwx _
          rw [← hw6]
          clear hw6 hg6 HX5 HM5 HRE5 HT5 HB5 x0 g0 HNX HNI HNR
          go_wp2_with fail
          refine (producers_any w6 km 1073741824 0 ad len cap ms HM6.out (by omega) (rowD_ok HR.out)).mono ?_
          rintro e w7 ⟨pad, plen, pcap, ps, rfl, hpds, hpsl, _, _, hb7⟩
          have HPD := Lib.hid hpds
          have HFEW : Hid (∀ m ∈ ps, m.p.last.length ≤ 5) := fun m hm => by
            have h1 : m.p ∈ pds ps := List.mem_map.2 ⟨m, hm, rfl⟩
            rw [hpsl] at h1
            exact foldP_few (bats ms) (fun p hp => by cases hp) m.p h1
          have HX7 := Lib.hid (HX6.out.on hb7)
          have HM7 := Lib.hid (HM6.out.keep hb7)
          have HRE7 := Lib.hid (HRE6.out.keep hb7)
          obtain ⟨i6, ht6⟩ := HT6.out
          have HT7 : Hid (TapeAt w7 kt tad 400 tcap i6) := ht6.on hb7
          have HB7 := Lib.hid (HB6.out.trans (hb7.mono HB6.out.size))
          have hpl : plen ≤ 25 := by
            have h1 := foldP_len [] (bats ms)
            rw [← hpsl] at h1
            unfold pds bats at h1
            rw [List.length_map, List.length_map, List.length_nil] at h1
            have h2 := hpds.row.length
            have h3 := HM6.out.bats.row.length
            omega
          clear hpds hpsl hb7 ht6 HX6 HM6 HRE6 HT6 HB6
          go_wp2
          go_loopw [31] (fun v31 wr => ∃ j : Nat, v31 = .int .i64 (j : Int) ∧ j ≤ plen ∧ Below w7.heap.size w7 wr) (fun v31 _ => plen - (intOf v31).toNat)
          case atStart => exact ⟨0, rfl, Nat.zero_le _, Below.refl _ _⟩
          case round =>
            obtain ⟨j, rfl, hj, hbel⟩ := hrel
            have HBJ := Lib.hid hbel
            clear hbel
            obtain ⟨wj, hwj⟩ : ∃ wj : World, wj = wr := ⟨_, rfl⟩
            subst hwj
            by_cases hjl : j < plen
            · have hd3 : decide (j < plen) = true := decide_eq_true hjl
              have hjn : (j : Int) < (plen : Int) := by omega
              obtain ⟨bk, off, m, rfl, hbk, hmm, hla, c0, c1, c2, c3⟩ := (HPD.out.keep HBJ.out).get hjl
              obtain ⟨P, hP⟩ : ∃ P, P = m.p := ⟨_, rfl⟩
              obtain ⟨pa, hpa⟩ : ∃ a, a = m.ad := ⟨_, rfl⟩
              obtain ⟨pc, hpc⟩ : ∃ c, c = m.cap := ⟨_, rfl⟩
              obtain ⟨pn, hpn⟩ : ∃ n, n = m.p.last.length := ⟨_, rfl⟩
              have hpn5 : pn ≤ 5 := by rw [hpn]; exact HFEW.out m (List.mem_of_getElem? hmm)
              have HLA : Hid (RowAt trK wj pa pn pc P.last) := by show RowAt _ _ _ _ _ _; rw [hpa, hpn, hpc, hP]; exact hla
              rw [← hP] at c0 c1 c3
              rw [← hpa, ← hpn, ← hpc] at c2
              clear hP hpa hpc hpn hmm hla hbk
              go_upto_region 14 with fail
              obtain ⟨W1, hW1, hb1, hp1, _⟩ := pd_new wj P.id P.epoch (.slice pa pn pc) P.opn
              obtain ⟨BP, hBP⟩ : ∃ B, B = wj.heap.size := ⟨_, rfl⟩
              rw [← hBP] at hp1
              have HP1 := Lib.hid hp1
              have HL1 := Lib.hid (HLA.out.keep hb1)
              have HX1 := Lib.hid ((HX7.out.on HBJ.out).on hb1)
              have HB1 := Lib.hid (HBJ.out.trans (hb1.mono HBJ.out.size))
              rw [← hBP, ← hW1]
              clear hW1 hb1 hp1 hBP HLA c0 c1 c2 c3
              have KS : Hid (∀ W, Below W1.heap.size W1 W → (fun (W : World) => W.cell? ⟨BP, 0, none⟩ = some (.int .i64 P.id) ∧ W.cell? ⟨BP, 1, none⟩ = some (.int .i64 P.epoch) ∧ W.cell? ⟨BP, 2, none⟩ = some (.slice pa pn pc) ∧ W.cell? ⟨BP, 3, none⟩ = some (.int .i64 P.opn) ∧ W.cell? ⟨BX, 0, none⟩ = some (.int .i64 bs) ∧ W.cell? ⟨BX, 1, none⟩ = some (.int .i64 b1) ∧ W.cell? ⟨BX, 2, none⟩ = some (.int .i64 b2) ∧ W.cell? ⟨BX, 3, none⟩ = some (.int .i64 b3) ∧ W.cell? ⟨BX, 4, none⟩ = some (.bool b4) ∧ W.cell? ⟨BX, 5, none⟩ = some (.int .i64 b5) ∧ W.cell? ⟨BX, 6, none⟩ = some (.slice rd recs.length rc) ∧ Below W1.heap.size W1 W) W) := by
                intro W hW
                have hP := HP1.out.on hW
                have hX := HX1.out.on hW
                exact ⟨hP.c0, hP.c1, hP.c2, hP.c3, hX.c0, hX.c1, hX.c2, hX.c3, hX.c4, hX.c5, hX.c6, hW⟩
              have hb1d : Below W1.heap.size W1 W1.drew := (Below.refl _ W1).drew
              by_cases hpr : 0 ≤ b1
              · have hd4 : decide (0 ≤ b1) = true := decide_eq_true hpr
                have hw2 : IntKind.i64.wrap ((i : Int) - 2) = (i : Int) - 2 := IntWalk.i64_in _ (by omega)
                clear hpr
                refine wp_region_noPanic ?_
                refine wp_region_z [] (fun (W : World) => W.cell? ⟨BP, 0, none⟩ = some (.int .i64 P.id) ∧ W.cell? ⟨BP, 1, none⟩ = some (.int .i64 P.epoch) ∧ W.cell? ⟨BP, 2, none⟩ = some (.slice pa pn pc) ∧ W.cell? ⟨BP, 3, none⟩ = some (.int .i64 P.opn) ∧ W.cell? ⟨BX, 0, none⟩ = some (.int .i64 bs) ∧ W.cell? ⟨BX, 1, none⟩ = some (.int .i64 b1) ∧ W.cell? ⟨BX, 2, none⟩ = some (.int .i64 b2) ∧ W.cell? ⟨BX, 3, none⟩ = some (.int .i64 b3) ∧ W.cell? ⟨BX, 4, none⟩ = some (.bool b4) ∧ W.cell? ⟨BX, 5, none⟩ = some (.int .i64 b5) ∧ W.cell? ⟨BX, 6, none⟩ = some (.slice rd recs.length rc) ∧ Below W1.heap.size W1 W) (by kernel_rfl) ?_
                have hHeld : (fun (W : World) => W.cell? ⟨BP, 0, none⟩ = some (.int .i64 P.id) ∧ W.cell? ⟨BP, 1, none⟩ = some (.int .i64 P.epoch) ∧ W.cell? ⟨BP, 2, none⟩ = some (.slice pa pn pc) ∧ W.cell? ⟨BP, 3, none⟩ = some (.int .i64 P.opn) ∧ W.cell? ⟨BX, 0, none⟩ = some (.int .i64 bs) ∧ W.cell? ⟨BX, 1, none⟩ = some (.int .i64 b1) ∧ W.cell? ⟨BX, 2, none⟩ = some (.int .i64 b2) ∧ W.cell? ⟨BX, 3, none⟩ = some (.int .i64 b3) ∧ W.cell? ⟨BX, 4, none⟩ = some (.bool b4) ∧ W.cell? ⟨BX, 5, none⟩ = some (.int .i64 b5) ∧ W.cell? ⟨BX, 6, none⟩ = some (.slice rd recs.length rc) ∧ Below W1.heap.size W1 W) _ := KS.out _ hb1d
                obtain ⟨u0, hu0⟩ : ∃ u, u = W1.drew := ⟨_, rfl⟩
                rw [← hu0] at hHeld hb1d
                rw [← hu0]
                clear hu0
                have HU := Lib.hid hb1d
                clear hb1d
                refine wpAnyZ_take (i := 0) (oi := ⟨_, _, _, _, _, _⟩) (v := ?_) rfl (by kernel_rfl) (by kernel_rfl) (by kernel_rfl) (by kernel_rfl) (by kernel_rfl) (fun _ _ _ h => h) (Or.inl ⟨by rfl, ?_⟩) (by assumption) ?_
                rotate_left
                · intro W hSw
                  (try dsimp only at hSw)
                  go_simp
                  (try with_reducible rfl)
                (try simp only [Act.put, List.setIfInBounds_toArray, List.set_cons_zero, List.set_cons_succ])
                refine wpAnyZ_take (i := 1) (oi := ⟨_, _, _, _, _, _⟩) (v := ?_) rfl (by kernel_rfl) (by kernel_rfl) (by kernel_rfl) (by kernel_rfl) (by kernel_rfl) (fun _ _ _ h => h) (Or.inl ⟨by rfl, ?_⟩) (by assumption) ?_
                rotate_left
                · intro W hSw
                  (try dsimp only at hSw)
                  go_simp
                  (try with_reducible rfl)
                (try simp only [Act.put, List.setIfInBounds_toArray, List.set_cons_zero, List.set_cons_succ])
                refine wpAnyZ_take (i := 2) (oi := ⟨_, _, _, _, _, _⟩) (v := ?_) rfl (by kernel_rfl) (by kernel_rfl) (by kernel_rfl) (by kernel_rfl) (by kernel_rfl) (fun _ _ _ h => h) (Or.inl ⟨by rfl, ?_⟩) (by assumption) ?_
                rotate_left
                · intro W hSw
                  (try dsimp only at hSw)
                  go_simp
                  (try with_reducible rfl)
                (try simp only [Act.put, List.setIfInBounds_toArray, List.set_cons_zero, List.set_cons_succ])
                refine wpAnyZ_take (i := 3) (oi := ⟨_, _, _, _, _, _⟩) (v := ?_) rfl (by kernel_rfl) (by kernel_rfl) (by kernel_rfl) (by kernel_rfl) (by kernel_rfl) (fun _ _ _ h => h) (Or.inl ⟨by rfl, ?_⟩) (by assumption) ?_
                rotate_left
                · intro W hSw
                  (try dsimp only at hSw)
                  go_simp
                  (try with_reducible rfl)
                (try simp only [Act.put, List.setIfInBounds_toArray, List.set_cons_zero, List.set_cons_succ])
                refine wpAnyZ_take (i := 4) (oi := ⟨_, _, _, _, _, _⟩) (v := ?_) rfl (by kernel_rfl) (by kernel_rfl) (by kernel_rfl) (by kernel_rfl) (by kernel_rfl) (fun _ _ _ h => h) (Or.inl ⟨by rfl, ?_⟩) (by assumption) ?_
                rotate_left
                · intro W hSw
                  (try dsimp only at hSw)
                  go_simp
                  (try with_reducible rfl)
                (try simp only [Act.put, List.setIfInBounds_toArray, List.set_cons_zero, List.set_cons_succ])
                refine wpAnyZ_take (i := 5) (oi := ⟨_, _, _, _, _, _⟩) (v := ?_) rfl (by kernel_rfl) (by kernel_rfl) (by kernel_rfl) (by kernel_rfl) (by kernel_rfl) (fun _ _ _ h => h) (Or.inl ⟨by rfl, ?_⟩) (by assumption) ?_
                rotate_left
                · intro W hSw
                  (try dsimp only at hSw)
                  go_simp
                  (try with_reducible rfl)
                (try simp only [Act.put, List.setIfInBounds_toArray, List.set_cons_zero, List.set_cons_succ])
                refine wpAnyZ_take (i := 6) (oi := ⟨_, _, _, _, _, _⟩) (v := ?_) rfl (by kernel_rfl) (by kernel_rfl) (by kernel_rfl) (by kernel_rfl) (by kernel_rfl) (fun _ _ _ h => h) (Or.inl ⟨by rfl, ?_⟩) (by assumption) ?_
                rotate_left
                · intro W hSw
                  (try dsimp only at hSw)
                  go_simp
                  (try with_reducible rfl)
                (try simp only [Act.put, List.setIfInBounds_toArray, List.set_cons_zero, List.set_cons_succ])
                refine wpAnyZ_take (i := 7) (oi := ⟨_, _, _, _, _, _⟩) (v := ?_) rfl (by kernel_rfl) (by kernel_rfl) (by kernel_rfl) (by kernel_rfl) (by kernel_rfl) (fun _ _ _ h => h) (Or.inl ⟨by rfl, ?_⟩) (by assumption) ?_
                rotate_left
                · intro W hSw
                  (try dsimp only at hSw)
                  go_simp
                  (try with_reducible rfl)
                (try simp only [Act.put, List.setIfInBounds_toArray, List.set_cons_zero, List.set_cons_succ])
                refine wpAnyZ_take (i := 8) (oi := ⟨_, _, _, _, _, _⟩) (v := ?_) rfl (by kernel_rfl) (by kernel_rfl) (by kernel_rfl) (by kernel_rfl) (by kernel_rfl) (fun _ _ _ h => h) (Or.inl ⟨by rfl, ?_⟩) (by assumption) ?_
                rotate_left
                · intro W hSw
                  (try dsimp only at hSw)
                  go_simp
                  (try with_reducible rfl)
                (try simp only [Act.put, List.setIfInBounds_toArray, List.set_cons_zero, List.set_cons_succ])
                refine wpAnyZ_take (i := 9) (oi := ⟨_, _, _, _, _, _⟩) (v := ?_) rfl (by kernel_rfl) (by kernel_rfl) (by kernel_rfl) (by kernel_rfl) (by kernel_rfl) (fun _ _ _ h => h) (Or.inl ⟨by rfl, ?_⟩) (by assumption) ?_
                rotate_left
                · intro W hSw
                  (try dsimp only at hSw)
                  go_simp
                  (try with_reducible rfl)
                (try simp only [Act.put, List.setIfInBounds_toArray, List.set_cons_zero, List.set_cons_succ])
                refine wpAnyZ_take (i := 10) (oi := ⟨_, _, _, _, _, _⟩) (v := ?_) rfl (by kernel_rfl) (by kernel_rfl) (by kernel_rfl) (by kernel_rfl) (by kernel_rfl) (fun _ _ _ h => h) (Or.inl ⟨by rfl, ?_⟩) (by assumption) ?_
                rotate_left
                · intro W hSw
                  (try dsimp only at hSw)
                  go_simp
                  (try with_reducible rfl)
                (try simp only [Act.put, List.setIfInBounds_toArray, List.set_cons_zero, List.set_cons_succ])
                refine wpAnyZ_ready (rs := [11]) (by kernel_rfl) (by simp) ?_
                refine AllReadyZ.cons (o := ⟨_, _, _, _, _, _⟩) rfl (fun C hC => ?_) AllReadyZ.nil
                go_simp
                refine (prLawSame_any u0 P.id P.epoch P.opn P.last pa pn pc (HL1.out.keep HU.out) (by omega) _ bs b1 b2 b3 b4 b5 recs rd recs.length rc rfl (by have := HN.out; omega)).mono ?_
                rintro e u1 ⟨rfl, hb2⟩
                replace HU := Lib.hid (HU.out.trans (hb2.mono HU.out.size))
                clear hb2
                go_wp2_with fail
                have hHeld : (fun (W : World) => W.cell? ⟨BP, 0, none⟩ = some (.int .i64 P.id) ∧ W.cell? ⟨BP, 1, none⟩ = some (.int .i64 P.epoch) ∧ W.cell? ⟨BP, 2, none⟩ = some (.slice pa pn pc) ∧ W.cell? ⟨BP, 3, none⟩ = some (.int .i64 P.opn) ∧ W.cell? ⟨BX, 0, none⟩ = some (.int .i64 bs) ∧ W.cell? ⟨BX, 1, none⟩ = some (.int .i64 b1) ∧ W.cell? ⟨BX, 2, none⟩ = some (.int .i64 b2) ∧ W.cell? ⟨BX, 3, none⟩ = some (.int .i64 b3) ∧ W.cell? ⟨BX, 4, none⟩ = some (.bool b4) ∧ W.cell? ⟨BX, 5, none⟩ = some (.int .i64 b5) ∧ W.cell? ⟨BX, 6, none⟩ = some (.slice rd recs.length rc) ∧ Below W1.heap.size W1 W) u1 := KS.out _ HU.out
                refine hC.out _ _ (fun _ => hHeld) (fun _ => ?_)
                clear hC C
                (try simp only [Act.put, List.setIfInBounds_toArray, List.set_cons_zero, List.set_cons_succ])
                refine wpAnyZ_take (i := 12) (oi := ⟨_, _, _, _, _, _⟩) (v := ?_) rfl (by kernel_rfl) (by kernel_rfl) (by kernel_rfl) (by kernel_rfl) (by kernel_rfl) (fun _ _ _ h => h) (Or.inl ⟨by rfl, ?_⟩) (by assumption) ?_
                rotate_left
                · intro W hSw
                  (try dsimp only at hSw)
                  go_simp
                  (try with_reducible rfl)
                (try simp only [Act.put, List.setIfInBounds_toArray, List.set_cons_zero, List.set_cons_succ])
                refine wpAnyZ_take (i := 13) (oi := ⟨_, _, _, _, _, _⟩) (v := ?_) rfl (by kernel_rfl) (by kernel_rfl) (by kernel_rfl) (by kernel_rfl) (by kernel_rfl) (fun _ _ _ h => h) (Or.inl ⟨by rfl, ?_⟩) (by assumption) ?_
                rotate_left
                · intro W hSw
                  (try dsimp only at hSw)
                  go_simp
                  (try with_reducible rfl)
                (try simp only [Act.put, List.setIfInBounds_toArray, List.set_cons_zero, List.set_cons_succ])
                refine wpAnyZ_take (i := 14) (oi := ⟨_, _, _, _, _, _⟩) (v := ?_) rfl (by kernel_rfl) (by kernel_rfl) (by kernel_rfl) (by kernel_rfl) (by kernel_rfl) (fun _ _ _ h => h) (Or.inl ⟨by rfl, ?_⟩) (by assumption) ?_
                rotate_left
                · intro W hSw
                  (try dsimp only at hSw)
                  go_simp
                  (try with_reducible rfl)
                (try simp only [Act.put, List.setIfInBounds_toArray, List.set_cons_zero, List.set_cons_succ])
                refine wpAnyZ_take (i := 15) (oi := ⟨_, _, _, _, _, _⟩) (v := ?_) rfl (by kernel_rfl) (by kernel_rfl) (by kernel_rfl) (by kernel_rfl) (by kernel_rfl) (fun _ _ _ h => h) (Or.inl ⟨by rfl, ?_⟩) (by assumption) ?_
                rotate_left
                · intro W hSw
                  (try dsimp only at hSw)
                  go_simp
                  (try with_reducible rfl)
                (try simp only [Act.put, List.setIfInBounds_toArray, List.set_cons_zero, List.set_cons_succ])
                refine wpAnyZ_take (i := 16) (oi := ⟨_, _, _, _, _, _⟩) (v := ?_) rfl (by kernel_rfl) (by kernel_rfl) (by kernel_rfl) (by kernel_rfl) (by kernel_rfl) (fun _ _ _ h => h) (Or.inl ⟨by rfl, ?_⟩) (by assumption) ?_
                rotate_left
                · intro W hSw
                  (try dsimp only at hSw)
                  go_simp
                  (try with_reducible rfl)
                (try simp only [Act.put, List.setIfInBounds_toArray, List.set_cons_zero, List.set_cons_succ])
                refine wpAnyZ_take (i := 17) (oi := ⟨_, _, _, _, _, _⟩) (v := ?_) rfl (by kernel_rfl) (by kernel_rfl) (by kernel_rfl) (by kernel_rfl) (by kernel_rfl) (fun _ _ _ h => h) (Or.inl ⟨by rfl, ?_⟩) (by assumption) ?_
                rotate_left
                · intro W hSw
                  (try dsimp only at hSw)
                  go_simp
                  (try with_reducible rfl)
                (try simp only [Act.put, List.setIfInBounds_toArray, List.set_cons_zero, List.set_cons_succ])
                refine wpAnyZ_take (i := 19) (oi := ⟨_, _, _, _, _, _⟩) (v := ?_) rfl (by kernel_rfl) (by kernel_rfl) (by kernel_rfl) (by kernel_rfl) (by kernel_rfl) (fun _ _ _ h => h) (Or.inl ⟨by rfl, ?_⟩) (by assumption) ?_
                rotate_left
                · intro W hSw
                  (try dsimp only at hSw)
                  go_simp
                  (try with_reducible rfl)
                (try simp only [Act.put, List.setIfInBounds_toArray, List.set_cons_zero, List.set_cons_succ])
                refine wpAnyZ_ready (rs := [18]) (by kernel_rfl) (by simp) ?_
                refine AllReadyZ.cons (o := ⟨_, _, _, _, _, _⟩) rfl (fun C hC => ?_) AllReadyZ.nil
                go_simp
                refine (prOdd_any u1 P.id P.epoch P.opn P.last pa pn pc (HL1.out.keep HU.out) (by omega) (i : Int) ((i : Int) - 2) (by omega)).mono ?_
                rintro e u2 ⟨i1, e1, o1, l1, a1, n1, c1, rfl, HRO, hn1, HBO⟩
                have hn6 : n1 ≤ 6 := by omega
                clear hn1
                replace HU := Lib.hid (HU.out.trans (HBO.out.mono HU.out.size))
                clear HBO
                go_wp2_with fail
                have hHeld : (fun (W : World) => W.cell? ⟨BP, 0, none⟩ = some (.int .i64 P.id) ∧ W.cell? ⟨BP, 1, none⟩ = some (.int .i64 P.epoch) ∧ W.cell? ⟨BP, 2, none⟩ = some (.slice pa pn pc) ∧ W.cell? ⟨BP, 3, none⟩ = some (.int .i64 P.opn) ∧ W.cell? ⟨BX, 0, none⟩ = some (.int .i64 bs) ∧ W.cell? ⟨BX, 1, none⟩ = some (.int .i64 b1) ∧ W.cell? ⟨BX, 2, none⟩ = some (.int .i64 b2) ∧ W.cell? ⟨BX, 3, none⟩ = some (.int .i64 b3) ∧ W.cell? ⟨BX, 4, none⟩ = some (.bool b4) ∧ W.cell? ⟨BX, 5, none⟩ = some (.int .i64 b5) ∧ W.cell? ⟨BX, 6, none⟩ = some (.slice rd recs.length rc) ∧ Below W1.heap.size W1 W) u2 := KS.out _ HU.out
                refine hC.out _ _ (fun _ => hHeld) (fun _ => ?_)
                clear hC C
                (try simp only [Act.put, List.setIfInBounds_toArray, List.set_cons_zero, List.set_cons_succ])
                refine wpAnyZ_ready (rs := [20]) (by kernel_rfl) (by simp) ?_
                refine AllReadyZ.cons (o := ⟨_, _, _, _, _, _⟩) rfl (fun C hC => ?_) AllReadyZ.nil
                go_simp
                refine (prLawSame_any u2 i1 e1 o1 l1 a1 n1 c1 HRO.out (by omega) true bs b1 b2 b3 b4 b5 recs rd recs.length rc rfl (by have := HN.out; omega)).mono ?_
                rintro e u3 ⟨rfl, hb2⟩
                replace HU := Lib.hid (HU.out.trans (hb2.mono HU.out.size))
                clear hb2 HRO
                go_wp2_with fail
                have hHeld : (fun (W : World) => W.cell? ⟨BP, 0, none⟩ = some (.int .i64 P.id) ∧ W.cell? ⟨BP, 1, none⟩ = some (.int .i64 P.epoch) ∧ W.cell? ⟨BP, 2, none⟩ = some (.slice pa pn pc) ∧ W.cell? ⟨BP, 3, none⟩ = some (.int .i64 P.opn) ∧ W.cell? ⟨BX, 0, none⟩ = some (.int .i64 bs) ∧ W.cell? ⟨BX, 1, none⟩ = some (.int .i64 b1) ∧ W.cell? ⟨BX, 2, none⟩ = some (.int .i64 b2) ∧ W.cell? ⟨BX, 3, none⟩ = some (.int .i64 b3) ∧ W.cell? ⟨BX, 4, none⟩ = some (.bool b4) ∧ W.cell? ⟨BX, 5, none⟩ = some (.int .i64 b5) ∧ W.cell? ⟨BX, 6, none⟩ = some (.slice rd recs.length rc) ∧ Below W1.heap.size W1 W) u3 := KS.out _ HU.out
                refine hC.out _ _ (fun _ => hHeld) (fun _ => ?_)
                clear hC C
                (try simp only [Act.put, List.setIfInBounds_toArray, List.set_cons_zero, List.set_cons_succ])
                refine wpAnyZ_take (i := 21) (oi := ⟨_, _, _, _, _, _⟩) (v := ?_) rfl (by kernel_rfl) (by kernel_rfl) (by kernel_rfl) (by kernel_rfl) (by kernel_rfl) (fun _ _ _ h => h) (Or.inl ⟨by rfl, ?_⟩) (by assumption) ?_
                rotate_left
                · intro W hSw
                  (try dsimp only at hSw)
                  go_simp
                  (try with_reducible rfl)
                (try simp only [Act.put, List.setIfInBounds_toArray, List.set_cons_zero, List.set_cons_succ])
                refine wpAnyZ_take (i := 22) (oi := ⟨_, _, _, _, _, _⟩) (v := ?_) rfl (by kernel_rfl) (by kernel_rfl) (by kernel_rfl) (by kernel_rfl) (by kernel_rfl) (fun _ _ _ h => h) (Or.inl ⟨by rfl, ?_⟩) (by assumption) ?_
                rotate_left
                · intro W hSw
                  (try dsimp only at hSw)
                  go_simp
                  (try with_reducible rfl)
                (try simp only [Act.put, List.setIfInBounds_toArray, List.set_cons_zero, List.set_cons_succ])
                refine wpAnyZ_take (i := 23) (oi := ⟨_, _, _, _, _, _⟩) (v := ?_) rfl (by kernel_rfl) (by kernel_rfl) (by kernel_rfl) (by kernel_rfl) (by kernel_rfl) (fun _ _ _ h => h) (Or.inl ⟨by rfl, ?_⟩) (by assumption) ?_
                rotate_left
                · intro W hSw
                  (try dsimp only at hSw)
                  go_simp
                  (try with_reducible rfl)
                (try simp only [Act.put, List.setIfInBounds_toArray, List.set_cons_zero, List.set_cons_succ])
                refine wpAnyZ_done (by kernel_rfl) ?_ _
                refine NoPanic.normal ?_
                clear hHeld
                have HBU := Lib.hid (HB1.out.trans (HU.out.mono HB1.out.size))
                clear hw2
                go_wp2
                go_roundw
                case rel => exact ⟨j + 1, by go_num, by omega, HBU.out⟩
                case measure => simp [intOf]; omega
              · have hd4 : decide (0 ≤ b1) = false := decide_eq_false hpr
                clear hpr
                refine wp_region_noPanic ?_
                refine wp_region_z [] (fun (W : World) => W.cell? ⟨BP, 0, none⟩ = some (.int .i64 P.id) ∧ W.cell? ⟨BP, 1, none⟩ = some (.int .i64 P.epoch) ∧ W.cell? ⟨BP, 2, none⟩ = some (.slice pa pn pc) ∧ W.cell? ⟨BP, 3, none⟩ = some (.int .i64 P.opn) ∧ W.cell? ⟨BX, 0, none⟩ = some (.int .i64 bs) ∧ W.cell? ⟨BX, 1, none⟩ = some (.int .i64 b1) ∧ W.cell? ⟨BX, 2, none⟩ = some (.int .i64 b2) ∧ W.cell? ⟨BX, 3, none⟩ = some (.int .i64 b3) ∧ W.cell? ⟨BX, 4, none⟩ = some (.bool b4) ∧ W.cell? ⟨BX, 5, none⟩ = some (.int .i64 b5) ∧ W.cell? ⟨BX, 6, none⟩ = some (.slice rd recs.length rc) ∧ Below W1.heap.size W1 W) (by kernel_rfl) ?_
                have hHeld : (fun (W : World) => W.cell? ⟨BP, 0, none⟩ = some (.int .i64 P.id) ∧ W.cell? ⟨BP, 1, none⟩ = some (.int .i64 P.epoch) ∧ W.cell? ⟨BP, 2, none⟩ = some (.slice pa pn pc) ∧ W.cell? ⟨BP, 3, none⟩ = some (.int .i64 P.opn) ∧ W.cell? ⟨BX, 0, none⟩ = some (.int .i64 bs) ∧ W.cell? ⟨BX, 1, none⟩ = some (.int .i64 b1) ∧ W.cell? ⟨BX, 2, none⟩ = some (.int .i64 b2) ∧ W.cell? ⟨BX, 3, none⟩ = some (.int .i64 b3) ∧ W.cell? ⟨BX, 4, none⟩ = some (.bool b4) ∧ W.cell? ⟨BX, 5, none⟩ = some (.int .i64 b5) ∧ W.cell? ⟨BX, 6, none⟩ = some (.slice rd recs.length rc) ∧ Below W1.heap.size W1 W) _ := KS.out _ hb1d
                obtain ⟨u0, hu0⟩ : ∃ u, u = W1.drew := ⟨_, rfl⟩
                rw [← hu0] at hHeld hb1d
                rw [← hu0]
                clear hu0
                have HU := Lib.hid hb1d
                clear hb1d
                refine wpAnyZ_take (i := 0) (oi := ⟨_, _, _, _, _, _⟩) (v := ?_) rfl (by kernel_rfl) (by kernel_rfl) (by kernel_rfl) (by kernel_rfl) (by kernel_rfl) (fun _ _ _ h => h) (Or.inl ⟨by rfl, ?_⟩) (by assumption) ?_
                rotate_left
                · intro W hSw
                  (try dsimp only at hSw)
                  go_simp
                  (try with_reducible rfl)
                (try simp only [Act.put, List.setIfInBounds_toArray, List.set_cons_zero, List.set_cons_succ])
                refine wpAnyZ_take (i := 1) (oi := ⟨_, _, _, _, _, _⟩) (v := ?_) rfl (by kernel_rfl) (by kernel_rfl) (by kernel_rfl) (by kernel_rfl) (by kernel_rfl) (fun _ _ _ h => h) (Or.inl ⟨by rfl, ?_⟩) (by assumption) ?_
                rotate_left
                · intro W hSw
                  (try dsimp only at hSw)
                  go_simp
                  (try with_reducible rfl)
                (try simp only [Act.put, List.setIfInBounds_toArray, List.set_cons_zero, List.set_cons_succ])
                refine wpAnyZ_take (i := 2) (oi := ⟨_, _, _, _, _, _⟩) (v := ?_) rfl (by kernel_rfl) (by kernel_rfl) (by kernel_rfl) (by kernel_rfl) (by kernel_rfl) (fun _ _ _ h => h) (Or.inl ⟨by rfl, ?_⟩) (by assumption) ?_
                rotate_left
                · intro W hSw
                  (try dsimp only at hSw)
                  go_simp
                  (try with_reducible rfl)
                (try simp only [Act.put, List.setIfInBounds_toArray, List.set_cons_zero, List.set_cons_succ])
                refine wpAnyZ_take (i := 3) (oi := ⟨_, _, _, _, _, _⟩) (v := ?_) rfl (by kernel_rfl) (by kernel_rfl) (by kernel_rfl) (by kernel_rfl) (by kernel_rfl) (fun _ _ _ h => h) (Or.inl ⟨by rfl, ?_⟩) (by assumption) ?_
                rotate_left
                · intro W hSw
                  (try dsimp only at hSw)
                  go_simp
                  (try with_reducible rfl)
                (try simp only [Act.put, List.setIfInBounds_toArray, List.set_cons_zero, List.set_cons_succ])
                refine wpAnyZ_take (i := 4) (oi := ⟨_, _, _, _, _, _⟩) (v := undef) rfl (by kernel_rfl) (by kernel_rfl) (by kernel_rfl) (by kernel_rfl) (by kernel_rfl) (fun _ _ _ h => h) (Or.inr ⟨by rfl, rfl⟩) (by assumption) ?_
                (try simp only [Act.put, List.setIfInBounds_toArray, List.set_cons_zero, List.set_cons_succ])
                refine wpAnyZ_take (i := 5) (oi := ⟨_, _, _, _, _, _⟩) (v := undef) rfl (by kernel_rfl) (by kernel_rfl) (by kernel_rfl) (by kernel_rfl) (by kernel_rfl) (fun _ _ _ h => h) (Or.inr ⟨by rfl, rfl⟩) (by assumption) ?_
                (try simp only [Act.put, List.setIfInBounds_toArray, List.set_cons_zero, List.set_cons_succ])
                refine wpAnyZ_take (i := 6) (oi := ⟨_, _, _, _, _, _⟩) (v := undef) rfl (by kernel_rfl) (by kernel_rfl) (by kernel_rfl) (by kernel_rfl) (by kernel_rfl) (fun _ _ _ h => h) (Or.inr ⟨by rfl, rfl⟩) (by assumption) ?_
                (try simp only [Act.put, List.setIfInBounds_toArray, List.set_cons_zero, List.set_cons_succ])
                refine wpAnyZ_take (i := 7) (oi := ⟨_, _, _, _, _, _⟩) (v := undef) rfl (by kernel_rfl) (by kernel_rfl) (by kernel_rfl) (by kernel_rfl) (by kernel_rfl) (fun _ _ _ h => h) (Or.inr ⟨by rfl, rfl⟩) (by assumption) ?_
                (try simp only [Act.put, List.setIfInBounds_toArray, List.set_cons_zero, List.set_cons_succ])
                refine wpAnyZ_take (i := 8) (oi := ⟨_, _, _, _, _, _⟩) (v := undef) rfl (by kernel_rfl) (by kernel_rfl) (by kernel_rfl) (by kernel_rfl) (by kernel_rfl) (fun _ _ _ h => h) (Or.inr ⟨by rfl, rfl⟩) (by assumption) ?_
                (try simp only [Act.put, List.setIfInBounds_toArray, List.set_cons_zero, List.set_cons_succ])
                refine wpAnyZ_take (i := 9) (oi := ⟨_, _, _, _, _, _⟩) (v := undef) rfl (by kernel_rfl) (by kernel_rfl) (by kernel_rfl) (by kernel_rfl) (by kernel_rfl) (fun _ _ _ h => h) (Or.inr ⟨by rfl, rfl⟩) (by assumption) ?_
                (try simp only [Act.put, List.setIfInBounds_toArray, List.set_cons_zero, List.set_cons_succ])
                refine wpAnyZ_take (i := 10) (oi := ⟨_, _, _, _, _, _⟩) (v := undef) rfl (by kernel_rfl) (by kernel_rfl) (by kernel_rfl) (by kernel_rfl) (by kernel_rfl) (fun _ _ _ h => h) (Or.inr ⟨by rfl, rfl⟩) (by assumption) ?_
                (try simp only [Act.put, List.setIfInBounds_toArray, List.set_cons_zero, List.set_cons_succ])
                refine wpAnyZ_take (i := 11) (oi := ⟨_, _, _, _, _, _⟩) (v := undef) rfl (by kernel_rfl) (by kernel_rfl) (by kernel_rfl) (by kernel_rfl) (by kernel_rfl) (fun _ _ _ h => h) (Or.inr ⟨by rfl, rfl⟩) (by assumption) ?_
                (try simp only [Act.put, List.setIfInBounds_toArray, List.set_cons_zero, List.set_cons_succ])
                refine wpAnyZ_take (i := 12) (oi := ⟨_, _, _, _, _, _⟩) (v := undef) rfl (by kernel_rfl) (by kernel_rfl) (by kernel_rfl) (by kernel_rfl) (by kernel_rfl) (fun _ _ _ h => h) (Or.inr ⟨by rfl, rfl⟩) (by assumption) ?_
                (try simp only [Act.put, List.setIfInBounds_toArray, List.set_cons_zero, List.set_cons_succ])
                refine wpAnyZ_take (i := 13) (oi := ⟨_, _, _, _, _, _⟩) (v := undef) rfl (by kernel_rfl) (by kernel_rfl) (by kernel_rfl) (by kernel_rfl) (by kernel_rfl) (fun _ _ _ h => h) (Or.inr ⟨by rfl, rfl⟩) (by assumption) ?_
                (try simp only [Act.put, List.setIfInBounds_toArray, List.set_cons_zero, List.set_cons_succ])
                refine wpAnyZ_take (i := 14) (oi := ⟨_, _, _, _, _, _⟩) (v := undef) rfl (by kernel_rfl) (by kernel_rfl) (by kernel_rfl) (by kernel_rfl) (by kernel_rfl) (fun _ _ _ h => h) (Or.inr ⟨by rfl, rfl⟩) (by assumption) ?_
                (try simp only [Act.put, List.setIfInBounds_toArray, List.set_cons_zero, List.set_cons_succ])
                refine wpAnyZ_take (i := 15) (oi := ⟨_, _, _, _, _, _⟩) (v := undef) rfl (by kernel_rfl) (by kernel_rfl) (by kernel_rfl) (by kernel_rfl) (by kernel_rfl) (fun _ _ _ h => h) (Or.inr ⟨by rfl, rfl⟩) (by assumption) ?_
                (try simp only [Act.put, List.setIfInBounds_toArray, List.set_cons_zero, List.set_cons_succ])
                refine wpAnyZ_take (i := 16) (oi := ⟨_, _, _, _, _, _⟩) (v := undef) rfl (by kernel_rfl) (by kernel_rfl) (by kernel_rfl) (by kernel_rfl) (by kernel_rfl) (fun _ _ _ h => h) (Or.inr ⟨by rfl, rfl⟩) (by assumption) ?_
                (try simp only [Act.put, List.setIfInBounds_toArray, List.set_cons_zero, List.set_cons_succ])
                refine wpAnyZ_take (i := 17) (oi := ⟨_, _, _, _, _, _⟩) (v := undef) rfl (by kernel_rfl) (by kernel_rfl) (by kernel_rfl) (by kernel_rfl) (by kernel_rfl) (fun _ _ _ h => h) (Or.inr ⟨by rfl, rfl⟩) (by assumption) ?_
                (try simp only [Act.put, List.setIfInBounds_toArray, List.set_cons_zero, List.set_cons_succ])
                refine wpAnyZ_take (i := 18) (oi := ⟨_, _, _, _, _, _⟩) (v := undef) rfl (by kernel_rfl) (by kernel_rfl) (by kernel_rfl) (by kernel_rfl) (by kernel_rfl) (fun _ _ _ h => h) (Or.inr ⟨by rfl, rfl⟩) (by assumption) ?_
                (try simp only [Act.put, List.setIfInBounds_toArray, List.set_cons_zero, List.set_cons_succ])
                refine wpAnyZ_take (i := 19) (oi := ⟨_, _, _, _, _, _⟩) (v := undef) rfl (by kernel_rfl) (by kernel_rfl) (by kernel_rfl) (by kernel_rfl) (by kernel_rfl) (fun _ _ _ h => h) (Or.inr ⟨by rfl, rfl⟩) (by assumption) ?_
                (try simp only [Act.put, List.setIfInBounds_toArray, List.set_cons_zero, List.set_cons_succ])
                refine wpAnyZ_take (i := 20) (oi := ⟨_, _, _, _, _, _⟩) (v := undef) rfl (by kernel_rfl) (by kernel_rfl) (by kernel_rfl) (by kernel_rfl) (by kernel_rfl) (fun _ _ _ h => h) (Or.inr ⟨by rfl, rfl⟩) (by assumption) ?_
                (try simp only [Act.put, List.setIfInBounds_toArray, List.set_cons_zero, List.set_cons_succ])
                refine wpAnyZ_take (i := 21) (oi := ⟨_, _, _, _, _, _⟩) (v := undef) rfl (by kernel_rfl) (by kernel_rfl) (by kernel_rfl) (by kernel_rfl) (by kernel_rfl) (fun _ _ _ h => h) (Or.inr ⟨by rfl, rfl⟩) (by assumption) ?_
                (try simp only [Act.put, List.setIfInBounds_toArray, List.set_cons_zero, List.set_cons_succ])
                refine wpAnyZ_take (i := 22) (oi := ⟨_, _, _, _, _, _⟩) (v := undef) rfl (by kernel_rfl) (by kernel_rfl) (by kernel_rfl) (by kernel_rfl) (by kernel_rfl) (fun _ _ _ h => h) (Or.inr ⟨by rfl, rfl⟩) (by assumption) ?_
                (try simp only [Act.put, List.setIfInBounds_toArray, List.set_cons_zero, List.set_cons_succ])
                refine wpAnyZ_take (i := 23) (oi := ⟨_, _, _, _, _, _⟩) (v := ?_) rfl (by kernel_rfl) (by kernel_rfl) (by kernel_rfl) (by kernel_rfl) (by kernel_rfl) (fun _ _ _ h => h) (Or.inl ⟨by rfl, ?_⟩) (by assumption) ?_
                rotate_left
                · intro W hSw
                  (try dsimp only at hSw)
                  go_simp
                  (try with_reducible rfl)
                (try simp only [Act.put, List.setIfInBounds_toArray, List.set_cons_zero, List.set_cons_succ])
                refine wpAnyZ_done (by kernel_rfl) ?_ _
                refine NoPanic.normal ?_
                clear hHeld
                have HBU := Lib.hid (HB1.out.trans (HU.out.mono HB1.out.size))
                go_wp2
                go_roundw
                case rel => exact ⟨j + 1, by go_num, by omega, HBU.out⟩
                case measure => simp [intOf]; omega
            · have hd3 : decide (j < plen) = false := decide_eq_false hjl
              have HX8 := Lib.hid (HX7.out.on HBJ.out)
              have HM8 := Lib.hid (HM7.out.keep HBJ.out)
              have HRE8 := Lib.hid (HRE7.out.keep HBJ.out)
              have HT8 := Lib.hid (HT7.out.on HBJ.out)
              have HB8 := Lib.hid (HB7.out.trans (HBJ.out.mono HB7.out.size))
              clear HX7 HM7 HRE7 HT7 HB7 HBJ HPD HFEW
              have p0 := HX8.out.c0
              have p1 := HX8.out.c1
              have p2 := HX8.out.c2
              have p3 := HX8.out.c3
              have p4 := HX8.out.c4
              have p5 := HX8.out.c5
              have p6 := HX8.out.c6
              by_cases hmk : b5 = 0
              · have hd5 : (b5 == 0) = true := by rw [hmk]; rfl
                have hd5n : (b5 != 0) = false := by rw [hmk]; rfl
                clear hmk
                go_wp2_with fail
                refine (produce_any wj km 1073741824 0 ad len cap ms HM8.out (by omega) (rowD_ok HR.out) ⟨HEND.out.1, by have := HEND.out.2; omega⟩ bs b1 b2 b3 b4 b5 recs rd rc HRE8.out HTX.out (by have := HN.out; omega) HP.out _ rfl).mono ?_
                rintro e w9 ⟨ad5, len5, cap5, ms5, rfl, hm5, hbs5, hg5⟩
                have hgr := produce_grows (cap := 1073741824) (b := ⟨bs, b1, b2, b3, b4, b5, recs⟩) HR.out HP.out
                have HR5 : Hid (RowD 0 (bats ms5)) := by show RowD _ _; rw [hbs5]; exact hgr.1
                have hl5 : len5 ≤ i + 1 := by
                  have h1 := hgr.2
                  rw [← hbs5] at h1
                  unfold bats at h1
                  rw [List.length_map, List.length_map] at h1
                  have h2 := hm5.bats.row.length
                  have h3 := HM8.out.bats.row.length
                  omega
                have HM5 := Lib.hid hm5
                have HT5 : Hid (TapeT w9 kt tad 400 tcap) := ⟨i6, HT8.out.grow hg5 (fun k hk => by cases hk; exact hkk)⟩
                have HB5 : Hid (Below w.heap.size w w9) := HB8.out.trans (below_grown hg5 hkmw HB8.out.size)
                clear hm5 hbs5 hg5 hgr p0 p1 p2 p3 p4 p5 p6
                go_wp2
                go_roundw
                case rel => exact ⟨i + 1, by go_num, by omega, ad5, len5, cap5, ms5, HT5.out, HM5.out, HR5.out, hl5, HB5.out⟩
                case measure => simp [intOf]; omega
              · have hd5 : (b5 == 0) = false := beq_false_of_ne hmk
                have hd5n : (b5 != 0) = true := by unfold bne; rw [hd5]; rfl
                clear hmk
                go_wp2_with fail
                refine (mark_any wj km 1073741824 0 ad len cap ms HM8.out (by omega) (rowD_ok HR.out) ⟨HEND.out.1, by have := HEND.out.2; omega⟩ b1 b2 b5 HP.out _ rfl).mono ?_
                rintro e w9 ⟨ad5, len5, cap5, ms5, rfl, hm5, hbs5, hg5⟩
                have hgr := mark_grows (cap := 1073741824) (p := b1) (e := b2) (m := b5) HR.out HP.out
                have HR5 : Hid (RowD 0 (bats ms5)) := by show RowD _ _; rw [hbs5]; exact hgr.1
                have hl5 : len5 ≤ i + 1 := by
                  have h1 := hgr.2
                  rw [← hbs5] at h1
                  unfold bats at h1
                  rw [List.length_map, List.length_map] at h1
                  have h2 := hm5.bats.row.length
                  have h3 := HM8.out.bats.row.length
                  omega
                have HM5 := Lib.hid hm5
                have HT5 : Hid (TapeT w9 kt tad 400 tcap) := ⟨i6, HT8.out.grow hg5 (fun k hk => by cases hk; exact hkk)⟩
                have HB5 : Hid (Below w.heap.size w w9) := HB8.out.trans (below_grown hg5 hkmw HB8.out.size)
                clear hm5 hbs5 hg5 hgr p0 p1 p2 p3 p4 p5 p6
                go_wp2
                go_roundw
                case rel => exact ⟨i + 1, by go_num, by omega, ad5, len5, cap5, ms5, HT5.out, HM5.out, HR5.out, hl5, HB5.out⟩
                case measure => simp [intOf]; omega
        · have hd2 : decide ((i : Int) < 25) = false := decide_eq_false (by omega)
          have hd2n : decide (i < 25) = false := decide_eq_false hil
          go_wp2
          go_roundw
          case rel => exact ⟨k + 1, by go_num, by omega, HBL.out⟩
          case measure => simp [intOf]; omega
    · have hd1 : decide ((k : Int) < 40) = false := decide_eq_false (by omega)
      have hd1n : decide (k < 40) = false := decide_eq_false hlt
      obtain ⟨WR, hWR, hbr, hrr, _⟩ := one_rec wo
      have HWR := Lib.hid hWR
      have HBR := Lib.hid (HB.out.trans (hbr.mono HB.out.size))
      clear hWR hbr hrr
      go_wp2_with fail
      rw [← HWR.out]
      clear HWR
      refine (prLawSame_any WR 0 0 0 [] none 0 0 (rowAt_nil _) (by omega) false 0 0 0 0 false 0 [Rc.nil] (some ⟨wo.heap.size, 0, none⟩) 1 1 rfl (by omega)).mono ?_
      rintro e w3 ⟨rfl, hb3⟩
      have HB3 := Lib.hid (HBR.out.trans (hb3.mono HBR.out.size))
      clear hb3
      go_wp2_with fail
      refine (known10_any w3).mono ?_
      rintro e w4 ⟨rfl, hb4⟩
      have HB4 := Lib.hid (HB3.out.trans (hb4.mono HB3.out.size))
      clear hb4
      go_wp2
      go_ret
      exact gives_bool rfl HB4.out
end Go.Proofs.Ytinilkkpocnnpaa
