/- Chapter 6's numbers: batches of sixty tapes, each thing of them turned; bytes cut off at each place, with each byte turned; lengths at bounds. -/
import Derived.Test.YtlpmfhccfihnfaaBatLaw7
import Derived.Test.YtlpmfhccfihnfaaTapeRow
namespace Go.Proofs.Ytlpmfhccfihnfaa
open Go.RowKit
open Go.SeqMath
open Go.BatMath hiding AllB getD_lt take_all
set_option linter.unusedVariables false

theorem infoInt64 : (Try.prog.info? 2).map (fun i => (i.zero, i.size, i.bytes)) = some (some (.int .i64 0), 1, 8) := by kernel_rfl
def longK : Kind Int := ⟨fun n => [.int .i64 n], 1, 2, 32⟩
theorem longK_ok : longK.Ok 8 where
  und := Try.underlying32
  info := by
    obtain ⟨i, hi, hz, hs, hb⟩ := info_parts infoInt64
    exact ⟨i, _, hi, hz, hs, hb, rfl⟩
  len := fun _ => rfl
  pos := by decide
  one := fun r u hu => by
    obtain rfl := List.mem_singleton.1 hu
    rfl
  few := by decide
def turns : List Int := [-2, -1, 0, 1, 2, 3, 32767, 32768, 2147483648, 1099511627776, 1099511627777]
theorem turns_in : ∀ n ∈ turns, -9223372036854775808 ≤ n ∧ n ≤ 9223372036854775807 := by decide
theorem turns_at {w : World} {g : Nat} (h : RowAt longK w (some ⟨g, 0, none⟩) 11 11 turns) {j : Nat} (hj : j < 11) : ∃ n, w.cell? ⟨g, j, none⟩ = some (.int .i64 n) ∧ -9223372036854775808 ≤ n ∧ n ≤ 9223372036854775807 := by
  obtain ⟨b, o, n, e, _, hn, hc⟩ := h.get hj
  cases e
  have := hc 0 (.int .i64 n) rfl
  rw [show 0 + (j * longK.size + 0) = j by show 0 + (j * 1 + 0) = j; omega] at this
  exact ⟨n, this, turns_in n (List.mem_of_getElem? hn)⟩
def lens : List Int := [0, 1, 11, 12, 13, 4096, 4097, 5000]
theorem lens_in : ∀ n ∈ lens, 0 ≤ n ∧ n ≤ 5000 := by decide
theorem lens_at {w : World} {g : Nat} (h : RowAt intK w (some ⟨g, 0, none⟩) 8 8 lens) {j : Nat} (hj : j < 8) : ∃ n : Nat, w.cell? ⟨g, j, none⟩ = some (.int .i64 (n : Int)) ∧ n ≤ 5000 := by
  obtain ⟨b, o, n, e, _, hn, hc⟩ := h.get hj
  cases e
  have := hc 0 (.int .i64 n) rfl
  rw [show 0 + (j * intK.size + 0) = j by show 0 + (j * 1 + 0) = j; omega] at this
  have hb := lens_in n (List.mem_of_getElem? hn)
  exact ⟨n.toNat, by rw [this, show ((n.toNat : Nat) : Int) = n by omega], by omega⟩
theorem own_byt {w : World} {base n : Nat} {v : Value} {l : List Nat} (h : OwnRow byteK w base v l) (ha : AllB l) (hn : l.length = n) : ∃ ad cap, v = .slice ad n cap ∧ Row w ad n cap l := by
  have h1 := own_bytes.1 h
  rw [hn] at h1
  obtain ⟨ad', cap', e, h2⟩ := owns_any h1 ha
  exact ⟨ad', cap', e, h2⟩
/-- The bytes of the row that the statement makes. -/
def MadeP (w : World) (base g N c : Nat) (L : List Nat) : Prop := w.ownsRow base 5 1 (.slice (some ⟨g, 0, none⟩) N c) N (vals L)
theorem MadeP.on {w w' : World} {base g N c : Nat} {L : List Nat} (h : MadeP w base g N c L) (hb : Below w.heap.size w w') : MadeP w' base g N c L := owns_keep h hb (Nat.le_refl _)
theorem own_block {w : World} {base n : Nat} {v : Value} {l : List Nat} (h : OwnRow byteK w base v l) (hn : l.length = n) (h0 : 0 < n) : ∃ g cap, v = .slice (some ⟨g, 0, none⟩) n cap ∧ MadeP w base g n cap l := by
  have h1 := own_bytes.1 h
  rw [hn] at h1
  rcases h1.2 with ⟨_, e⟩ | ⟨g, cap, cur, e, _⟩
  · omega
  · subst e
    exact ⟨g, cap, rfl, h1⟩
set_option maxRecDepth 100000 in
set_option maxHeartbeats 16000000 in
theorem numbers_any (w : World) : Calls Try.prog 3 #[] w fun e w' => e = .returned (.bool true) ∧ Below w.heap.size w w' := by
  go_enter Try.func3, Try.ntmps3
  go_wp2
  go_loopw [1] (fun v1 wr => ∃ k : Nat, k ≤ 60 ∧ v1 = .int .i64 (k : Int) ∧ Below w.heap.size w wr) (fun v1 _ => (60 - intOf v1).toNat)
  case atStart => exact ⟨0, by omega, rfl, Below.refl _ _⟩
  case round =>
    obtain ⟨k, hk, rfl, hbel⟩ := hrel
    have HBO := Lib.hid hbel
    clear hbel
    obtain ⟨wo, hwo⟩ : ∃ wo : World, wo = wr := ⟨_, rfl⟩
    subst hwo
    by_cases hlt : k < 60
    · have hd : decide ((k : Int) < 60) = true := by simp; omega
      go_wp2_with fail
      refine (lawTape_any wo k hk).mono ?_
      rintro e w1 ⟨ad, cap, zs, rfl, HN, HB1⟩
      go_wp2_with fail
      obtain ⟨x, hx⟩ : ∃ x, (k : Int) * 1000 = x := ⟨_, rfl⟩
      have hx0 : 0 ≤ x ∧ x ≤ 1099511627776 := by omega
      rw [hx]
      clear hx
      refine (made_bat w1 ad 400 cap zs HN.out (by omega) x hx0.1 hx0.2).mono ?_
      rintro e w2 ⟨e1, e2, e3, e4, e5, l, ad1, n1, cap1, rfl, HR, HW, HRE1, HB2⟩
      go_upto_region 5 with fail
      obtain ⟨wb, hwb⟩ : ∃ W1, W1 = w2.alloc (.cells #[.int .i64 x, .int .i64 e1, .int .i64 e2, .int .i64 e3, .bool e4, .int .i64 e5, .slice ad1 n1 cap1] 24) := ⟨_, rfl⟩
      have hB2b : Below w2.heap.size w2 wb := by rw [hwb]; exact (Below.refl _ _).alloc (Nat.le_refl _) _
      have HBb : Hid (Below w.heap.size w wb) := by
        have h1 := HBO.out.trans (HB1.out.mono HBO.out.size)
        have h2 := h1.trans (HB2.out.mono h1.size)
        exact h2.trans (hB2b.mono h2.size)
      have HREb := Lib.hid (HRE1.out.keep hB2b)
      have HXB : Hid (BoxAt wb w2.heap.size x e1 e2 e3 e4 e5 (.slice ad1 n1 cap1)) := by show BoxAt _ _ _ _ _ _ _ _ _; rw [hwb]; exact boxAt_new w2 _ _ _ _ _ _ _
      obtain ⟨B, hB⟩ : ∃ B, B = w2.heap.size := ⟨_, rfl⟩
      rw [← hB] at HXB
      rw [← hwb, ← hB]
      clear hwb hB hB2b HB1 HB2 HRE1 HBO HN
      have hok := ok_of HR.out
      have HTX := Lib.hid (texts_of hok.texts)
      have hn16 : n1 ≤ 16 := by have h1 : l.length ≤ 16 := hok.recs; have h2 : l.length = n1 := HREb.out.length; omega
      have hn5 : n1 ≤ 140737488355328 := by omega
      obtain ⟨L, hLL⟩ : ∃ L, L = bytesB ⟨x, e1, e2, e3, e4, e5, l⟩ := ⟨_, rfl⟩
      have hl36 : 36 ≤ L.length ∧ L.length ≤ 2404 := by rw [hLL]; exact ⟨(ok_len hok).2, (ok_len hok).1⟩
      have HAL : Hid (AllB L) := by show AllB _; rw [hLL]; exact bytes_all hok
      obtain ⟨N, hN⟩ : ∃ N, L.length = N := ⟨_, rfl⟩
      rw [hN] at hl36
      have CBY : Hid (∀ W, Below wb.heap.size wb W → Calls Try.prog 12 #[.agg #[.int .i64 x, .int .i64 e1, .int .i64 e2, .int .i64 e3, .bool e4, .int .i64 e5, .slice ad1 n1 cap1]] W fun e w' => ∃ g c, e = .returned (.tuple #[.slice (some ⟨g, 0, none⟩) N c, .int .i64 0]) ∧ Hid (MadeP w' W.heap.size g N c L) ∧ Hid (Below W.heap.size W w')) := by
        intro W hW
        have := bytes_own W ⟨x, e1, e2, e3, e4, e5, l⟩ ad1 n1 cap1 N (HREb.out.keep hW) HR.out HW.out (by rw [← hLL]; exact hN)
        rw [← hLL] at this
        exact this
      have CSB : Hid (∀ W, Below wb.heap.size wb W → Calls Try.prog 10 #[.agg #[.int .i64 x, .int .i64 e1, .int .i64 e2, .int .i64 e3, .bool e4, .int .i64 e5, .slice ad1 n1 cap1]] W fun e w' => e = .returned (.bool true) ∧ Below W.heap.size W w') := fun W hW =>
        lawSame_parts W x e1 e2 e3 e4 e5 l ad1 n1 cap1 (HREb.out.keep hW) HTX.out hn5 HW.out
      have COD : Hid (∀ W (a : Nat) n, Below wb.heap.size wb W → a ≤ 10 → -9223372036854775808 ≤ n → n ≤ 9223372036854775807 → Calls Try.prog 11 #[.agg #[.int .i64 x, .int .i64 e1, .int .i64 e2, .int .i64 e3, .bool e4, .int .i64 e5, .slice ad1 n1 cap1], .int .i64 (a : Int), .int .i64 n] W (GivesOdd W n1)) := fun W a n hW ha h0 h1 =>
        odd_any W x e1 e2 e3 e4 e5 l ad1 n1 cap1 (HREb.out.keep hW) HTX.out (by omega) HW.out a n (by omega) ⟨h0, h1⟩
      have HNN := Lib.hid hN
      clear hok hLL hN HREb HR HW HTX
      have p0 := HXB.out.c0
      have p1 := HXB.out.c1
      have p2 := HXB.out.c2
      have p3 := HXB.out.c3
      have p4 := HXB.out.c4
      have p5 := HXB.out.c5
      have p6 := HXB.out.c6
      go_wp2_with fail
      refine (CSB.out wb (Below.refl _ _)).mono ?_
      rintro e w3 ⟨rfl, hb3⟩
      have HB3 := Lib.hid hb3
      clear hb3 p0 p1 p2 p3 p4 p5 p6 CSB
      go_wp2
      go_loopw [3] (fun v3 wr => ∃ a : Nat, a ≤ 10 ∧ v3 = .int .i64 (a : Int) ∧ Below wb.heap.size wb wr) (fun v3 _ => (10 - intOf v3).toNat)
      case atStart => exact ⟨0, by omega, rfl, HB3.out⟩
      case round =>
        obtain ⟨a, ha, rfl, hbel⟩ := hrel
        have HBA := Lib.hid hbel
        clear hbel
        obtain ⟨wa, hwa⟩ : ∃ wa : World, wa = wr := ⟨_, rfl⟩
        subst hwa
        by_cases hla : a < 10
        · have hda : decide ((a : Int) < 10) = true := by simp; omega
          go_wp2
          go_loopw [33] (fun v33 wr => ∃ j : Nat, j ≤ 11 ∧ v33 = .int .i64 (j : Int) ∧ Below wa.heap.size wa wr ∧ RowAt longK wr (some ⟨wa.heap.size, 0, none⟩) 11 11 turns) (fun v33 _ => (11 - intOf v33).toNat)
          case atStart => exact ⟨0, by omega, rfl, (Below.refl _ _).alloc (Nat.le_refl _) _, rowAt_lit longK_ok wa turns (by decide) _ rfl 11 rfl⟩
          case round =>
            obtain ⟨j, hj, rfl, hbel, hls⟩ := hrel
            have HBI := Lib.hid (HBA.out.trans (hbel.mono HBA.out.size))
            have HBJ := Lib.hid hbel
            have HLS := Lib.hid hls
            clear hbel hls
            obtain ⟨wi, hwi⟩ : ∃ wi : World, wi = wr := ⟨_, rfl⟩
            subst hwi
            by_cases hlj : j < 11
            · have hdj : decide ((j : Int) < 11) = true := by simp; omega
              have hij : (j : Int) < 11 := by omega
              obtain ⟨n, hcell, hn0, hn1⟩ := turns_at HLS.out hlj
              have p0 := (HXB.out.on HBI.out).c0
              have p1 := (HXB.out.on HBI.out).c1
              have p2 := (HXB.out.on HBI.out).c2
              have p3 := (HXB.out.on HBI.out).c3
              have p4 := (HXB.out.on HBI.out).c4
              have p5 := (HXB.out.on HBI.out).c5
              have p6 := (HXB.out.on HBI.out).c6
              go_wp2_with fail
              refine (COD.out wi a n HBI.out (by omega) hn0 hn1).mono ?_
              rintro e w5 ⟨f0, f1, f2, f3, f4, f5, fl, fd, fn, fc, rfl, HF1, HF2, HF3, HF4, HB5⟩
              clear p0 p1 p2 p3 p4 p5 p6
              go_wp2_with fail
              refine (lawSame_parts w5 f0 f1 f2 f3 f4 f5 fl fd fn fc HF1.out HF2.out (by have := HF3.out; omega) HF4.out).mono ?_
              rintro e w6 ⟨rfl, hb6⟩
              have HB56 := Lib.hid (HB5.out.trans (hb6.mono HB5.out.size))
              have HBJ6 := Lib.hid (HBJ.out.trans (HB56.out.mono HBJ.out.size))
              have HLS6 := Lib.hid (HLS.out.keep HB56.out)
              clear hb6 hcell HF1 HF2 HF3 HF4 HB5
              go_wp2
              go_roundw
              case rel => exact ⟨j + 1, by omega, by go_num, HBJ6.out, HLS6.out⟩
              case measure => simp [intOf]; omega
            · have hdj : decide ((j : Int) < 11) = false := by simp; omega
              clear HLS
              go_wp2
              go_roundw
              case rel => exact ⟨a + 1, by omega, by go_num, HBI.out⟩
              case measure => simp [intOf]; omega
        · have hda : decide ((a : Int) < 10) = false := by simp; omega
          have p0 := (HXB.out.on HBA.out).c0
          have p1 := (HXB.out.on HBA.out).c1
          have p2 := (HXB.out.on HBA.out).c2
          have p3 := (HXB.out.on HBA.out).c3
          have p4 := (HXB.out.on HBA.out).c4
          have p5 := (HXB.out.on HBA.out).c5
          have p6 := (HXB.out.on HBA.out).c6
          go_wp2_with fail
          refine (CBY.out wa HBA.out).mono ?_
          rintro e w4 ⟨g, c, rfl, HO4, HB4⟩
          clear p0 p1 p2 p3 p4 p5 p6 CBY COD HXB
          have HBB4 : Hid (Below w.heap.size w w4) := by
            have h1 := HBb.out.trans (HBA.out.mono HBb.out.size)
            exact h1.trans (HB4.out.mono h1.size)
          have hNc := (pre_owns HO4.out).2.2.1
          have hgb := (pre_owns HO4.out).2.2.2.1
          clear HB4 HBA HBb HB3
          go_wp2
          go_loopw [8] (fun v8 wr => ∃ i : Nat, i ≤ N + 1 ∧ v8 = .int .i64 (i : Int) ∧ Below w4.heap.size w4 wr) (fun v8 _ => N + 1 - (intOf v8).toNat)
          case atStart => exact ⟨0, by omega, rfl, Below.refl _ _⟩
          case round =>
            obtain ⟨i, hi, rfl, hbel⟩ := hrel
            have HBI := Lib.hid hbel
            have HOI := Lib.hid (HO4.out.on hbel)
            clear hbel
            obtain ⟨wi, hwi⟩ : ∃ wi : World, wi = wr := ⟨_, rfl⟩
            subst hwi
            by_cases hgo : i ≤ N ∧ k < 15
            · obtain ⟨hiN, hk15⟩ := hgo
              have hd1 : decide (i ≤ N) = true := decide_eq_true hiN
              have hd2 : decide ((k : Int) < 15) = true := by simp; omega
              have hsl : ∀ W, (Instr.slice 34 (.slice (some ⟨g, 0, none⟩) N c) none (some (.int .i64 (i : Int))) none).run Try.prog W = .ok (.slice (some ⟨g, 0, none⟩) i c) W := run_upto (some ⟨g, 0, none⟩) N c i (by omega)
              go_wp2_with fail
              refine (lawReads_any wi _ i c (L.take i) (byt_upto (owns_row HOI.out HAL.out).1 i hiN) (by omega) 0 (by omega) (by omega)).mono ?_
              rintro e w5 ⟨rfl, hb5⟩
              have HB5 := Lib.hid (HBI.out.trans (hb5.mono HBI.out.size))
              have HO5 := Lib.hid (HOI.out.on hb5)
              clear hb5
              have HVE : Hid (OwnRow byteK (w5.alloc (.cells #[] 5)) w4.heap.size (.slice (some ⟨w5.heap.size, 0, none⟩) 0 0) []) := ownRow_lit byteK_ok w5 _ [] HB5.out.size (by simp) _ rfl 0 rfl
              have HBE : Hid (Below w4.heap.size w4 (w5.alloc (.cells #[] 5))) := HB5.out.alloc HB5.out.size _
              have HRI : Hid (RowAt byteK (w5.alloc (.cells #[] 5)) (some ⟨g, 0, none⟩) i c (L.take i)) := by
                have h1 := owns_row (World.ownsRow.alloc HO5.out (.cells #[] 5)) HAL.out
                exact row_bytes (cut_row h1 i hiN)
              go_wp2_with (at_builtin; refine list_row (by rfl) byteK_ok (.tmp 65) (.tmp 68) rfl w4.heap.size [] (L.take i) _ rfl HVE.out HBE.out.size (some ⟨g, 0, none⟩) i c rfl HRI.out (by rw [List.length_nil]; omega) ?_)
              intro v6 w6 hap
              have HO6 : Hid (OwnRow byteK w6 w4.heap.size v6 (L.take i)) := hap.1
              have HB6 : Hid (Below w4.heap.size w4 w6) := HBE.out.grown hap.2.1 HBE.out.size fun q hq => (HVE.out.lt q hq).1
              have HBX : Hid (Below w4.heap.size w4 (w6.alloc (.cells #[.int .u8 1] 5))) := HB6.out.alloc HB6.out.size _
              have HRX : Hid (RowAt byteK (w6.alloc (.cells #[.int .u8 1] 5)) (some ⟨w6.heap.size, 0, none⟩) 1 1 [1]) := rowAt_lit byteK_ok w6 [1] (by simp) _ rfl 1 rfl
              have HLI : Hid ((L.take i).length = i) := by show _ = _; rw [List.length_take, HNN.out]; omega
              clear hap HVE HBE HRI
              go_wp2_with (at_builtin; refine list_row (by rfl) byteK_ok (.tmp 69) (.tmp 70) rfl w4.heap.size (L.take i) [1] _ rfl (HO6.out.alloc _) HBX.out.size (some ⟨w6.heap.size, 0, none⟩) 1 1 rfl HRX.out (by rw [HLI.out]; omega) ?_)
              intro v7 w7 hap
              obtain ⟨ad7, cap7, hv7, hrow7⟩ := own_byt (n := i + 1) hap.1 (all_append (take_all HAL.out i) all_one) (by rw [List.length_append, HLI.out]; rfl)
              subst hv7
              have HR7 := Lib.hid hrow7.1
              have HB7 : Hid (Below w4.heap.size w4 w7) := HBX.out.grown hap.2.1 HBX.out.size fun q hq => (HO6.out.lt q hq).1
              clear hap hrow7 HO6 HRX HBX HB6
              go_wp2_with fail
              refine (lawReads_any w7 _ (i + 1) cap7 _ HR7.out (by omega) (-1) (by omega) (by omega)).mono ?_
              rintro e w8 ⟨rfl, hb8⟩
              have HB8 := Lib.hid (HB7.out.trans (hb8.mono HB7.out.size))
              have HO8 := Lib.hid (HO4.out.on HB8.out)
              clear hb8 HR7 HB7
              by_cases hlN : i < N
              · have hd3 : decide (i < N) = true := decide_eq_true hlN
                have HVE : Hid (OwnRow byteK (w8.alloc (.cells #[] 5)) w4.heap.size (.slice (some ⟨w8.heap.size, 0, none⟩) 0 0) []) := ownRow_lit byteK_ok w8 _ [] HB8.out.size (by simp) _ rfl 0 rfl
                have HBE : Hid (Below w4.heap.size w4 (w8.alloc (.cells #[] 5))) := HB8.out.alloc HB8.out.size _
                have HRI : Hid (RowAt byteK (w8.alloc (.cells #[] 5)) (some ⟨g, 0, none⟩) N c L) := row_bytes (owns_row (World.ownsRow.alloc HO8.out (.cells #[] 5)) HAL.out)
                go_wp2_with (at_builtin; refine list_row (by rfl) byteK_ok (.tmp 79) (.tmp 80) rfl w4.heap.size [] L _ rfl HVE.out HBE.out.size (some ⟨g, 0, none⟩) N c rfl HRI.out (by rw [List.length_nil]; omega) ?_)
                intro v9 w9 hap
                obtain ⟨g9, c9, hv9, ho9⟩ := own_block (n := N) (l := L) hap.1 HNN.out (by omega)
                subst hv9
                have HO9 := Lib.hid ho9
                have HB9 : Hid (Below w4.heap.size w4 w9) := HBE.out.grown hap.2.1 HBE.out.size fun q hq => (HVE.out.lt q hq).1
                clear hap ho9 HVE HBE HRI
                have c0 := (pre_owns HO9.out).1.cell i (by rw [HNN.out]; exact hlN)
                have f0 := (pre_owns HO9.out).1.free i
                obtain ⟨b8, hb8⟩ : ∃ b8 : Nat, L.getD i 0 = b8 := ⟨_, rfl⟩
                rw [hb8] at c0
                have hi1 : (i : Int) < (N : Int) := by omega
                go_upto_region 25 with fail
                obtain ⟨z, hz8, hz⟩ := xor_some (b8 : Int) ((2 : Int) ^ (k % 8) % 256)
                rw [hz]
                obtain ⟨w10, hw10⟩ : ∃ w10, w10 = w9.setCell ⟨g9, i, none⟩ (.int .u8 (z : Int)) := ⟨_, rfl⟩
                have HO10 : Hid (MadeP w10 w4.heap.size g9 N c9 (L.set i z)) := by show MadeP _ _ _ _ _ _; rw [hw10]; exact own_turned HO9.out rfl
                have HB10 : Hid (Below w4.heap.size w4 w10) := by show Below _ _ _; rw [hw10]; exact HB9.out.setCell ((pre_owns HO9.out).2.2.2.1) _
                have HAL2 : Hid (AllB (L.set i z)) := all_set HAL.out i z hz8
                rw [← hw10]
                clear hw10 hz c0 f0 hb8 HO9 HB9
                go_wp2_with fail
                refine (lawReads_any w10 _ N c9 _ (owns_row HO10.out HAL2.out).1 (by omega) 1099511627777 (by omega) (by omega)).mono ?_
                rintro e w11 ⟨rfl, hb11⟩
                have HB11 := Lib.hid (HB10.out.trans (hb11.mono HB10.out.size))
                clear hb11
                go_wp2
                go_roundw
                case rel => exact ⟨i + 1, by omega, by go_num, HB11.out⟩
                case measure => simp [intOf]; omega
              · have hd3 : decide (i < N) = false := decide_eq_false hlN
                go_wp2
                go_roundw
                case rel => exact ⟨i + 1, by omega, by go_num, HB8.out⟩
                case measure => simp [intOf]; omega
            · by_cases hiN : i ≤ N
              · have hd1 : decide (i ≤ N) = true := decide_eq_true hiN
                have hd2 : decide ((k : Int) < 15) = false := by simp; omega
                have HBW := Lib.hid (HBB4.out.trans (HBI.out.mono HBB4.out.size))
                go_wp2
                go_roundw
                case rel => exact ⟨k + 1, by omega, by go_num, HBW.out⟩
                case measure => simp [intOf]; omega
              · have hd1 : decide (i ≤ N) = false := decide_eq_false hiN
                have HBW := Lib.hid (HBB4.out.trans (HBI.out.mono HBB4.out.size))
                go_wp2
                go_roundw
                case rel => exact ⟨k + 1, by omega, by go_num, HBW.out⟩
                case measure => simp [intOf]; omega
    · have hd : decide ((k : Int) < 60) = false := by simp; omega
      go_wp2
      go_loopw [97] (fun v97 wr => ∃ j : Nat, j ≤ 8 ∧ v97 = .int .i64 (j : Int) ∧ Below w.heap.size w wr ∧ RowAt intK wr (some ⟨wo.heap.size, 0, none⟩) 8 8 lens) (fun v97 _ => 8 - (intOf v97).toNat)
      case atStart => exact ⟨0, by omega, rfl, HBO.out.alloc HBO.out.size _, rowAt_lit intK_ok wo lens (by decide) _ rfl 8 rfl⟩
      case round =>
        obtain ⟨j, hj, rfl, hbel, hls⟩ := hrel
        have HB := Lib.hid hbel
        have HLS := Lib.hid hls
        clear hbel hls
        obtain ⟨wi, hwi⟩ : ∃ wi : World, wi = wr := ⟨_, rfl⟩
        subst hwi
        by_cases hlj : j < 8
        · have hdj : decide ((j : Int) < 8) = true := by simp; omega
          have hij : (j : Int) < 8 := by omega
          obtain ⟨n, hcell, hn5⟩ := lens_at HLS.out hlj
          have hmk := fun W => run_make_part W n n (Nat.le_refl _) (by omega)
          go_upto_region 31 with fail
          obtain ⟨w1, hw1⟩ : ∃ w1, w1 = wi.alloc (.cells (vals (List.replicate n 0)).toArray 5) := ⟨_, rfl⟩
          obtain ⟨gz, hgz⟩ : ∃ gz, gz = wi.heap.size := ⟨_, rfl⟩
          have hzall : AllB (List.replicate n 0) := fun y hy => by rw [List.eq_of_mem_replicate hy]; decide
          have HZ1 : Hid (Row w1 (some ⟨gz, 0, none⟩) n n (List.replicate n 0)) := by
            have := (own_new wi (List.replicate n 0)).byt hzall n (by simp)
            rw [List.length_replicate, ← hw1, ← hgz] at this
            exact ⟨this, fun e => by cases e⟩
          have hB1 : Below wi.heap.size wi w1 := by rw [hw1]; exact (Below.refl _ _).alloc (Nat.le_refl _) _
          have HB1 := Lib.hid (HB.out.trans (hB1.mono HB.out.size))
          have HLS1 := Lib.hid (HLS.out.keep hB1)
          rw [← hw1, ← hgz]
          clear hw1 hgz hB1 hcell hmk HLS HB
          go_wp2_with fail
          refine (lawReads_any w1 _ n n _ HZ1.out.1 (by omega) 1 (by omega) (by omega)).mono ?_
          rintro e w2 ⟨rfl, hb2⟩
          have HB2 := Lib.hid (HB1.out.trans (hb2.mono HB1.out.size))
          have HLS2 := Lib.hid (HLS1.out.keep hb2)
          have HZ2 := Lib.hid (HZ1.out.keep hb2 (Nat.le_refl _))
          clear hb2 HB1 HLS1 HZ1
          by_cases h12 : 12 < n
          · have hd12 : decide ((12 : Int) < (n : Int)) = true := decide_eq_true (by omega)
            have hup : ∀ W, (Instr.slice 34 (.slice (some ⟨gz, 0, none⟩) n n) none (some (.int .i64 8)) none).run Try.prog W = .ok (.slice (some ⟨gz, 0, none⟩) 8 n) W := run_upto (some ⟨gz, 0, none⟩) n n 8 (by omega)
            obtain ⟨M, hM⟩ : ∃ M, M = List.replicate n 0 := ⟨_, rfl⟩
            rw [← hM] at HZ2 hzall
            have HMA : Hid (AllB M) := hzall
            obtain ⟨T8, hT8⟩ : ∃ T8, T8 = M.take 8 := ⟨_, rfl⟩
            have HT8 : Hid (T8.length = 8) := by show _ = _; rw [hT8, List.length_take, hM, List.length_replicate]; omega
            have HTA : Hid (AllB T8) := by show AllB _; rw [hT8]; exact take_all hzall 8
            have hML : M.length = n := by rw [hM, List.length_replicate]
            have HVE : Hid (OwnRow byteK (w2.alloc (.cells #[] 5)) w2.heap.size (.slice (some ⟨w2.heap.size, 0, none⟩) 0 0) []) := ownRow_lit byteK_ok w2 _ [] (Nat.le_refl _) (by simp) _ rfl 0 rfl
            have HBE : Hid (Below w2.heap.size w2 (w2.alloc (.cells #[] 5))) := (Below.refl _ _).alloc (Nat.le_refl _) _
            have HRI : Hid (RowAt byteK (w2.alloc (.cells #[] 5)) (some ⟨gz, 0, none⟩) 8 n T8) := by
              have := row_bytes (cut_row (HZ2.out.keep HBE.out (Nat.le_refl _)) 8 (by omega))
              rw [← hT8] at this
              exact this
            clear hT8 hM hzall
            have HML := Lib.hid hML
            clear hML
            obtain ⟨y1, hy1, z1⟩ : ∃ y : Nat, (n : Int) / 16777216 = (y : Int) ∧ y < 256 := ⟨n / 16777216, by omega, by omega⟩
            obtain ⟨y2, hy2, z2⟩ : ∃ y : Nat, (n : Int) / 65536 = (y : Int) ∧ y < 256 := ⟨n / 65536, by omega, by omega⟩
            obtain ⟨y3, hy3, z3⟩ : ∃ y : Nat, (n : Int) / 256 = (y : Int) ∧ y < 256 := ⟨n / 256, by omega, by omega⟩
            obtain ⟨y4, hy4, z4⟩ : ∃ y : Nat, (n : Int) % 256 = (y : Int) ∧ y < 256 := ⟨n % 256, by omega, by omega⟩
            obtain ⟨Y, hY⟩ : ∃ Y, Y = [y1, y2, y3, y4] := ⟨_, rfl⟩
            have hYL : Y.length = 4 := by rw [hY]; rfl
            have HYA : Hid (AllB Y) := by
              intro y hy
              rw [hY] at hy
              simp only [List.mem_cons, List.not_mem_nil, or_false] at hy
              rcases hy with rfl | rfl | rfl | rfl <;> assumption
            go_wp2_with (at_builtin; refine list_row (by rfl) byteK_ok (.tmp 110) (.tmp 112) rfl w2.heap.size [] T8 _ rfl HVE.out HBE.out.size (some ⟨gz, 0, none⟩) 8 n rfl HRI.out (by rw [List.length_nil]; omega) ?_)
            intro v3 w3 hap
            have HO3 : Hid (OwnRow byteK w3 w2.heap.size v3 T8) := hap.1
            have HB3 : Hid (Below w2.heap.size w2 w3) := HBE.out.grown hap.2.1 HBE.out.size fun q hq => (HVE.out.lt q hq).1
            clear hap HVE HBE HRI
            have HRL : Hid (RowAt byteK (w3.alloc (.cells #[.int .u8 (y1 : Int), .int .u8 (y2 : Int), .int .u8 (y3 : Int), .int .u8 (y4 : Int)] 5)) (some ⟨w3.heap.size, 0, none⟩) 4 4 Y) := by
              rw [hY]
              exact rowAt_lit byteK_ok w3 [y1, y2, y3, y4] (by simp) _ rfl 4 rfl
            have HBL : Hid (Below w2.heap.size w2 (w3.alloc (.cells #[.int .u8 (y1 : Int), .int .u8 (y2 : Int), .int .u8 (y3 : Int), .int .u8 (y4 : Int)] 5))) := HB3.out.alloc HB3.out.size _
            have HYL := Lib.hid hYL
            clear hY hYL
            go_wp2_with (at_builtin; refine list_row (by rfl) byteK_ok (.tmp 113) (.tmp 125) rfl w2.heap.size T8 Y _ rfl (HO3.out.alloc _) HBL.out.size (some ⟨w3.heap.size, 0, none⟩) 4 4 rfl HRL.out (by rw [HT8.out]; omega) ?_)
            intro v4 w4 hap
            obtain ⟨T12, hT12⟩ : ∃ T, T = T8 ++ Y := ⟨_, rfl⟩
            have HO4 : Hid (OwnRow byteK w4 w2.heap.size v4 T12) := by rw [hT12]; exact hap.1
            have HTB : Hid (AllB T12) := by rw [hT12]; exact all_append HTA.out HYA.out
            have HB4 : Hid (Below w2.heap.size w2 w4) := HBL.out.grown hap.2.1 HBL.out.size fun q hq => (HO3.out.lt q hq).1
            clear hap HO3 HRL HBL HB3
            have HL4 : Hid (T12.length = 12) := by show _ = _; rw [hT12, List.length_append, HT8.out, HYL.out]
            clear hT12
            have HRZ : Hid (RowAt byteK w4 (some ⟨gz, 0, none⟩) n n M) := row_bytes (HZ2.out.keep HB4.out (Nat.le_refl _))
            go_wp2_with (at_builtin; refine list_row (by rfl) byteK_ok (.tmp 126) (.tmp 127) rfl w2.heap.size T12 M _ rfl HO4.out HB4.out.size (some ⟨gz, 0, none⟩) n n rfl HRZ.out (by rw [HL4.out]; omega) ?_)
            intro v5 w5 hap
            obtain ⟨ad5, cap5, hv5, hrow5⟩ := own_byt (n := 12 + n) hap.1 (all_append HTB.out HMA.out) (by rw [List.length_append, HL4.out, HML.out])
            subst hv5
            have HB5 : Hid (Below w2.heap.size w2 w5) := HB4.out.grown hap.2.1 HB4.out.size fun q hq => (HO4.out.lt q hq).1
            have HR5 := Lib.hid hrow5.1
            clear hap hrow5 HO4 HRZ
            obtain ⟨n12, hn12⟩ : ∃ m, m = 12 + n := ⟨_, rfl⟩
            rw [← hn12] at HR5
            rw [← hn12]
            have hnb : n12 ≤ 6000 := by omega
            clear hn12 hy1 hy2 hy3 hy4
            go_wp2_with fail
            refine (lawReads_any w5 ad5 n12 cap5 _ HR5.out (by omega) 1 (by omega) (by omega)).mono ?_
            rintro e w6 ⟨rfl, hb6⟩
            have HB6 := Lib.hid (HB5.out.trans (hb6.mono HB5.out.size))
            have HBZ := Lib.hid (HB2.out.trans (HB6.out.mono HB2.out.size))
            have HLS6 := Lib.hid (HLS2.out.keep HB6.out)
            clear hb6 HB5
            go_wp2
            go_roundw
            case rel => exact ⟨j + 1, by omega, by go_num, HBZ.out, HLS6.out⟩
            case measure => simp [intOf]; omega
          · have hd12 : decide ((12 : Int) < (n : Int)) = false := decide_eq_false (by omega)
            go_wp2
            go_roundw
            case rel => exact ⟨j + 1, by omega, by go_num, HB2.out, HLS2.out⟩
            case measure => simp [intOf]; omega
        · have hdj : decide ((j : Int) < 8) = false := by simp; omega
          clear HLS
          go_wp2_with fail
          refine (known_any wi).mono ?_
          rintro e w5 ⟨rfl, hb5⟩
          go_wp2
          go_ret
          exact ⟨rfl, HB.out.trans (hb5.mono HB.out.size)⟩
end Go.Proofs.Ytlpmfhccfihnfaa
