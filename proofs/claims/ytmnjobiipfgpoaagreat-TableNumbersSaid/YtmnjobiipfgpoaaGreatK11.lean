/- Parts of a proof, merged: TcRef, Shelf, TcKeys, TcCopy, TapeRow, TcEq, PrKnown, Masks, PrEpochs, TcKnown. -/
import Derived.Shelf.SlIterI.Sorted
import Derived.Shelf.SortM.Plain
import Derived.Shelf.SortM.SortNone
import Derived.Test.YtmnjobiipfgpoaaGreatProg
import Derived.Laws.StructEq
import Derived.WalkKit
import Derived.IntWalk
import Derived.Laws.BitsAllLaws
import Derived.Test.YtmnjobiipfgpoaaGreatK10
import Derived.Test.YtmnjobiipfgpoaaGreatK2
import Derived.Test.YtmnjobiipfgpoaaGreatK8
import Derived.Test.YtmnjobiipfgpoaaGreatK1
import Derived.Test.YtmnjobiipfgpoaaGreatK4
import Derived.Test.YtmnjobiipfgpoaaGreatK9
namespace Go.Proofs.YtmnjobiipfgpoaaGreat
open Go.RowKit
open Go.SeqMath
open Go.ProdMath
open Go.BatMath hiding AllB getD_lt take_all
set_option linter.unusedVariables false

def GivesTabOpen (w : World) (l : List Pd) (e : Ending) (w' : World) : Prop := ∃ v, IsLeast l v ∧ e = .returned (.tuple #[.int .i64 v, .bool (decide (0 ≤ v))]) ∧ Below w.heap.size w w'
set_option maxRecDepth 100000 in
set_option maxHeartbeats 4000000 in
theorem tabOpen_any (w : World) (kt : Nat) (ad : Option Addr) (len cap : Nat) (ms : List PM) (h : TabAt w kt ad len cap ms) (hL : len ≤ 1000000) :
    Calls Tryz.prog 23 #[.pointer (some ⟨kt, 0, none⟩)] w (GivesTabOpen w (pds ms)) := by
  have H := Lib.hid h
  have hlen := h.pds.row.length
  have HLEN := Lib.hid hlen
  have t0 := h.box.c0
  clear h hlen
  go_enter Tryz.func23, Tryz.ntmps23
  go_wp2
  clear t0
  go_loopw [4, 12] (fun v4 v12 wr => ∃ (v : Int) (j : Nat), v4 = .int .i64 v ∧ v12 = .int .i64 (j : Int) ∧ j ≤ len ∧ Hid (IsLeast ((pds ms).take j) v) ∧ Hid (Below w.heap.size w wr)) (fun _ v12 _ => len - (intOf v12).toNat)
  case atStart => exact ⟨-1, 0, rfl, rfl, Nat.zero_le _, least_nil, Below.refl _ _⟩
  case round =>
    obtain ⟨v, j, rfl, rfl, hj, HLE, HB⟩ := hrel
    obtain ⟨wo, hwo⟩ : ∃ wo : World, wo = wr := ⟨_, rfl⟩
    subst hwo
    by_cases hlt : j < len
    · have hd : decide (j < len) = true := decide_eq_true hlt
      have hjl : (j : Int) < (len : Int) := by omega
      obtain ⟨bk, off, m, rfl, hbk, hm, hla, c0, c1, c2, c3⟩ := (H.out.keep HB.out).pds.get hlt
      have htk : (pds ms).take (j + 1) = (pds ms).take j ++ [m.p] := by
        have : (pds ms)[j]? = some m.p := by unfold pds; rw [List.getElem?_map, hm]; rfl
        rw [List.take_add_one, this]; rfl
      have HTK := Lib.hid htk
      obtain ⟨⟨pid, pep, pl, po⟩, pd, pc⟩ := m
      simp only at c0 c1 c2 c3 HTK
      obtain ⟨pn, hpn⟩ : ∃ n, n = pl.length := ⟨_, rfl⟩
      rw [← hpn] at c2
      clear htk hm hla hbk hpn
      go_upto_region 5 with fail
      obtain ⟨W1, hW1⟩ : ∃ z, z = wo.alloc (.cells #[.int .i64 pid, .int .i64 pep, .slice pd pn pc, .int .i64 po] 36) := ⟨_, rfl⟩
      obtain ⟨P, hP⟩ : ∃ P, P = wo.heap.size := ⟨_, rfl⟩
      have HP1 : Hid (PBox W1 P pid pep (.slice pd pn pc) po) := by show PBox _ _ _ _ _ _; rw [hW1, hP]; exact pbox_new wo _ _ _ _
      have HB1 : Hid (Below w.heap.size w W1) := by show Below _ _ _; rw [hW1]; exact HB.out.trans (((Below.refl _ _).alloc (Nat.le_refl _) _).mono HB.out.size)
      rw [← hW1, ← hP]
      clear hW1 hP c0 c1 c2 c3
      have q3 := HP1.out.c3
      by_cases ho : 0 ≤ po
      · have hd1 : decide (0 ≤ po) = true := decide_eq_true ho
        have HOO := Lib.hid ho
        by_cases hv : v < 0
        · have hd2 : decide (v < 0) = true := decide_eq_true hv
          have HL2 : Hid (IsLeast ((pds ms).take (j + 1)) po) := by
            show IsLeast _ _
            rw [HTK.out]
            have hv1 : v = -1 := by rcases least_low HLE.out with h | h <;> omega
            exact least_take (p := ⟨pid, pep, pl, po⟩) HLE.out HOO.out (.inl hv1)
          clear hv ho
          go_wp2
          go_roundw
          case rel => exact ⟨po, j + 1, rfl, rfl, by omega, HL2.out, HB1.out⟩
          case measure => simp [intOf]; omega
        · have hd2 : decide (v < 0) = false := decide_eq_false hv
          by_cases hpv : po < v
          · have hd3 : decide (po < v) = true := decide_eq_true hpv
            have HL2 : Hid (IsLeast ((pds ms).take (j + 1)) po) := by
              show IsLeast _ _
              rw [HTK.out]
              exact least_take (p := ⟨pid, pep, pl, po⟩) HLE.out HOO.out (.inr (Int.le_of_lt hpv))
            clear hv ho hpv
            go_wp2
            go_roundw
            case rel => exact ⟨po, j + 1, rfl, rfl, by omega, HL2.out, HB1.out⟩
            case measure => simp [intOf]; omega
          · have hd3 : decide (po < v) = false := decide_eq_false hpv
            have HL2 : Hid (IsLeast ((pds ms).take (j + 1)) v) := by
              show IsLeast _ _
              rw [HTK.out]
              exact least_skip (p := ⟨pid, pep, pl, po⟩) HLE.out (.inr ⟨by omega, by show v ≤ po; omega⟩)
            clear hv ho hpv
            go_wp2
            go_roundw
            case rel => exact ⟨v, j + 1, rfl, rfl, by omega, HL2.out, HB1.out⟩
            case measure => simp [intOf]; omega
      · have hd1 : decide (0 ≤ po) = false := decide_eq_false ho
        have HL2 : Hid (IsLeast ((pds ms).take (j + 1)) v) := by
          show IsLeast _ _
          rw [HTK.out]
          exact least_skip (p := ⟨pid, pep, pl, po⟩) HLE.out (.inl (by show po < 0; omega))
        clear ho
        go_wp2
        go_roundw
        case rel => exact ⟨v, j + 1, rfl, rfl, by omega, HL2.out, HB1.out⟩
        case measure => simp [intOf]; omega
    · have hd : decide (j < len) = false := decide_eq_false hlt
      have HFIN : Hid (IsLeast (pds ms) v) := by
        have h1 := HLE.out
        have h2 := HLEN.out
        rw [List.take_of_length_le (by unfold pds; rw [List.length_map]; omega)] at h1
        exact h1
      go_wp2
      go_ret2
      exact ⟨v, HFIN.out, rfl, HB.out⟩
set_option maxRecDepth 100000 in
set_option maxHeartbeats 4000000 in
theorem refAllP_any (w : World) (ad1 ad2 : Option Addr) (n1 n2 cap1 cap2 : Nat) (ms1 ms2 : List PM) (h1 : PdsAt w ad1 n1 cap1 ms1) (h2 : PdsAt w ad2 n2 cap2 ms2) (he : pds ms1 = pds ms2) (hL : n1 ≤ 1000000) (hfew : fewP (pds ms1)) :
    Calls Tryz.prog 22 #[.slice ad1 n1 cap1, .slice ad2 n2 cap2] w (GivesBool w true) := by
  have hn : n1 = n2 := by
    have e := congrArg List.length he
    unfold pds at e
    rw [List.length_map, List.length_map, h1.row.length, h2.row.length] at e
    exact e
  subst hn
  have H1 := Lib.hid h1
  have H2 := Lib.hid h2
  have HE := Lib.hid he
  have HF := Lib.hid hfew
  clear h1 h2 he hfew
  go_enter Tryz.func22, Tryz.ntmps22
  go_wp2
  go_loopw [13] (fun v13 wr => ∃ j : Nat, v13 = .int .i64 (j : Int) ∧ j ≤ n1 ∧ Hid (Below w.heap.size w wr)) (fun v13 _ => n1 - (intOf v13).toNat)
  case atStart => exact ⟨0, rfl, Nat.zero_le _, Below.refl _ _⟩
  case round =>
    obtain ⟨j, rfl, hj, HB⟩ := hrel
    obtain ⟨wo, hwo⟩ : ∃ wo : World, wo = wr := ⟨_, rfl⟩
    subst hwo
    by_cases hlt : j < n1
    · have hd : decide (j < n1) = true := decide_eq_true hlt
      have hjl : (j : Int) < (n1 : Int) := by omega
      obtain ⟨bk, off, m, rfl, hbk, hm, hla, c0, c1, c2, c3⟩ := (H1.out.keep HB.out).get hlt
      obtain ⟨bk2, off2, m2, rfl, hbk2, hm2, hla2, d0, d1, d2, d3⟩ := (H2.out.keep HB.out).get hlt
      have hpp : m.p = m2.p := by
        have e := congrArg (fun l : List Pd => l[j]?) HE.out
        unfold pds at e
        simp only [List.getElem?_map, hm, hm2, Option.map_some, Option.some.injEq] at e
        exact e
      have hp5 := HF.out m.p (List.mem_map.2 ⟨m, List.mem_of_getElem? hm, rfl⟩)
      obtain ⟨⟨pid, pep, pl, po⟩, pd, pc⟩ := m
      obtain ⟨p2, qd, qc⟩ := m2
      simp only at hpp
      subst hpp
      simp only at c0 c1 c2 c3 d0 d1 d2 d3 hp5
      have hlb : RowAt trK wo pd pl.length pc pl := hla
      have hlb2 : RowAt trK wo qd pl.length qc pl := hla2
      obtain ⟨pn, hpn⟩ : ∃ n, n = pl.length := ⟨_, rfl⟩
      rw [← hpn] at c2 d2 hp5 hlb hlb2
      have HLA := Lib.hid hlb
      have HLA2 := Lib.hid hlb2
      have KS : Hid (∀ V, Below wo.heap.size wo V → (fun (V : World) => V.cell? ⟨bk, off + j * 4, none⟩ = some (.int .i64 pid) ∧ V.cell? ⟨bk, off + j * 4 + 1, none⟩ = some (.int .i64 pep) ∧ V.cell? ⟨bk, off + j * 4 + 2, none⟩ = some (.slice pd pn pc) ∧ V.cell? ⟨bk, off + j * 4 + 3, none⟩ = some (.int .i64 po) ∧ V.cell? ⟨bk2, off2 + j * 4, none⟩ = some (.int .i64 pid) ∧ V.cell? ⟨bk2, off2 + j * 4 + 1, none⟩ = some (.int .i64 pep) ∧ V.cell? ⟨bk2, off2 + j * 4 + 2, none⟩ = some (.slice qd pn qc) ∧ V.cell? ⟨bk2, off2 + j * 4 + 3, none⟩ = some (.int .i64 po)) V) := fun V hV => ⟨(hV.cell (p := ⟨_, _, none⟩) hbk).trans c0, (hV.cell (p := ⟨_, _, none⟩) hbk).trans c1, (hV.cell (p := ⟨_, _, none⟩) hbk).trans c2, (hV.cell (p := ⟨_, _, none⟩) hbk).trans c3, (hV.cell (p := ⟨_, _, none⟩) hbk2).trans d0, (hV.cell (p := ⟨_, _, none⟩) hbk2).trans d1, (hV.cell (p := ⟨_, _, none⟩) hbk2).trans d2, (hV.cell (p := ⟨_, _, none⟩) hbk2).trans d3⟩
      have hdrw : Below wo.heap.size wo wo.drew := (Below.refl _ wo).drew
      clear hla hla2 hlb hlb2 hpn hm hm2 c0 c1 c2 c3 d0 d1 d2 d3 hbk hbk2
      go_upto_region 6 with fail
      refine wp_region_noPanic ?_
      refine wp_region_z [] (fun (V : World) => V.cell? ⟨bk, off + j * 4, none⟩ = some (.int .i64 pid) ∧ V.cell? ⟨bk, off + j * 4 + 1, none⟩ = some (.int .i64 pep) ∧ V.cell? ⟨bk, off + j * 4 + 2, none⟩ = some (.slice pd pn pc) ∧ V.cell? ⟨bk, off + j * 4 + 3, none⟩ = some (.int .i64 po) ∧ V.cell? ⟨bk2, off2 + j * 4, none⟩ = some (.int .i64 pid) ∧ V.cell? ⟨bk2, off2 + j * 4 + 1, none⟩ = some (.int .i64 pep) ∧ V.cell? ⟨bk2, off2 + j * 4 + 2, none⟩ = some (.slice qd pn qc) ∧ V.cell? ⟨bk2, off2 + j * 4 + 3, none⟩ = some (.int .i64 po)) (by kernel_rfl) ?_
      have hHeld : (fun (V : World) => V.cell? ⟨bk, off + j * 4, none⟩ = some (.int .i64 pid) ∧ V.cell? ⟨bk, off + j * 4 + 1, none⟩ = some (.int .i64 pep) ∧ V.cell? ⟨bk, off + j * 4 + 2, none⟩ = some (.slice pd pn pc) ∧ V.cell? ⟨bk, off + j * 4 + 3, none⟩ = some (.int .i64 po) ∧ V.cell? ⟨bk2, off2 + j * 4, none⟩ = some (.int .i64 pid) ∧ V.cell? ⟨bk2, off2 + j * 4 + 1, none⟩ = some (.int .i64 pep) ∧ V.cell? ⟨bk2, off2 + j * 4 + 2, none⟩ = some (.slice qd pn qc) ∧ V.cell? ⟨bk2, off2 + j * 4 + 3, none⟩ = some (.int .i64 po)) _ := KS.out _ hdrw
      obtain ⟨u1, hu1⟩ : ∃ u, u = wo.drew := ⟨_, rfl⟩
      rw [← hu1] at hHeld hdrw
      rw [← hu1]
      clear hu1
      have HU1 := Lib.hid hdrw
      clear hdrw
      refine wpAnyZ_take (i := 0) (oi := ⟨_, _, _, _, _, _⟩) (v := ?_) rfl (by kernel_rfl) (by kernel_rfl) (by kernel_rfl) (by kernel_rfl) (by kernel_rfl) (fun _ _ _ h => h) (Or.inl ⟨by rfl, ?_⟩) (by assumption) ?_
      rotate_left
      · intro W hSw
        (try dsimp only at hSw)
        go_simp
        (try with_reducible rfl)
      (try simp only [Act.put, List.setIfInBounds_toArray, List.set_cons_zero, List.set_cons_succ])
      refine wpAnyZ_take (i := 1) (oi := ⟨_, _, _, _, _, _⟩) (v := ?_) rfl (by kernel_rfl) (by kernel_rfl) (by kernel_rfl) (by kernel_rfl) (by kernel_rfl) (fun _ _ _ h => h) (Or.inl ⟨by rfl, ?_⟩) (by assumption) ?_
      rotate_left
      · intro W hSw
        (try dsimp only at hSw)
        go_simp
        (try with_reducible rfl)
      (try simp only [Act.put, List.setIfInBounds_toArray, List.set_cons_zero, List.set_cons_succ])
      refine wpAnyZ_take (i := 2) (oi := ⟨_, _, _, _, _, _⟩) (v := ?_) rfl (by kernel_rfl) (by kernel_rfl) (by kernel_rfl) (by kernel_rfl) (by kernel_rfl) (fun _ _ _ h => h) (Or.inl ⟨by rfl, ?_⟩) (by assumption) ?_
      rotate_left
      · intro W hSw
        (try dsimp only at hSw)
        go_simp
        (try with_reducible rfl)
      (try simp only [Act.put, List.setIfInBounds_toArray, List.set_cons_zero, List.set_cons_succ])
      refine wpAnyZ_take (i := 3) (oi := ⟨_, _, _, _, _, _⟩) (v := ?_) rfl (by kernel_rfl) (by kernel_rfl) (by kernel_rfl) (by kernel_rfl) (by kernel_rfl) (fun _ _ _ h => h) (Or.inl ⟨by rfl, ?_⟩) (by assumption) ?_
      rotate_left
      · intro W hSw
        (try dsimp only at hSw)
        go_simp
        (try with_reducible rfl)
      (try simp only [Act.put, List.setIfInBounds_toArray, List.set_cons_zero, List.set_cons_succ])
      refine wpAnyZ_take (i := 4) (oi := ⟨_, _, _, _, _, _⟩) (v := ?_) rfl (by kernel_rfl) (by kernel_rfl) (by kernel_rfl) (by kernel_rfl) (by kernel_rfl) (fun _ _ _ h => h) (Or.inl ⟨by rfl, ?_⟩) (by assumption) ?_
      rotate_left
      · intro W hSw
        (try dsimp only at hSw)
        go_simp
        (try with_reducible rfl)
      (try simp only [Act.put, List.setIfInBounds_toArray, List.set_cons_zero, List.set_cons_succ])
      refine wpAnyZ_take (i := 5) (oi := ⟨_, _, _, _, _, _⟩) (v := ?_) rfl (by kernel_rfl) (by kernel_rfl) (by kernel_rfl) (by kernel_rfl) (by kernel_rfl) (fun _ _ _ h => h) (Or.inl ⟨by rfl, ?_⟩) (by assumption) ?_
      rotate_left
      · intro W hSw
        (try dsimp only at hSw)
        go_simp
        (try with_reducible rfl)
      (try simp only [Act.put, List.setIfInBounds_toArray, List.set_cons_zero, List.set_cons_succ])
      refine wpAnyZ_take (i := 6) (oi := ⟨_, _, _, _, _, _⟩) (v := ?_) rfl (by kernel_rfl) (by kernel_rfl) (by kernel_rfl) (by kernel_rfl) (by kernel_rfl) (fun _ _ _ h => h) (Or.inl ⟨by rfl, ?_⟩) (by assumption) ?_
      rotate_left
      · intro W hSw
        (try dsimp only at hSw)
        go_simp
        (try with_reducible rfl)
      (try simp only [Act.put, List.setIfInBounds_toArray, List.set_cons_zero, List.set_cons_succ])
      refine wpAnyZ_take (i := 7) (oi := ⟨_, _, _, _, _, _⟩) (v := ?_) rfl (by kernel_rfl) (by kernel_rfl) (by kernel_rfl) (by kernel_rfl) (by kernel_rfl) (fun _ _ _ h => h) (Or.inl ⟨by rfl, ?_⟩) (by assumption) ?_
      rotate_left
      · intro W hSw
        (try dsimp only at hSw)
        go_simp
        (try with_reducible rfl)
      (try simp only [Act.put, List.setIfInBounds_toArray, List.set_cons_zero, List.set_cons_succ])
      refine wpAnyZ_ready (rs := [8]) (by kernel_rfl) (by simp) ?_
      refine AllReadyZ.cons (o := ⟨_, _, _, _, _, _⟩) rfl (fun C hC => ?_) AllReadyZ.nil
      go_simp
      refine (prRefSame_any u1 pid pep po pl pd pn pc (HLA.out.keep HU1.out) qd qc (HLA2.out.keep HU1.out) (by omega)).mono ?_
      rintro e u2 ⟨rfl, hb⟩
      have HU2 := Lib.hid (HU1.out.trans (hb.mono HU1.out.size))
      clear hb
      have hHeld : (fun (V : World) => V.cell? ⟨bk, off + j * 4, none⟩ = some (.int .i64 pid) ∧ V.cell? ⟨bk, off + j * 4 + 1, none⟩ = some (.int .i64 pep) ∧ V.cell? ⟨bk, off + j * 4 + 2, none⟩ = some (.slice pd pn pc) ∧ V.cell? ⟨bk, off + j * 4 + 3, none⟩ = some (.int .i64 po) ∧ V.cell? ⟨bk2, off2 + j * 4, none⟩ = some (.int .i64 pid) ∧ V.cell? ⟨bk2, off2 + j * 4 + 1, none⟩ = some (.int .i64 pep) ∧ V.cell? ⟨bk2, off2 + j * 4 + 2, none⟩ = some (.slice qd pn qc) ∧ V.cell? ⟨bk2, off2 + j * 4 + 3, none⟩ = some (.int .i64 po)) u2 := KS.out _ HU2.out
      refine hC.out _ _ (fun _ => hHeld) (fun _ => ?_)
      clear hC C
      (try simp only [Act.put, List.setIfInBounds_toArray, List.set_cons_zero, List.set_cons_succ])
      refine wpAnyZ_take (i := 9) (oi := ⟨_, _, _, _, _, _⟩) (v := ?_) rfl (by kernel_rfl) (by kernel_rfl) (by kernel_rfl) (by kernel_rfl) (by kernel_rfl) (fun _ _ _ h => h) (Or.inl ⟨by rfl, ?_⟩) (by assumption) ?_
      rotate_left
      · intro W hSw
        (try dsimp only at hSw)
        go_simp
        (try with_reducible rfl)
      (try simp only [Act.put, List.setIfInBounds_toArray, List.set_cons_zero, List.set_cons_succ])
      refine wpAnyZ_done (by kernel_rfl) ?_ _
      refine NoPanic.normal ?_
      clear hHeld KS HU1
      have HB3 := Lib.hid (HB.out.trans (HU2.out.mono HB.out.size))
      go_wp2
      go_roundw
      case rel => exact ⟨j + 1, rfl, by omega, HB3.out⟩
      case measure => simp [intOf]; omega
    · have hd : decide (j < n1) = false := decide_eq_false hlt
      go_wp2
      go_ret
      exact ⟨rfl, HB.out⟩
set_option maxRecDepth 100000 in
set_option maxHeartbeats 4000000 in
theorem refRowsB_any (w : World) (ad1 : Option Addr) (n1 cap1 : Nat) (ms : List BM) (h1 : BatsAt w ad1 n1 cap1 ms) (hL : n1 ≤ 1000000) (hok : BatsOk (bats ms)) :
    Calls Tryz.prog 15 #[.slice ad1 n1 cap1, .slice ad1 n1 cap1] w (SaysB true w) := by
  have H1 := Lib.hid h1
  have HOK := Lib.hid hok
  clear h1 hok
  go_enter Tryz.func15, Tryz.ntmps15
  go_wp2
  go_loopw [13] (fun v13 wr => ∃ j : Nat, v13 = .int .i64 (j : Int) ∧ j ≤ n1 ∧ Hid (Below w.heap.size w wr)) (fun v13 _ => n1 - (intOf v13).toNat)
  case atStart => exact ⟨0, rfl, Nat.zero_le _, Below.refl _ _⟩
  case round =>
    obtain ⟨j, rfl, hj, HB⟩ := hrel
    obtain ⟨wo, hwo⟩ : ∃ wo : World, wo = wr := ⟨_, rfl⟩
    subst hwo
    by_cases hlt : j < n1
    · have hd : decide (j < n1) = true := decide_eq_true hlt
      have hjl : (j : Int) < (n1 : Int) := by omega
      obtain ⟨bk, off, m, rfl, hbk, hm, hrec, c0, c1, c2, c3, c4, c5, c6⟩ := (H1.out.keep HB.out).get hlt
      have hk3 := (HOK.out m.b (List.mem_map.2 ⟨m, List.mem_of_getElem? hm, rfl⟩)).2.2
      obtain ⟨⟨b0, b1, b2, b3, b4, b5, recs⟩, rd, rc⟩ := m
      have hrc : RecsAt wo rd recs.length rc recs := hrec
      simp only at c0 c1 c2 c3 c4 c5 c6 hk3
      obtain ⟨rn, hrn⟩ : ∃ n, n = recs.length := ⟨_, rfl⟩
      rw [← hrn] at c6 hk3 hrc
      have HRC := Lib.hid hrc
      have KS : Hid (∀ V, Below wo.heap.size wo V → (fun (V : World) => V.cell? ⟨bk, off + j * 7, none⟩ = some (.int .i64 b0) ∧ V.cell? ⟨bk, off + j * 7 + 1, none⟩ = some (.int .i64 b1) ∧ V.cell? ⟨bk, off + j * 7 + 2, none⟩ = some (.int .i64 b2) ∧ V.cell? ⟨bk, off + j * 7 + 3, none⟩ = some (.int .i64 b3) ∧ V.cell? ⟨bk, off + j * 7 + 4, none⟩ = some (.bool b4) ∧ V.cell? ⟨bk, off + j * 7 + 5, none⟩ = some (.int .i64 b5) ∧ V.cell? ⟨bk, off + j * 7 + 6, none⟩ = some (.slice rd rn rc)) V) := fun V hV => ⟨(hV.cell (p := ⟨_, _, none⟩) hbk).trans c0, (hV.cell (p := ⟨_, _, none⟩) hbk).trans c1, (hV.cell (p := ⟨_, _, none⟩) hbk).trans c2, (hV.cell (p := ⟨_, _, none⟩) hbk).trans c3, (hV.cell (p := ⟨_, _, none⟩) hbk).trans c4, (hV.cell (p := ⟨_, _, none⟩) hbk).trans c5, (hV.cell (p := ⟨_, _, none⟩) hbk).trans c6⟩
      have hdrw : Below wo.heap.size wo wo.drew := (Below.refl _ wo).drew
      clear hrec hrc hrn hm c0 c1 c2 c3 c4 c5 c6 hbk
      go_upto_region 6 with fail
      refine wp_region_noPanic ?_
      refine wp_region_z [] (fun (V : World) => V.cell? ⟨bk, off + j * 7, none⟩ = some (.int .i64 b0) ∧ V.cell? ⟨bk, off + j * 7 + 1, none⟩ = some (.int .i64 b1) ∧ V.cell? ⟨bk, off + j * 7 + 2, none⟩ = some (.int .i64 b2) ∧ V.cell? ⟨bk, off + j * 7 + 3, none⟩ = some (.int .i64 b3) ∧ V.cell? ⟨bk, off + j * 7 + 4, none⟩ = some (.bool b4) ∧ V.cell? ⟨bk, off + j * 7 + 5, none⟩ = some (.int .i64 b5) ∧ V.cell? ⟨bk, off + j * 7 + 6, none⟩ = some (.slice rd rn rc)) (by kernel_rfl) ?_
      have hHeld : (fun (V : World) => V.cell? ⟨bk, off + j * 7, none⟩ = some (.int .i64 b0) ∧ V.cell? ⟨bk, off + j * 7 + 1, none⟩ = some (.int .i64 b1) ∧ V.cell? ⟨bk, off + j * 7 + 2, none⟩ = some (.int .i64 b2) ∧ V.cell? ⟨bk, off + j * 7 + 3, none⟩ = some (.int .i64 b3) ∧ V.cell? ⟨bk, off + j * 7 + 4, none⟩ = some (.bool b4) ∧ V.cell? ⟨bk, off + j * 7 + 5, none⟩ = some (.int .i64 b5) ∧ V.cell? ⟨bk, off + j * 7 + 6, none⟩ = some (.slice rd rn rc)) _ := KS.out _ hdrw
      obtain ⟨u1, hu1⟩ : ∃ u, u = wo.drew := ⟨_, rfl⟩
      rw [← hu1] at hHeld hdrw
      rw [← hu1]
      clear hu1
      have HU1 := Lib.hid hdrw
      clear hdrw
      refine wpAnyZ_take (i := 0) (oi := ⟨_, _, _, _, _, _⟩) (v := ?_) rfl (by kernel_rfl) (by kernel_rfl) (by kernel_rfl) (by kernel_rfl) (by kernel_rfl) (fun _ _ _ h => h) (Or.inl ⟨by rfl, ?_⟩) (by assumption) ?_
      rotate_left
      · intro W hSw
        (try dsimp only at hSw)
        go_simp
        (try with_reducible rfl)
      (try simp only [Act.put, List.setIfInBounds_toArray, List.set_cons_zero, List.set_cons_succ])
      refine wpAnyZ_take (i := 1) (oi := ⟨_, _, _, _, _, _⟩) (v := ?_) rfl (by kernel_rfl) (by kernel_rfl) (by kernel_rfl) (by kernel_rfl) (by kernel_rfl) (fun _ _ _ h => h) (Or.inl ⟨by rfl, ?_⟩) (by assumption) ?_
      rotate_left
      · intro W hSw
        (try dsimp only at hSw)
        go_simp
        (try with_reducible rfl)
      (try simp only [Act.put, List.setIfInBounds_toArray, List.set_cons_zero, List.set_cons_succ])
      refine wpAnyZ_take (i := 2) (oi := ⟨_, _, _, _, _, _⟩) (v := ?_) rfl (by kernel_rfl) (by kernel_rfl) (by kernel_rfl) (by kernel_rfl) (by kernel_rfl) (fun _ _ _ h => h) (Or.inl ⟨by rfl, ?_⟩) (by assumption) ?_
      rotate_left
      · intro W hSw
        (try dsimp only at hSw)
        go_simp
        (try with_reducible rfl)
      (try simp only [Act.put, List.setIfInBounds_toArray, List.set_cons_zero, List.set_cons_succ])
      refine wpAnyZ_take (i := 3) (oi := ⟨_, _, _, _, _, _⟩) (v := ?_) rfl (by kernel_rfl) (by kernel_rfl) (by kernel_rfl) (by kernel_rfl) (by kernel_rfl) (fun _ _ _ h => h) (Or.inl ⟨by rfl, ?_⟩) (by assumption) ?_
      rotate_left
      · intro W hSw
        (try dsimp only at hSw)
        go_simp
        (try with_reducible rfl)
      (try simp only [Act.put, List.setIfInBounds_toArray, List.set_cons_zero, List.set_cons_succ])
      refine wpAnyZ_take (i := 4) (oi := ⟨_, _, _, _, _, _⟩) (v := ?_) rfl (by kernel_rfl) (by kernel_rfl) (by kernel_rfl) (by kernel_rfl) (by kernel_rfl) (fun _ _ _ h => h) (Or.inl ⟨by rfl, ?_⟩) (by assumption) ?_
      rotate_left
      · intro W hSw
        (try dsimp only at hSw)
        go_simp
        (try with_reducible rfl)
      (try simp only [Act.put, List.setIfInBounds_toArray, List.set_cons_zero, List.set_cons_succ])
      refine wpAnyZ_take (i := 5) (oi := ⟨_, _, _, _, _, _⟩) (v := ?_) rfl (by kernel_rfl) (by kernel_rfl) (by kernel_rfl) (by kernel_rfl) (by kernel_rfl) (fun _ _ _ h => h) (Or.inl ⟨by rfl, ?_⟩) (by assumption) ?_
      rotate_left
      · intro W hSw
        (try dsimp only at hSw)
        go_simp
        (try with_reducible rfl)
      (try simp only [Act.put, List.setIfInBounds_toArray, List.set_cons_zero, List.set_cons_succ])
      refine wpAnyZ_take (i := 6) (oi := ⟨_, _, _, _, _, _⟩) (v := ?_) rfl (by kernel_rfl) (by kernel_rfl) (by kernel_rfl) (by kernel_rfl) (by kernel_rfl) (fun _ _ _ h => h) (Or.inl ⟨by rfl, ?_⟩) (by assumption) ?_
      rotate_left
      · intro W hSw
        (try dsimp only at hSw)
        go_simp
        (try with_reducible rfl)
      (try simp only [Act.put, List.setIfInBounds_toArray, List.set_cons_zero, List.set_cons_succ])
      refine wpAnyZ_take (i := 7) (oi := ⟨_, _, _, _, _, _⟩) (v := ?_) rfl (by kernel_rfl) (by kernel_rfl) (by kernel_rfl) (by kernel_rfl) (by kernel_rfl) (fun _ _ _ h => h) (Or.inl ⟨by rfl, ?_⟩) (by assumption) ?_
      rotate_left
      · intro W hSw
        (try dsimp only at hSw)
        go_simp
        (try with_reducible rfl)
      (try simp only [Act.put, List.setIfInBounds_toArray, List.set_cons_zero, List.set_cons_succ])
      refine wpAnyZ_ready (rs := [8]) (by kernel_rfl) (by simp) ?_
      refine AllReadyZ.cons (o := ⟨_, _, _, _, _, _⟩) rfl (fun C hC => ?_) AllReadyZ.nil
      go_simp
      refine (refSame_any u1 ⟨b0, b1, b2, b3, b4, b5, recs⟩ ⟨b0, b1, b2, b3, b4, b5, recs⟩ rd rd rn rn rc rc (HRC.out.keep HU1.out) (HRC.out.keep HU1.out) hk3 true (by simp)).mono ?_
      rintro e u2 ⟨rfl, hb⟩
      have HU2 := Lib.hid (HU1.out.trans (hb.mono HU1.out.size))
      clear hb
      have hHeld : (fun (V : World) => V.cell? ⟨bk, off + j * 7, none⟩ = some (.int .i64 b0) ∧ V.cell? ⟨bk, off + j * 7 + 1, none⟩ = some (.int .i64 b1) ∧ V.cell? ⟨bk, off + j * 7 + 2, none⟩ = some (.int .i64 b2) ∧ V.cell? ⟨bk, off + j * 7 + 3, none⟩ = some (.int .i64 b3) ∧ V.cell? ⟨bk, off + j * 7 + 4, none⟩ = some (.bool b4) ∧ V.cell? ⟨bk, off + j * 7 + 5, none⟩ = some (.int .i64 b5) ∧ V.cell? ⟨bk, off + j * 7 + 6, none⟩ = some (.slice rd rn rc)) u2 := KS.out _ HU2.out
      refine hC.out _ _ (fun _ => hHeld) (fun _ => ?_)
      clear hC C
      (try simp only [Act.put, List.setIfInBounds_toArray, List.set_cons_zero, List.set_cons_succ])
      refine wpAnyZ_take (i := 9) (oi := ⟨_, _, _, _, _, _⟩) (v := ?_) rfl (by kernel_rfl) (by kernel_rfl) (by kernel_rfl) (by kernel_rfl) (by kernel_rfl) (fun _ _ _ h => h) (Or.inl ⟨by rfl, ?_⟩) (by assumption) ?_
      rotate_left
      · intro W hSw
        (try dsimp only at hSw)
        go_simp
        (try with_reducible rfl)
      (try simp only [Act.put, List.setIfInBounds_toArray, List.set_cons_zero, List.set_cons_succ])
      refine wpAnyZ_done (by kernel_rfl) ?_ _
      refine NoPanic.normal ?_
      clear hHeld KS HU1
      have HB3 := Lib.hid (HB.out.trans (HU2.out.mono HB.out.size))
      go_wp2
      go_roundw
      case rel => exact ⟨j + 1, rfl, by omega, HB3.out⟩
      case measure => simp [intOf]; omega
    · have hd : decide (j < n1) = false := decide_eq_false hlt
      go_wp2
      go_ret
      exact ⟨rfl, HB.out⟩
end Go.Proofs.YtmnjobiipfgpoaaGreat
namespace Go.Proofs
open Go.Shelf
def Tryz.keysA_ren : Go.Shelf.Ren := ⟨fun | 7 => 32 | 10 => 50 | n => n, fun | 23 => 70 | 26 => 2 | 3 => 36 | 28 => 78 | 0 => 0 | 27 => 77 | 33 => 92 | 4 => 4 | n => n, fun | n => n⟩
theorem Tryz.keysA : Go.Proofs.SlLaysZI.n7 Tryz.prog Tryz.keysA_ren := {
  mixed := by kernel_rfl
  f7 := ⟨Tryz.f32.name, by decide, Tryz.func32.trans (congrArg some (by kernel_rfl))⟩
  f10 := ⟨Tryz.f50.name, by decide, Tryz.func50.trans (congrArg some (by kernel_rfl))⟩
  t0 := Tryz.underlying0
  a0 := Tryz.isAgg0
  z0 := Tryz.sizeOf0
  v0 := Tryz.zeroValue0
  t4 := Tryz.underlying4
  a4 := Tryz.isAgg4
  z4 := Tryz.sizeOf4
  v4 := Tryz.zeroValue4
  t23 := Tryz.underlying70
  a23 := Tryz.isAgg70
  z23 := Tryz.sizeOf70
  v23 := Tryz.zeroValue70
  t26 := Tryz.underlying2
  a26 := Tryz.isAgg2
  z26 := Tryz.sizeOf2
  v26 := Tryz.zeroValue2
  t27 := Tryz.underlying77
  a27 := Tryz.isAgg77
  z27 := Tryz.sizeOf77
  v27 := Tryz.zeroValue77
  t28 := Tryz.underlying78
  a28 := Tryz.isAgg78
  z28 := Tryz.sizeOf78
  v28 := Tryz.zeroValue78
  t33 := Tryz.underlying92
  a33 := Tryz.isAgg92
  z33 := Tryz.sizeOf92
  v33 := Tryz.zeroValue92 }
def Tryz.sortedA_ren : Go.Shelf.Ren := ⟨fun | 6 => 31 | 8 => 48 | 9 => 49 | 11 => 72 | 13 => 74 | 12 => 73 | 23 => 100 | 24 => 101 | 14 => 91 | 15 => 92 | 16 => 93 | 17 => 94 | 18 => 95 | 19 => 96 | 20 => 97 | 21 => 98 | 22 => 99 | 25 => 107 | 26 => 108 | 27 => 109 | 28 => 110 | 29 => 111 | 30 => 112 | 31 => 116 | n => n, fun | 26 => 2 | 28 => 78 | 24 => 75 | 0 => 0 | 3 => 3 | 37 => 113 | 48 => 131 | 50 => 133 | 4 => 4 | 40 => 125 | 39 => 124 | 45 => 85 | 5 => 5 | 9 => 9 | 51 => 135 | 55 => 139 | 57 => 143 | 58 => 144 | 33 => 92 | n => n, fun | n => n⟩
theorem Tryz.sortedA : Go.Proofs.SlLaysZI.n6 Tryz.prog Tryz.sortedA_ren := {
  mixed := by kernel_rfl
  f6 := ⟨Tryz.f31.name, by decide, Tryz.func31.trans (congrArg some (by kernel_rfl))⟩
  f8 := ⟨Tryz.f48.name, by decide, Tryz.func48.trans (congrArg some (by kernel_rfl))⟩
  f11 := ⟨Tryz.f72.name, by decide, Tryz.func72.trans (congrArg some (by kernel_rfl))⟩
  t0 := Tryz.underlying0
  a0 := Tryz.isAgg0
  z0 := Tryz.sizeOf0
  v0 := Tryz.zeroValue0
  t24 := Tryz.underlying75
  a24 := Tryz.isAgg75
  z24 := Tryz.sizeOf75
  v24 := Tryz.zeroValue75
  t26 := Tryz.underlying2
  a26 := Tryz.isAgg2
  z26 := Tryz.sizeOf2
  v26 := Tryz.zeroValue2
  t28 := Tryz.underlying78
  a28 := Tryz.isAgg78
  z28 := Tryz.sizeOf78
  v28 := Tryz.zeroValue78
  i26 := by kernel_rfl }
def Tryz.sortA_ren : Go.Shelf.Ren := ⟨fun | 5 => 49 | 8 => 74 | 7 => 73 | 19 => 100 | 20 => 101 | 10 => 91 | 11 => 92 | 12 => 93 | 13 => 94 | 14 => 95 | 15 => 96 | 16 => 97 | 17 => 98 | 18 => 99 | 30 => 107 | 31 => 108 | 32 => 109 | 33 => 110 | 34 => 111 | 35 => 112 | 40 => 116 | n => n, fun | 23 => 75 | 25 => 2 | 3 => 3 | 32 => 113 | 22 => 75 | 0 => 0 | 44 => 131 | 46 => 133 | 4 => 4 | 36 => 125 | 35 => 124 | 41 => 85 | 5 => 5 | 9 => 9 | 53 => 135 | 57 => 139 | 63 => 143 | 64 => 144 | n => n, fun | n => n⟩
theorem Tryz.sortA : Go.Proofs.SlLaysM.n5 Tryz.prog Tryz.sortA_ren := {
  mixed := by kernel_rfl
  f5 := ⟨Tryz.f49.name, by decide, Tryz.func49.trans (congrArg some (by kernel_rfl))⟩
  f7 := ⟨Tryz.f73.name, by decide, Tryz.func73.trans (congrArg some (by kernel_rfl))⟩
  f8 := Tryz.func74.trans (congrArg some (by kernel_rfl))
  f10 := ⟨Tryz.f91.name, by decide, Tryz.func91.trans (congrArg some (by kernel_rfl))⟩
  f11 := ⟨Tryz.f92.name, by decide, Tryz.func92.trans (congrArg some (by kernel_rfl))⟩
  f12 := ⟨Tryz.f93.name, by decide, Tryz.func93.trans (congrArg some (by kernel_rfl))⟩
  f13 := ⟨Tryz.f94.name, by decide, Tryz.func94.trans (congrArg some (by kernel_rfl))⟩
  f14 := ⟨Tryz.f95.name, by decide, Tryz.func95.trans (congrArg some (by kernel_rfl))⟩
  f15 := ⟨Tryz.f96.name, by decide, Tryz.func96.trans (congrArg some (by kernel_rfl))⟩
  f16 := ⟨Tryz.f97.name, by decide, Tryz.func97.trans (congrArg some (by kernel_rfl))⟩
  f17 := ⟨Tryz.f98.name, by decide, Tryz.func98.trans (congrArg some (by kernel_rfl))⟩
  f18 := ⟨Tryz.f99.name, by decide, Tryz.func99.trans (congrArg some (by kernel_rfl))⟩
  f19 := Tryz.func100.trans (congrArg some (by kernel_rfl))
  f20 := Tryz.func101.trans (congrArg some (by kernel_rfl))
  f30 := ⟨Tryz.f107.name, by decide, Tryz.func107.trans (congrArg some (by kernel_rfl))⟩
  f31 := Tryz.func108.trans (congrArg some (by kernel_rfl))
  f32 := Tryz.func109.trans (congrArg some (by kernel_rfl))
  f33 := ⟨Tryz.f110.name, by decide, Tryz.func110.trans (congrArg some (by kernel_rfl))⟩
  f34 := ⟨Tryz.f111.name, by decide, Tryz.func111.trans (congrArg some (by kernel_rfl))⟩
  f35 := ⟨Tryz.f112.name, by decide, Tryz.func112.trans (congrArg some (by kernel_rfl))⟩
  f40 := ⟨Tryz.f116.name, by decide, Tryz.func116.trans (congrArg some (by kernel_rfl))⟩
  t0 := Tryz.underlying0
  a0 := Tryz.isAgg0
  z0 := Tryz.sizeOf0
  v0 := Tryz.zeroValue0
  t3 := Tryz.underlying3
  a3 := Tryz.isAgg3
  z3 := Tryz.sizeOf3
  v3 := Tryz.zeroValue3
  t4 := Tryz.underlying4
  a4 := Tryz.isAgg4
  z4 := Tryz.sizeOf4
  v4 := Tryz.zeroValue4
  t5 := Tryz.underlying5
  a5 := Tryz.isAgg5
  z5 := Tryz.sizeOf5
  v5 := Tryz.zeroValue5
  t9 := Tryz.underlying9
  a9 := Tryz.isAgg9
  z9 := Tryz.sizeOf9
  v9 := Tryz.zeroValue9
  t22 := Tryz.underlying75
  a22 := Tryz.isAgg75
  z22 := Tryz.sizeOf75
  v22 := Tryz.zeroValue75
  t23 := Tryz.underlying75
  a23 := Tryz.isAgg75
  z23 := Tryz.sizeOf75
  v23 := Tryz.zeroValue75
  t25 := Tryz.underlying2
  a25 := Tryz.isAgg2
  z25 := Tryz.sizeOf2
  v25 := Tryz.zeroValue2
  t32 := Tryz.underlying113
  a32 := Tryz.isAgg113
  z32 := Tryz.sizeOf113
  v32 := Tryz.zeroValue113
  t35 := Tryz.underlying124
  a35 := Tryz.isAgg124
  z35 := Tryz.sizeOf124
  v35 := Tryz.zeroValue124
  t36 := Tryz.underlying125
  a36 := Tryz.isAgg125
  z36 := Tryz.sizeOf125
  v36 := Tryz.zeroValue125
  t41 := Tryz.underlying85
  a41 := Tryz.isAgg85
  z41 := Tryz.sizeOf85
  v41 := Tryz.zeroValue85
  t44 := Tryz.underlying131
  a44 := Tryz.isAgg131
  z44 := Tryz.sizeOf131
  v44 := Tryz.zeroValue131
  t46 := Tryz.underlying133
  a46 := Tryz.isAgg133
  z46 := Tryz.sizeOf133
  v46 := Tryz.zeroValue133
  t53 := Tryz.underlying135
  a53 := Tryz.isAgg135
  z53 := Tryz.sizeOf135
  v53 := Tryz.zeroValue135
  t57 := Tryz.underlying139
  a57 := Tryz.isAgg139
  z57 := Tryz.sizeOf139
  v57 := Tryz.zeroValue139
  t63 := Tryz.underlying143
  a63 := Tryz.isAgg143
  z63 := Tryz.sizeOf143
  v63 := Tryz.zeroValue143
  t64 := Tryz.underlying144
  a64 := Tryz.isAgg144
  z64 := Tryz.sizeOf144
  v64 := Tryz.zeroValue144 }
end Go.Proofs
namespace Go.Proofs.YtmnjobiipfgpoaaGreat
open Go.RowKit
open Go.SeqMath
open Go.ProdMath
open Go.WideElems (Fit rd rg rd_mk rg_of)
open Go.BatMath hiding AllB getD_lt take_all
set_option linter.unusedVariables false

/-- Each state is read as the same datum: nothing is asked of the states here. -/
def stR : Value → Option (DataW Unit × List MemPlace) := fun _ => some (.lit (.bool true), [])
def keyInt (e : Value × Value) : Int := match e.1 with | .int _ n => n | _ => 0
theorem rd_st {x : MapEntry} {n : Int} (hx : x.key = .int .i64 n) (h : (Lit.int .i64 n).wf = true) : rd Tryz.prog 2 stR x = some (.int .i64 n, .lit (.bool true)) := by
  unfold rd
  rw [hx, Maps.keyOf_int_mk Tryz.underlying2 h]
  rfl
theorem wf_of_key {n : Int} (h : ∃ l, keyOf Tryz.prog 2 (.int .i64 n) = some l) : (Lit.int .i64 n).wf = true := by
  obtain ⟨l, hl⟩ := h
  obtain ⟨x, hx, _, hw⟩ := Maps.keyOf_int_inv Tryz.underlying2 hl
  have e : n = x := by simpa using hx
  rw [e]
  exact hw
theorem ids_of {P : Program} {k : TypeId} {R : Value → Option (DataW Unit × List MemPlace)} (es : List MapEntry) (hrd : ∀ x ∈ es, rd P k R x = some (.int .i64 (keyInt (entryP x)), .lit (.bool true))) :
    es.map ((fun p : Lit × DataW Unit => Go.intOf p.1) ∘ rg P k R) = (es.map entryP).map keyInt := by
  rw [List.map_map]
  refine List.map_congr_left fun x hx => ?_
  show Go.intOf (rg P k R x).1 = keyInt (entryP x)
  rw [rg_of (hrd x hx)]
  rfl
/-- A table's map as the library's contracts have it. -/
theorem tc_owns {w : World} {km : Nat} {ms : List PM} (h : TcMap w km ms) (hL : ms.length ≤ 100000) : ∃ D0 : DataW Unit, w.ownsMap Tryz.prog 2 stR km ms.length D0 ∧ (intKeys D0).Perm (ms.map (·.p.id)) ∧ Maps.size D0 = ms.length := by
  obtain ⟨es, clock, hb, hs, hq, hz⟩ := h
  have hlen : es.size = ms.length := by have := hq.length_eq; simpa using this
  have hes : ∀ x ∈ es.toList, ∃ n : Int, x.key = .int .i64 n ∧ (Lit.int .i64 n).wf = true := fun x hx => by
    obtain ⟨m, hm, e⟩ := List.mem_map.1 (hq.mem_iff.1 (List.mem_map.2 ⟨x, hx, rfl⟩))
    have e1 : x.key = .int .i64 m.p.id := (congrArg Prod.fst e).symm
    exact ⟨m.p.id, e1, wf_of_key (hz m hm)⟩
  have hrd : ∀ x ∈ es.toList, rd Tryz.prog 2 stR x = some (.int .i64 (keyInt (entryP x)), .lit (.bool true)) := fun x hx => by
    obtain ⟨n, hn, hw⟩ := hes x hx
    have e : keyInt (entryP x) = n := by unfold keyInt entryP; rw [hn]
    rw [e]
    exact rd_st hn hw
  refine ⟨_, ⟨es, clock, hb, ⟨by rw [hlen]; unfold maxLen; omega, hs, fun x hx => ⟨_, hrd x hx⟩⟩, Nat.le_of_eq hlen, rfl⟩, ?_, ?_⟩
  · show (((es.toList.map (rg Tryz.prog 2 stR)).foldr DataW.insert []).map fun p => Go.intOf p.1).Perm _
    refine ((Go.WideShapes.sorted_perm _).map _).trans ?_
    rw [List.map_map]
    have e1 := ids_of es.toList hrd
    rw [e1]
    exact (hq.map keyInt).trans (by rw [List.map_map]; exact List.Perm.refl _)
  · show ((es.toList.map (rg Tryz.prog 2 stR)).foldr DataW.insert []).length = ms.length
    rw [DataW.length_sorted]
    simpa using hlen
theorem Tryz.sortsA (m : Nat) : AnyZI.SortsIn Tryz.prog Tryz.sortedA_ren Fence.wide m :=
  ⟨fun blk off cap ss W hH hblk hsz => callsIn_wide.2 (AnyM.slices_Sort_int Tryz.sortA blk off cap ss W hH hblk hsz),
   fun p cap W => callsIn_wide.2 (AnyM.slices_Sort_int_none Tryz.sortA p cap W)⟩
/-- maps.Keys. -/
theorem tcKeys_any (mb : Option Nat) (W : World) : Calls Tryz.prog 32 #[.map mb] W fun e w' => e = .returned (.func (.func 50) #[] #[.pointer (some ⟨W.heap.size, 0, none⟩)]) ∧ w' = W.alloc (.cells #[.map mb] 70) :=
  (callsIn_wide (n := 6)).1 (AnyZI.keys_in Tryz.keysA Fence.wide 6 trivial rfl mb W)
theorem sort_ids {l : List Pd} (ha : Asc l) : (l.map (·.id)).mergeSort (fun x y => decide (x ≤ y)) = l.map (·.id) := by
  refine List.mergeSort_of_pairwise ?_
  rw [List.pairwise_map]
  exact ha.imp fun h => by simp; omega
/-- What slices.Sorted gives of them. -/
def GivesIds (w : World) (ids : List Int) (e : Ending) (w' : World) : Prop := ∃ v, e = .returned v ∧ w'.ownsRow w.heap.size 2 1 v ids.length (ids.map (Value.int .i64)) ∧ Below w.heap.size w w'
theorem tcSorted_any (w : World) (km Bm : Nat) (ms : List PM) (h : TcMap w km ms) (hL : ms.length ≤ 100000) (ha : Asc (pds ms)) (hBm : Bm < w.heap.size) (hm : w.cell? ⟨Bm, 0, none⟩ = some (.map (some km))) :
    Calls Tryz.prog 31 #[.func (.func 50) #[] #[.pointer (some ⟨Bm, 0, none⟩)]] w (GivesIds w ((pds ms).map (·.id))) := by
  obtain ⟨D0, hown, hperm, hsize⟩ := tc_owns h hL
  have hseq : SeqGives Fence.wide 3 Tryz.prog 50 #[.pointer (some ⟨Bm, 0, none⟩)] encZ (fun ss => ss.Perm (intKeys D0)) (Maps.size D0) w :=
    AnyZI.keys_gives (ρ := Tryz.keysA_ren) { Tryz.keysA with } Fence.wide _ trivial rfl (by omega) Bm km ms.length D0 w hBm hm hown
  have cS := AnyZI.sorted_in Tryz.sortedA Fence.wide 6 trivial trivial trivial trivial rfl (by omega) (Tryz.sortsA _) (enters_of Tryz.func49 (by kernel_rfl) rfl) 50 #[.pointer (some ⟨Bm, 0, none⟩)] trivial (enters_of Tryz.func50 (by kernel_rfl) rfl) _ _ (by rw [hsize]; unfold maxLen; omega) (by rw [hsize]; omega) _ hseq
  change CallsIn _ _ Tryz.prog 31 _ _ _ at cS
  refine ((callsIn_wide (n := 6)).1 cS).mono ?_
  rintro e w' ⟨v, ss, rfl, hS, hrow, _, hb⟩
  have hp : ss.Perm ((pds ms).map (·.id)) := hS.trans (by
    refine hperm.trans ?_
    unfold pds
    rw [List.map_map]
    exact List.Perm.refl _)
  have e1 : ss.mergeSort (fun x y => decide (x ≤ y)) = (pds ms).map (·.id) := (mergeSort_of_perm_i hp).trans (sort_ids ha)
  refine ⟨v, rfl, ?_, hb⟩
  rw [e1] at hrow
  have e2 : ss.length = ((pds ms).map (·.id)).length := hp.length_eq
  rw [e2] at hrow
  exact hrow
end Go.Proofs.YtmnjobiipfgpoaaGreat
namespace Go.Proofs.YtmnjobiipfgpoaaGreat
open Go.RowKit
open Go.SeqMath
open Go.ProdMath
open Go.BatMath hiding AllB getD_lt take_all
set_option linter.unusedVariables false

theorem RowAt.past_none {α : Type} {K : Kind α} {w w' : World} {ad : Option Addr} {len cap k : Nat} {l : List α} (h : RowAt K w ad len cap l) (hg : w.grownBy w' (some k)) (hk : ∀ j, w.cell? ⟨k, j, none⟩ = none) : RowAt K w' ad len cap l := by
  refine ⟨h.length, h.fits, h.room, ?_⟩
  rcases h.cells with h0 | ⟨b, off, e, hlt, hc⟩
  · exact .inl h0
  · refine .inr ⟨b, off, e, Nat.lt_of_lt_of_le hlt hg.size, fun i x hi j u hj => hg.cell (hc i x hi j u hj) (fun e2 => ?_)⟩
    have h3 := hc i x hi j u hj
    have e3 : b = k := Option.some.inj e2
    rw [e3, hk] at h3
    cases h3
theorem cell_iterAs {α : Type} {P : Program} {t : TypeId} {f : α → Value × Value} {w : World} {km r : Nat} {ps dn lf : List α} (hr : RangeAs P t f w km r ps dn lf) (j : Nat) : w.cell? ⟨r, j, none⟩ = none := by
  obtain ⟨es, clock, since, seen, c0, _, _, _, _, h1, _⟩ := hr
  simp [World.cell?, h1]
/-- The iterator of another table's map goes on. -/
theorem TcOk.past_iter {w w' : World} {kt km k2 r : Nat} {ms ps dn lf : List PM} (h : TcOk w kt km ms) (hr : RangeAs Tryz.prog 2 pmE w k2 r ps dn lf) (hg : w.grownBy w' (some r)) : TcOk w' kt km ms :=
  ⟨h.box.same (hg.block kt h.box.lt fun e => cells_iterAs hr h.box (Option.some.inj e)), h.map.same (hg.block km h.map.lt fun e => by
    obtain ⟨es, c, hb⟩ := h.map.is
    obtain ⟨es2, clock, since, seen, c0, _, _, _, _, h1, _⟩ := hr
    rw [Option.some.inj e, h1] at hb
    cases hb), fun m hm => (h.ins m hm).past_none hg (cell_iterAs hr)⟩
/-- What comes is new. -/
theorem RangeAs.fresh {α : Type} {P : Program} {t : TypeId} {f : α → Value × Value} {w : World} {km r : Nat} {ps dn lf lf' : List α} {p : α} (h : RangeAs P t f w km r ps dn lf) (hl : lf.Perm (p :: lf')) : ∀ q ∈ dn, (f q).1 ≠ (f p).1 := by
  have h1 := h.map.keys
  have h2 : ps.Perm (dn ++ (p :: lf')) := h.all.trans (hl.append_left dn)
  have h3 : ((dn ++ (p :: lf')).map fun p => (f p).1).Pairwise (· ≠ ·) := ((h2.map _).pairwise_iff (fun {_ _} h => Ne.symm h)).1 h1
  rw [List.map_append, List.pairwise_append] at h3
  intro q hq
  exact h3.2.2 _ (List.mem_map.2 ⟨q, hq, rfl⟩) _ (List.mem_map.2 ⟨p, by simp, rfl⟩)
def GivesTcCopy (w : World) (l : List Pd) (e : Ending) (w' : World) : Prop :=
  ∃ kt km ps, e = .returned (.pointer (some ⟨kt, 0, none⟩)) ∧ TcOk w' kt km ps ∧ pds ps = l ∧ w.heap.size ≤ kt ∧ w.heap.size ≤ km ∧ Below w.heap.size w w'
set_option maxRecDepth 100000 in
set_option maxHeartbeats 4000000 in
theorem tcCopy_any (w : World) (kt km : Nat) (ms : List PM) (h : TcOk w kt km ms) (hfew : fewP (pds ms)) :
    Calls Tryz.prog 25 #[.pointer (some ⟨kt, 0, none⟩)] w (GivesTcCopy w (pds ms)) := by
  have H := Lib.hid h
  have HF := Lib.hid hfew
  clear h hfew
  go_enter Tryz.func25, Tryz.ntmps25
  go_wp2_with fail
  refine (tcNew_any w).mono ?_
  rintro e w1 ⟨k2, m2, rfl, ht1, hb1, hk1, hk2⟩
  have HT1 := Lib.hid ht1
  have HK2 : Hid (w.heap.size ≤ k2 ∧ w.heap.size ≤ m2) := ⟨hk1, hk2⟩
  have H1 := Lib.hid (H.out.keep hb1)
  obtain ⟨w2, hrange, hrg, hb2, hs2⟩ := mapAs_range (P := Tryz.prog) tcMapT H1.out.map
  obtain ⟨rr, hrr⟩ : ∃ z, z = w1.heap.size := ⟨_, rfl⟩
  rw [← hrr] at hrange hrg
  have HRR : Hid (w.heap.size ≤ rr) := by show _ ≤ _; rw [hrr]; exact hb1.size
  have HRG2 := Lib.hid hrg
  have HB2 := Lib.hid (hb1.trans (hb2.mono hb1.size))
  have HT2 := Lib.hid (HT1.out.keep hb2)
  have t0 := H1.out.box.c0
  clear ht1 hb1 hk1 hk2 hrg hb2 hs2 hrr HT1 H1
  go_wp2_with fail
  clear hrange t0
  go_loopw [] (fun wr => ∃ cs dn lf, Hid (RangeAs Tryz.prog 2 pmE wr km rr ms dn lf) ∧ Hid (TcOk wr k2 m2 cs) ∧ Hid (pds cs = pds dn) ∧ Hid (Below w.heap.size w wr)) (fun wr => wr.rangeLeft km rr)
  case atStart => exact ⟨[], [], ms, HRG2.out, HT2.out, rfl, HB2.out⟩
  case round =>
    obtain ⟨cs, dn, lf, HRG, HTC, HPC, HBL⟩ := hrel
    obtain ⟨w4, hw4⟩ : ∃ z : World, z = wr := ⟨_, rfl⟩
    subst hw4
    clear HRG2 HB2 HT2
    rcases mapAs_next (P := Tryz.prog) HRG.out 0 with ⟨hl0, hnext⟩ | ⟨p, lf', w5, hlp, hpm, hnext, hrg5, hg5, hs5, hen⟩
    · have HLF : Hid (lf = []) := hl0
      clear hl0
      go_wp2
      go_ret
      have h1 := HRG.out.all
      rw [HLF.out, List.append_nil] at h1
      have h2 : (cs.map (·.p)).Perm (pds ms) := by
        have e : cs.map (·.p) = pds dn := HPC.out
        rw [e]
        exact h1.symm.map _
      obtain ⟨cs', h3, h4⟩ := perm_lift (·.p) (pds ms) cs h2
      exact ⟨k2, m2, cs', rfl, ⟨HTC.out.box, HTC.out.map.perm h3, fun m hm => HTC.out.ins m (h3.mem_iff.2 hm)⟩, h4, HK2.out.1, HK2.out.2, HBL.out⟩
    · have HFR := Lib.hid (HRG.out.fresh hlp)
      simp only [pmE] at hnext hen
      have HRG5 := Lib.hid hrg5
      have HCNT := Lib.hid HRG.out.count
      have HCNTN := Lib.hid hlp.length_eq
      have HB5 : Hid (Below w.heap.size w w5) := HBL.out.trans (below_grown hg5 HRR.out HBL.out.size)
      have HTC5 := Lib.hid (HTC.out.past_iter HRG.out hg5)
      have HLA5 := Lib.hid ((H.out.ins p hpm).keep HB5.out)
      have hp5 := HF.out p.p (List.mem_map.2 ⟨p, hpm, rfl⟩)
      have HWF := Lib.hid (H.out.map)
      have HKEY : Hid (∃ l, keyOf Tryz.prog 2 (.int .i64 p.p.id) = some l) := by
        obtain ⟨_, _, _, _, _, hz⟩ := H.out.map
        exact hz p hpm
      obtain ⟨⟨pid, pep, pl, po⟩, pd, pc⟩ := p
      simp only at hnext hen hp5 HFR HLA5 HKEY
      obtain ⟨pn, hpn⟩ : ∃ n, n = pl.length := ⟨_, rfl⟩
      rw [← hpn] at hnext hen hp5 HLA5
      have HPN := Lib.hid hpn
      clear hlp hrg5 hg5 hs5 hpm hpn HBL HRG HTC
      go_upto_region 5 with fail
      obtain ⟨W6, hW6⟩ : ∃ z, z = w5.alloc (.cells #[.int .i64 pid, .int .i64 pep, .slice pd pn pc, .int .i64 po] 36) := ⟨_, rfl⟩
      have hb : Below w5.heap.size w5 W6 := by rw [hW6]; exact (Below.refl _ _).alloc (Nat.le_refl _) _
      obtain ⟨P, hP⟩ : ∃ P, P = w5.heap.size := ⟨_, rfl⟩
      have HP6 : Hid (PBox W6 P pid pep (.slice pd pn pc) po) := by show PBox _ _ _ _ _ _; rw [hW6, hP]; exact pbox_new w5 _ _ _ _
      have HR6 := Lib.hid (HRG5.out.on hb)
      have HB6 := Lib.hid (HB5.out.trans (hb.mono HB5.out.size))
      have HTC6 := Lib.hid (HTC5.out.keep hb)
      have HLA6 := Lib.hid (HLA5.out.keep hb)
      rw [← hW6, ← hP]
      clear hW6 hP hb hnext hen HRG5 HB5 HTC5 HLA5
      have KS : Hid (∀ V, Below W6.heap.size W6 V → (fun (V : World) => V.cell? ⟨k2, 0, none⟩ = some (.map (some m2)) ∧ V.cell? ⟨P, 0, none⟩ = some (.int .i64 pid) ∧ V.cell? ⟨P, 1, none⟩ = some (.int .i64 pep) ∧ V.cell? ⟨P, 2, none⟩ = some (.slice pd pn pc) ∧ V.cell? ⟨P, 3, none⟩ = some (.int .i64 po)) V) := fun V hV => ⟨(HTC6.out.keep hV).box.c0, (HP6.out.on hV).c0, (HP6.out.on hV).c1, (HP6.out.on hV).c2, (HP6.out.on hV).c3⟩
      have hdrw : Below W6.heap.size W6 W6.drew := (Below.refl _ W6).drew
      refine wp_region_noPanic ?_
      refine wp_region_z [7] (fun (V : World) => V.cell? ⟨k2, 0, none⟩ = some (.map (some m2)) ∧ V.cell? ⟨P, 0, none⟩ = some (.int .i64 pid) ∧ V.cell? ⟨P, 1, none⟩ = some (.int .i64 pep) ∧ V.cell? ⟨P, 2, none⟩ = some (.slice pd pn pc) ∧ V.cell? ⟨P, 3, none⟩ = some (.int .i64 po)) (by kernel_rfl) ?_
      have hHeld : (fun (V : World) => V.cell? ⟨k2, 0, none⟩ = some (.map (some m2)) ∧ V.cell? ⟨P, 0, none⟩ = some (.int .i64 pid) ∧ V.cell? ⟨P, 1, none⟩ = some (.int .i64 pep) ∧ V.cell? ⟨P, 2, none⟩ = some (.slice pd pn pc) ∧ V.cell? ⟨P, 3, none⟩ = some (.int .i64 po)) _ := KS.out _ hdrw
      obtain ⟨u3, hu3⟩ : ∃ u, u = W6.drew := ⟨_, rfl⟩
      rw [← hu3] at hHeld hdrw
      rw [← hu3]
      clear hu3
      have HU3 := Lib.hid hdrw
      clear hdrw
      refine wpAnyZ_take (i := 0) (oi := ⟨_, _, _, _, _, _⟩) (v := ?_) rfl (by kernel_rfl) (by kernel_rfl) (by kernel_rfl) (by kernel_rfl) (by kernel_rfl) (fun _ _ _ h => h) (Or.inl ⟨by rfl, ?_⟩) (by assumption) ?_
      rotate_left
      · intro W hSw
        (try dsimp only at hSw)
        go_simp
        (try with_reducible rfl)
      (try simp only [Act.put, List.setIfInBounds_toArray, List.set_cons_zero, List.set_cons_succ])
      refine wpAnyZ_take (i := 1) (oi := ⟨_, _, _, _, _, _⟩) (v := ?_) rfl (by kernel_rfl) (by kernel_rfl) (by kernel_rfl) (by kernel_rfl) (by kernel_rfl) (fun _ _ _ h => h) (Or.inl ⟨by rfl, ?_⟩) (by assumption) ?_
      rotate_left
      · intro W hSw
        (try dsimp only at hSw)
        go_simp
        (try with_reducible rfl)
      (try simp only [Act.put, List.setIfInBounds_toArray, List.set_cons_zero, List.set_cons_succ])
      refine wpAnyZ_take (i := 2) (oi := ⟨_, _, _, _, _, _⟩) (v := ?_) rfl (by kernel_rfl) (by kernel_rfl) (by kernel_rfl) (by kernel_rfl) (by kernel_rfl) (fun _ _ _ h => h) (Or.inl ⟨by rfl, ?_⟩) (by assumption) ?_
      rotate_left
      · intro W hSw
        (try dsimp only at hSw)
        go_simp
        (try with_reducible rfl)
      (try simp only [Act.put, List.setIfInBounds_toArray, List.set_cons_zero, List.set_cons_succ])
      refine wpAnyZ_take (i := 3) (oi := ⟨_, _, _, _, _, _⟩) (v := ?_) rfl (by kernel_rfl) (by kernel_rfl) (by kernel_rfl) (by kernel_rfl) (by kernel_rfl) (fun _ _ _ h => h) (Or.inl ⟨by rfl, ?_⟩) (by assumption) ?_
      rotate_left
      · intro W hSw
        (try dsimp only at hSw)
        go_simp
        (try with_reducible rfl)
      (try simp only [Act.put, List.setIfInBounds_toArray, List.set_cons_zero, List.set_cons_succ])
      refine wpAnyZ_take (i := 4) (oi := ⟨_, _, _, _, _, _⟩) (v := ?_) rfl (by kernel_rfl) (by kernel_rfl) (by kernel_rfl) (by kernel_rfl) (by kernel_rfl) (fun _ _ _ h => h) (Or.inl ⟨by rfl, ?_⟩) (by assumption) ?_
      rotate_left
      · intro W hSw
        (try dsimp only at hSw)
        go_simp
        (try with_reducible rfl)
      (try simp only [Act.put, List.setIfInBounds_toArray, List.set_cons_zero, List.set_cons_succ])
      refine wpAnyZ_take (i := 5) (oi := ⟨_, _, _, _, _, _⟩) (v := ?_) rfl (by kernel_rfl) (by kernel_rfl) (by kernel_rfl) (by kernel_rfl) (by kernel_rfl) (fun _ _ _ h => h) (Or.inl ⟨by rfl, ?_⟩) (by assumption) ?_
      rotate_left
      · intro W hSw
        (try dsimp only at hSw)
        go_simp
        (try with_reducible rfl)
      (try simp only [Act.put, List.setIfInBounds_toArray, List.set_cons_zero, List.set_cons_succ])
      refine wpAnyZ_ready (rs := [6]) (by kernel_rfl) (by simp) ?_
      refine AllReadyZ.cons (o := ⟨_, _, _, _, _, _⟩) rfl (fun C hC => ?_) AllReadyZ.nil
      go_simp
      refine (tcCopied_any u3 pid pep po pl pd pn pc (HLA6.out.keep HU3.out) (by omega)).mono ?_
      rintro e u4 ⟨xd, xc, rfl, hxo, hb4⟩
      simp only at hxo
      obtain ⟨ad3, cap3, e3, hxr, hxk⟩ := OwnRow.row trK_ok hxo rfl
      injection e3 with e31 e32 e33
      subst e31 e33
      have HU4 := Lib.hid (HU3.out.trans (hb4.mono HU3.out.size))
      have HXR4 := Lib.hid hxr
      have hpn4 := HPN.out
      simp only
      rw [← hpn4]
      clear hb4 hxr hxk hxo e32
      have hHeld : (fun (V : World) => V.cell? ⟨k2, 0, none⟩ = some (.map (some m2)) ∧ V.cell? ⟨P, 0, none⟩ = some (.int .i64 pid) ∧ V.cell? ⟨P, 1, none⟩ = some (.int .i64 pep) ∧ V.cell? ⟨P, 2, none⟩ = some (.slice pd pn pc) ∧ V.cell? ⟨P, 3, none⟩ = some (.int .i64 po)) u4 := KS.out _ HU4.out
      refine hC.out _ _ (fun _ => hHeld) (fun _ => ?_)
      clear hC C
      (try simp only [Act.put, List.setIfInBounds_toArray, List.set_cons_zero, List.set_cons_succ])
      obtain ⟨c, hc⟩ : ∃ c : PM, c = ⟨⟨pid, pep, pl, po⟩, xd, xc⟩ := ⟨_, rfl⟩
      have hT4 := HTC6.out.keep HU4.out
      have hfr : ∀ q ∈ cs, (pmE q).1 ≠ (pmE c).1 := fun q hq e => by
        have h1 : q.p ∈ pds dn := by rw [← HPC.out]; exact List.mem_map.2 ⟨q, hq, rfl⟩
        obtain ⟨q2, hq2, e2⟩ := List.mem_map.1 h1
        have h2 := HFR.out q2 hq2
        have h3 : (pmE q).1 = .int .i64 pid := by rw [e, hc]; rfl
        have h4 : Value.int .i64 q.p.id = .int .i64 pid := h3
        exact h2 (by show Value.int .i64 q2.p.id = .int .i64 pid; rw [e2]; exact h4)
      obtain ⟨u5, hput, hmap5, hg5, hs5⟩ := mapAs_put tcMapT keyI hT4.map c (by rw [hc]; exact HKEY.out) hfr
      have hput2 : (Instr.mapUpdate 70 (.map (some m2)) (.int .i64 pid) (.agg #[.int .i64 pid, .int .i64 pep, .slice xd pn xc, .int .i64 po])).run Tryz.prog u4 = .ok () u5 := by
        rw [hc] at hput
        rw [HPN.out]
        exact hput
      have HTZ : Hid (TcOk u5 k2 m2 (cs ++ [c])) := by
        refine ⟨hT4.box.past_map hg5 hT4.map.is, hmap5.perm (List.perm_append_singleton _ _).symm, fun m hm => ?_⟩
        rcases List.mem_append.1 hm with hm | hm
        · exact (hT4.ins m hm).past_map hg5 hT4.map.is
        · rw [List.mem_singleton.1 hm, hc]
          exact RowAt.past_map HXR4.out hg5 hT4.map.is
      have HPZ : Hid (pds (cs ++ [c]) = pds (dn ++ [⟨⟨pid, pep, pl, po⟩, pd, pc⟩])) := by
        show _ = _
        have h1 := HPC.out
        unfold pds at h1 ⊢
        rw [List.map_append, List.map_append, h1, hc]
        rfl
      have HRZ : Hid (RangeAs Tryz.prog 2 pmE u5 km rr ms (dn ++ [⟨⟨pid, pep, pl, po⟩, pd, pc⟩]) lf') := by
        have hr4 := HR6.out.on HU4.out
        refine hr4.grown hg5 (fun e => ?_) (fun e => ?_)
        · have h1 := H.out.map.lt
          have h2 := HK2.out.2
          have := Option.some.inj e
          omega
        · obtain ⟨es, clock, since, seen, c0, _, _, _, _, h1, _⟩ := hr4
          obtain ⟨es2, c2, h2⟩ := hT4.map.is
          rw [Option.some.inj e, h1] at h2
          cases h2
      have HBZ : Hid (Below w.heap.size w u5) := (HB6.out.trans (HU4.out.mono HB6.out.size)).trans (below_grown hg5 HK2.out.2 (HB6.out.trans (HU4.out.mono HB6.out.size)).size)
      clear hT4 hfr hput hmap5 hg5 hs5 hc hpn4
      refine wpAnyZ_ready (rs := [7]) (by kernel_rfl) (by simp) ?_
      refine AllReadyZ.cons (o := ⟨_, _, _, _, _, _⟩) rfl (fun C hC => ?_) AllReadyZ.nil
      go_simp
      refine hC.out _ _ (zfree_no (by kernel_rfl)) (fun _ => ?_)
      clear hC C
      (try simp only [Act.put, List.setIfInBounds_toArray, List.set_cons_zero, List.set_cons_succ])
      refine wpAnyZ_done (by kernel_rfl) ?_ _
      refine NoPanic.normal ?_
      clear hHeld KS hput2
      go_wp2
      go_roundw
      case rel => exact ⟨cs ++ [c], dn ++ [(⟨⟨pid, pep, pl, po⟩, pd, pc⟩ : PM)], lf', HRZ.out, HTZ.out, HPZ.out, HBZ.out⟩
      case measure =>
        rw [HRZ.out.count, HCNT.out, HCNTN.out]
        simp
theorem infoId : (Tryz.prog.info? 2).map (fun i => (i.zero, i.size, i.bytes)) = some (some (.int .i64 0), 1, 8) := by kernel_rfl
def idK : Kind Int := ⟨fun n => [.int .i64 n], 1, 2, 75⟩
theorem idK_ok : idK.Ok 8 where
  und := Tryz.underlying75
  info := by
    obtain ⟨i, hi, hz, hs, hb⟩ := info_parts infoId
    exact ⟨i, _, hi, hz, hs, hb, rfl⟩
  len := fun _ => rfl
  pos := by decide
  one := fun r u hu => by
    simp only [idK, List.mem_cons, List.not_mem_nil, or_false] at hu
    rcases hu with rfl <;> rfl
  few := by decide
theorem idK_all : ∀ l : List Int, idK.all l = l.map (Value.int .i64)
  | [] => rfl
  | n :: l => by
    have ih := idK_all l
    show [Value.int .i64 n] ++ idK.all l = _
    rw [ih]
    rfl
theorem ownRow_ids {w : World} {base : Nat} {v : Value} {ids : List Int} (h : w.ownsRow base 2 1 v ids.length (ids.map (Value.int .i64))) : OwnRow idK w base v ids := by
  unfold OwnRow
  rw [idK_all]
  exact h
def GivesTcAll (w : World) (l : List Pd) (e : Ending) (w' : World) : Prop :=
  ∃ ad len cap os, e = .returned (.slice ad len cap) ∧ PdsAt w' ad len cap os ∧ pds os = l ∧ Below w.heap.size w w'
/-- What stands in a round of All: j states have been taken over. -/
structure AllW (l : List Pd) (j base : Nat) (u : Value) (os : List PM) (W : World) : Prop where
  own : OwnRow pdK W base u os
  ins : ∀ m ∈ os, LastAt W m ∧ ∀ a, m.ad = some a → a.block < W.heap.size ∧ u.ownBlock ≠ some a.block
  eq : pds os = l.take j
theorem AllW.on {l : List Pd} {j base : Nat} {u : Value} {os : List PM} {W W' : World} (h : AllW l j base u os W) (hb : Below W.heap.size W W') : AllW l j base u os W' :=
  ⟨h.own.on hb, fun m hm => ⟨(h.ins m hm).1.keep hb, fun a ha => ⟨Nat.lt_of_lt_of_le ((h.ins m hm).2 a ha).1 hb.size, ((h.ins m hm).2 a ha).2⟩⟩, h.eq⟩
set_option maxRecDepth 100000 in
set_option maxHeartbeats 4000000 in
theorem tcAll_any (w : World) (kt km : Nat) (ms : List PM) (h : TcOk w kt km ms) (ha : Asc (pds ms)) (hfew : fewP (pds ms)) (hL : ms.length ≤ 100000) :
    Calls Tryz.prog 14 #[.pointer (some ⟨kt, 0, none⟩)] w (GivesTcAll w (pds ms)) := by
  have H := Lib.hid h
  have HF := Lib.hid hfew
  have HAS := Lib.hid ha
  have t0 := h.box.c0
  clear h hfew ha
  go_enter Tryz.func14, Tryz.ntmps14
  go_wp2_with fail
  refine (tcKeys_any (some km) w).mono ?_
  rintro e w1 ⟨rfl, hw1⟩
  have hb1 : Below w.heap.size w w1 := by rw [hw1]; exact (Below.refl _ _).alloc (Nat.le_refl _) _
  obtain ⟨Bm, hBm⟩ : ∃ z, z = w.heap.size := ⟨_, rfl⟩
  have HBM : Hid (w1.heap[Bm]? = some (.cells #[.map (some km)] 70 (0, 0))) := by show _ = _; rw [hw1, hBm]; exact heap_alloc_new w _
  have HB1 := Lib.hid hb1
  have H1 := Lib.hid (H.out.keep hb1)
  rw [← hBm]
  clear hw1 hb1 hBm t0
  go_wp2_with fail
  refine (tcSorted_any w1 km Bm ms H1.out.map hL HAS.out (lt_of_block HBM.out) (by rw [cell_of_row _ _ 0 _ _ _ HBM.out]; rfl)).mono ?_
  rintro e w2 ⟨v, rfl, hrow, hb2⟩
  obtain ⟨iad, icap, hv, hir, _⟩ := OwnRow.row (n := ms.length) idK_ok (ownRow_ids hrow) (by unfold pds; rw [List.length_map, List.length_map])
  subst hv
  have HIR := Lib.hid hir
  have HB2 := Lib.hid (HB1.out.trans (hb2.mono HB1.out.size))
  obtain ⟨n, hn⟩ : ∃ n, n = ms.length := ⟨_, rfl⟩
  rw [← hn] at HIR hL
  rw [← hn]
  have HN := Lib.hid hn
  clear hrow hb2 hir hn HBM H1
  go_wp2
  go_loopw [3, 13] (fun v3 v13 wr => ∃ (j : Nat) (u : Value) (os : List PM), u = v3 ∧ v13 = .int .i64 (j : Int) ∧ j ≤ n ∧ Hid (AllW (pds ms) j w2.heap.size u os wr) ∧ Hid (Below w2.heap.size w2 wr)) (fun _ v13 _ => n - (intOf v13).toNat)
  case atStart => exact ⟨0, _, [], rfl, rfl, Nat.zero_le _, ⟨ownRow_nil _ _ _, (fun m hm => by cases hm), rfl⟩, Below.refl _ _⟩
  case round =>
    obtain ⟨j, u, os, rfl, rfl, hj, HAW, HBL⟩ := hrel
    obtain ⟨w4, hw4⟩ : ∃ z : World, z = wr := ⟨_, rfl⟩
    subst hw4
    have HW4 : Hid (Below w.heap.size w w4) := HB2.out.trans (HBL.out.mono HB2.out.size)
    by_cases hlt : j < n
    · have hd : decide (j < n) = true := decide_eq_true hlt
      have hjl : (j : Int) < (n : Int) := by omega
      obtain ⟨bk, off, x, rfl, hbk, hx, hcell⟩ := (HIR.out.keep HBL.out).get hlt
      have hjm : j < ms.length := by have := HN.out; omega
      obtain ⟨m, hm⟩ : ∃ m, ms[j]? = some m := ⟨_, List.getElem?_eq_getElem hjm⟩
      have hxm : x = m.p.id := by
        unfold pds at hx
        rw [List.getElem?_map, List.getElem?_map, hm] at hx
        exact (Option.some.inj hx).symm
      subst hxm
      have c0 := hcell 0 (.int .i64 m.p.id) rfl
      have hmem := List.mem_of_getElem? hm
      have H4 := Lib.hid (H.out.keep HW4.out)
      have hlk := mapAs_some tcMapT keyI H4.out.map m hmem false
      simp only [pmE] at hlk
      have hp5 := HF.out m.p (List.mem_map.2 ⟨m, hmem, rfl⟩)
      have HLA := Lib.hid (H4.out.ins m hmem)
      have htk : (pds ms).take (j + 1) = (pds ms).take j ++ [m.p] := by
        have : (pds ms)[j]? = some m.p := by unfold pds; rw [List.getElem?_map, hm]; rfl
        rw [List.take_add_one, this]; rfl
      have HTK := Lib.hid htk
      have t0 := H4.out.box.c0
      rw [show idK.size = 1 from rfl, Nat.mul_one, Nat.add_zero] at c0
      obtain ⟨⟨pid, pep, pl, po⟩, pd, pc⟩ := m
      simp only [Bool.false_eq_true, if_false] at hlk hp5 HLA HTK c0
      obtain ⟨pn, hpn⟩ : ∃ n, n = pl.length := ⟨_, rfl⟩
      have HLA2 : Hid (RowAt trK w4 pd pl.length pc pl) := HLA
      clear HLA
      have HLA := HLA2
      clear HLA2
      rw [← hpn] at hlk hp5 HLA
      have HPN := Lib.hid hpn
      clear hx hcell htk hm hmem hpn hjm hbk HAS
      go_wp2_with fail
      refine (tcCopied_any w4 pid pep po pl pd pn pc HLA.out (by omega)).mono ?_
      rintro e w5 ⟨ad2, cap2, rfl, ho, hb⟩
      simp only at ho
      obtain ⟨ad3, cap3, e3, hrow2, hown2⟩ := OwnRow.row trK_ok ho rfl
      injection e3 with e31 e32 e33
      subst e31 e33
      have HROW := Lib.hid hrow2
      have HOWN2 : Hid (∀ a, ad2 = some a → w4.heap.size ≤ a.block ∧ a.block < w5.heap.size) := fun a ha => ⟨by have := (hown2 a ha).1; omega, (hown2 a ha).2⟩
      have HAW5 := Lib.hid (HAW.out.on hb)
      have HB5 := Lib.hid (HBL.out.trans (hb.mono HBL.out.size))
      have HU5 : Hid (∀ k, u.ownBlock = some k → k < w4.heap.size) := fun k hk => (HAW.out.own.lt k hk).2
      clear ho hb hrow2 hown2 e32 hlk t0 c0 HLA H4 HAW HBL
      simp only
      obtain ⟨c, hc⟩ : ∃ c : PM, c = ⟨⟨pid, pep, pl, po⟩, ad2, cap2⟩ := ⟨_, rfl⟩
      obtain ⟨W6, hW6⟩ : ∃ z, z = w5.alloc (.cells #[.int .i64 pid, .int .i64 pep, .slice ad2 pl.length cap2, .int .i64 po] 36) := ⟨_, rfl⟩
      have hb6 : Below w5.heap.size w5 W6 := by rw [hW6]; exact (Below.refl _ _).alloc (Nat.le_refl _) _
      have HLIT : Hid (RowAt pdK W6 (some ⟨w5.heap.size, 0, none⟩) 1 1 [c]) := by
        show RowAt _ _ _ _ _ _
        rw [hW6]
        exact rowAt_lit pdK_ok w5 [c] (by simp) _ (by rw [hc]; rfl) 1 rfl
      have HAW6 := Lib.hid (HAW5.out.on hb6)
      have HB6 := Lib.hid (HB5.out.trans (hb6.mono HB5.out.size))
      have hosl : os.length ≤ 100000 := by
        have h1 := congrArg List.length HAW6.out.eq
        unfold pds at h1
        rw [List.length_take, List.length_map, List.length_map] at h1
        have := HN.out
        omega
      have HW6 := Lib.hid hW6
      have HC := Lib.hid hc
      have HROW6 := Lib.hid (HROW.out.keep hb6)
      have HS6 : Hid (w5.heap.size ≤ W6.heap.size) := hb6.size
      clear hb6 hc hW6
      go_wp2_with (at_builtin; rw [← HW6.out]; refine list_row (by rfl) pdK_ok (.tmp 17) (.tmp 25) rfl w2.heap.size os [c] u rfl HAW6.out.own HB6.out.size (some ⟨w5.heap.size, 0, none⟩) 1 1 rfl HLIT.out (by omega) ?_)
      intro v7 w7 hap
      have HAW7 : Hid (AllW (pds ms) (j + 1) w2.heap.size v7 (os ++ [c]) w7) := by
        refine ⟨hap.1, fun m hm => ?_, ?_⟩
        · rcases List.mem_append.1 hm with hm | hm
          · obtain ⟨h1, h2⟩ := HAW6.out.ins m hm
            refine ⟨h1.grown hap.2.1 fun a ha e => (h2 a ha).2 e.symm, fun a ha => ⟨Nat.lt_of_lt_of_le (h2 a ha).1 hap.2.1.size, fun e => ?_⟩⟩
            rcases hap.2.2.2 _ e with h3 | h3
            · exact (h2 a ha).2 h3
            · have := (h2 a ha).1; omega
          · rw [List.mem_singleton.1 hm]
            have h4 : ∀ a, c.ad = some a → w4.heap.size ≤ a.block ∧ a.block < w5.heap.size := by rw [HC.out]; exact HOWN2.out
            refine ⟨?_, fun a ha => ⟨Nat.lt_of_lt_of_le (Nat.lt_of_lt_of_le (h4 a ha).2 HS6.out) hap.2.1.size, fun e => ?_⟩⟩
            · have h5 : LastAt W6 c := by rw [HC.out]; exact HROW6.out
              refine h5.grown hap.2.1 fun a ha e => ?_
              have h6 := HU5.out _ e.symm
              have := (h4 a ha).1
              omega
            · rcases hap.2.2.2 _ e with h3 | h3
              · have h6 := HU5.out _ h3
                have := (h4 a ha).1
                omega
              · have := (h4 a ha).2
                have := HS6.out
                omega
        · unfold pds
          rw [List.map_append]
          have h7 := HAW6.out.eq
          unfold pds at h7 HTK
          rw [h7, HTK.out, HC.out]
          rfl
      have HB7 : Hid (Below w2.heap.size w2 w7) := HB6.out.grown hap.2.1 HB6.out.size fun k hk => (HAW6.out.own.lt k hk).1
      clear hap HAW5 HAW6 HB5 HB6 HLIT HW6 HROW HROW6
      go_wp2
      go_roundw
      case rel => exact ⟨j + 1, v7, _, rfl, rfl, by omega, HAW7.out, HB7.out⟩
      case measure => simp [intOf]; omega
    · have hd : decide (j < n) = false := decide_eq_false hlt
      have hjn : j = n := by omega
      have HFIN : Hid (pds os = pds ms) := by
        show _ = _
        rw [HAW.out.eq, hjn, HN.out, List.take_of_length_le (by unfold pds; rw [List.length_map]; exact Nat.le_refl _)]
      clear hjn
      go_wp2
      go_ret
      obtain ⟨ad, cap, hv, hr, _⟩ := OwnRow.row pdK_ok HAW.out.own rfl
      exact ⟨ad, os.length, cap, os, congrArg Ending.returned hv, ⟨hr, fun m hm => (HAW.out.ins m hm).1⟩, HFIN.out, HW4.out⟩
end Go.Proofs.YtmnjobiipfgpoaaGreat
namespace Go.Proofs.YtmnjobiipfgpoaaGreat
open Go.RowKit
set_option linter.unusedVariables false

theorem infoInt : (Tryz.prog.info? 3).map (fun i => (i.zero, i.size, i.bytes)) = some (some (.int .i64 0), 1, 8) := by kernel_rfl
def intK : Kind Int := ⟨fun n => [.int .i64 n], 1, 3, 25⟩
theorem intK_ok : intK.Ok 8 where
  und := Tryz.underlying25
  info := by
    obtain ⟨i, hi, hz, hs, hb⟩ := info_parts infoInt
    exact ⟨i, _, hi, hz, hs, hb, rfl⟩
  len := fun _ => rfl
  pos := by decide
  one := fun r u hu => by
    obtain rfl := List.mem_singleton.1 hu
    rfl
  few := by decide
theorem nums_of {w : World} {ad : Option Addr} {len cap : Nat} {l : List Int} (h : RowAt intK w ad len cap l) (ha : ∀ n ∈ l, In64 n) : Nums w ad len l := by
  refine ⟨h.length, ha, ?_⟩
  rcases h.cells with h0 | ⟨b, off, e, _, hc⟩
  · exact .inl h0
  · refine .inr ⟨b, off, e, fun i hi => ?_⟩
    have hl := h.length
    have hx : l[i]? = some (l[i]'(by omega)) := List.getElem?_eq_getElem (by omega)
    have := hc i _ hx 0 (.int .i64 (l[i]'(by omega))) rfl
    rw [List.getD_eq_getElem?_getD, hx]
    show w.cell? ⟨b, off + i, none⟩ = _
    have e2 : off + (i * intK.size + 0) = off + i := by show off + (i * 1 + 0) = _; omega
    rw [e2] at this
    exact this
def TapeLoop (w : World) (v3 v4 : Value) (wr : World) : Prop :=
  ∃ (zs : List Int) (i : Nat) (u : Value), u = v3 ∧ v4 = .int .i64 (i : Int) ∧ i ≤ 400 ∧ zs.length = i ∧ (∀ z ∈ zs, In64 z) ∧ OwnRow intK wr w.heap.size u zs ∧ Below w.heap.size w wr
theorem tmod_in (x m z : Int) (hm : 0 < m ∧ m < 1000000) (h : x.tmod m = z) : In64 z := by
  have h1 : z < m := by rw [← h]; exact Int.tmod_lt_of_pos x hm.1
  have h2 : -z < m := by rw [← h, ← Int.neg_tmod]; exact Int.tmod_lt_of_pos (-x) hm.1
  exact ⟨by omega, by omega⟩
end Go.Proofs.YtmnjobiipfgpoaaGreat
namespace Go.Proofs.YtmnjobiipfgpoaaGreat
open Go.RowKit
open Go.SeqMath
open Go.ProdMath
open Go.BatMath hiding AllB getD_lt take_all
set_option linter.unusedVariables false

theorem eq_dr (a b c d e f : Int) (w : World) : (Op.equalIn 10000 55 (.agg #[.int .i64 a, .int .i64 b, .int .i64 c]) (.agg #[.int .i64 d, .int .i64 e, .int .i64 f])).run Tryz.prog w = .ok (a == d && (b == e && c == f)) w := by
  have u3 := Tryz.underlying2
  have a3 := Tryz.isAgg2
  have z3 := Tryz.sizeOf2
  have hS : Tryz.prog.underlying 55 = some (.struct (Tryz.prog.fieldsOf 55)) := by simp only [Program.fieldsOf, Tryz.underlying55]
  rw [show (10000 : Nat) = 9999 + 1 from rfl, run_equalIn_agg w 9999 55 _ _ hS (by kernel_rfl)]
  simp only [Program.fieldsOf, Tryz.underlying55]
  go_simp
  by_cases h1 : a = d <;> by_cases h2 : b = e <;> by_cases h3 : c = f <;> simp [h1, h2, h3]
theorem guard_dr : Tryz.prog.eqGuardType Tryz.prog.depth 55 = false := by kernel_rfl
theorem neq_dr (a b c d e f : Int) (r : Bool) (hr : (a == d && (b == e && c == f)) = r) (w : World) : (binOp .neq 55 (.agg #[.int .i64 a, .int .i64 b, .int .i64 c]) (.agg #[.int .i64 d, .int .i64 e, .int .i64 f])).run Tryz.prog w = .ok (.bool (!r)) w := by
  rw [run_neq_struct, eq_dr, hr]; rfl
theorem eql_dr (a b c d e f : Int) (r : Bool) (hr : (a == d && (b == e && c == f)) = r) (w : World) : (binOp .eql 55 (.agg #[.int .i64 a, .int .i64 b, .int .i64 c]) (.agg #[.int .i64 d, .int .i64 e, .int .i64 f])).run Tryz.prog w = .ok (.bool r) w := by
  rw [run_eql_struct, eq_dr, hr]; rfl
set_option maxRecDepth 100000 in
theorem tcTape_any (w : World) (k : Nat) (hk : k ≤ 60) :
    Calls Tryz.prog 8 #[.int .i64 (k : Int)] w fun e w' => ∃ ad cap zs, e = .returned (.slice ad 400 cap) ∧ Hid (Nums w' ad 400 zs) ∧ Hid (Below w.heap.size w w') := by
  go_enter Tryz.func8, Tryz.ntmps8
  go_wp2
  go_loopw [3, 4] (fun v3 v4 wr => TapeLoop w v3 v4 wr) (fun _ v4 _ => (400 - intOf v4).toNat)
  case atStart => exact ⟨[], 0, _, rfl, rfl, by omega, rfl, (fun z hz => by cases hz), ownRow_nil _ _ _, Below.refl _ _⟩
  case round =>
    obtain ⟨zs, i, u, rfl, rfl, hi, hl, ha, hown, hbel⟩ := hrel
    have HL := Lib.hid hl
    have HA := Lib.hid ha
    have HO := Lib.hid hown
    have HB := Lib.hid hbel
    clear hl ha hown hbel
    by_cases hlt : i < 400
    · have hd : decide ((i : Int) < 400) = true := by simp; omega
      obtain ⟨x, hx⟩ : ∃ x, wrap64 (wrap64 (wrap64 (wrap64 ((i : Int) * i) * 7) + (k : Int) * 37) + wrap64 ((i : Int) * k)) = x := ⟨_, rfl⟩
      obtain ⟨z, hz⟩ : ∃ z, x.tmod 211 = z := ⟨_, rfl⟩
      have hz64 := tmod_in x 211 z (by omega) hz
      obtain ⟨wo, rfl⟩ : ∃ wo : World, wo = wr := ⟨_, rfl⟩
      have HBA : Hid (Below w.heap.size w (wo.alloc (.cells #[.int .i64 z] 3))) := HB.out.alloc HB.out.size _
      have HRW : Hid (RowAt intK (wo.alloc (.cells #[.int .i64 z] 3)) (some ⟨wo.heap.size, 0, none⟩) 1 1 [z]) := rowAt_lit intK_ok wo [z] (by simp) _ rfl 1 rfl
      go_wp2_with (at_builtin; refine list_row (by rfl) intK_ok (.tmp 9) (.tmp 22) rfl w.heap.size zs [z] _ rfl (HO.out.alloc _) HBA.out.size (some ⟨wo.heap.size, 0, none⟩) 1 1 rfl HRW.out (by have := HL.out; omega) ?_)
      intro v' w' hap
      have HO2 := Lib.hid hap.1
      have HB2 : Hid (Below w.heap.size w w') := HBA.out.grown hap.2.1 HBA.out.size fun q hq => (HO.out.lt q hq).1
      have HL2 : Hid ((zs ++ [z]).length = i + 1) := by show _ = _; rw [List.length_append, HL.out]; rfl
      have HA2 : Hid (∀ y ∈ zs ++ [z], In64 y) := by
        intro y hy
        rcases List.mem_append.1 hy with hy | hy
        · exact HA.out y hy
        · rw [List.mem_singleton.1 hy]; exact hz64
      clear hap hx hz
      go_wp2
      go_roundw
      case rel => exact ⟨zs ++ [z], i + 1, _, rfl, by go_num, by omega, HL2.out, HA2.out, HO2.out, HB2.out⟩
      case measure => simp [intOf]; omega
    · have hd : decide ((i : Int) < 400) = false := by simp; omega
      go_wp2
      go_ret
      obtain ⟨ad, cap, rfl, hr, _⟩ := HO.out.at intK_ok
      have hl := HL.out
      obtain rfl : i = 400 := by omega
      rw [hl] at hr
      rw [hl]
      exact ⟨ad, cap, zs, rfl, nums_of hr HA.out, HB.out⟩
end Go.Proofs.YtmnjobiipfgpoaaGreat
namespace Go.Proofs.YtmnjobiipfgpoaaGreat
open Go.RowKit
open Go.SeqMath
open Go.ProdMath
open Go.BatMath hiding AllB getD_lt take_all
set_option linter.unusedVariables false

/-- A record of two empty texts. -/
def Rc.nil : Rc := ⟨⟨#[]⟩, ⟨#[]⟩⟩
theorem recs_nil_all : ∀ (c : Nat), recK.all (List.replicate c Rc.nil) = List.replicate (c * 2) (.string ⟨#[]⟩)
  | 0 => rfl
  | c + 1 => by
    rw [List.replicate_succ, show (c + 1) * 2 = c * 2 + 1 + 1 from by omega, List.replicate_succ, List.replicate_succ, ← recs_nil_all c]
    rfl
theorem recs_nil (w : World) (c : Nat) (hc : c ≤ 1000000) : RecsAt (w.alloc (.cells (List.replicate (c * 2) (.string ⟨#[]⟩)).toArray 60)) (some ⟨w.heap.size, 0, none⟩) c c (List.replicate c Rc.nil) :=
  recsAt_row.2 (rowAt_lit recK_ok w (List.replicate c Rc.nil) (by rw [List.length_replicate]; exact hc) _ (by rw [recs_nil_all]) c (by rw [List.length_replicate]))
end Go.Proofs.YtmnjobiipfgpoaaGreat
namespace Go.Proofs.YtmnjobiipfgpoaaGreat
open Go.RowKit
open Go.SeqMath
open Go.ProdMath
open Go.BatMath hiding AllB getD_lt take_all
set_option linter.unusedVariables false

/-- A new box of a batch, of a producer; a new record. -/
theorem box_new (w : World) (b0 b1 b2 b3 : Int) (b4 : Bool) (b5 : Int) (v : Value) : ∃ W, W = w.alloc (.cells #[.int .i64 b0, .int .i64 b1, .int .i64 b2, .int .i64 b3, .bool b4, .int .i64 b5, v] 30) ∧ Below w.heap.size w W ∧ BoxAt W w.heap.size b0 b1 b2 b3 b4 b5 v ∧ W.heap.size = w.heap.size + 1 := ⟨_, rfl, (Below.refl _ _).alloc (Nat.le_refl _) _, boxAt_new w _ _ _ _ _ _ _, by simp⟩
theorem pd_new (w : World) (b0 b1 : Int) (v : Value) (b3 : Int) : ∃ W, W = w.alloc (.cells #[.int .i64 b0, .int .i64 b1, v, .int .i64 b3] 36) ∧ Below w.heap.size w W ∧ PBox W w.heap.size b0 b1 v b3 ∧ W.heap.size = w.heap.size + 1 := ⟨_, rfl, (Below.refl _ _).alloc (Nat.le_refl _) _, pbox_new w _ _ _ _, by simp⟩
theorem one_rec (w : World) : ∃ W, W = w.alloc (.cells #[.string ⟨#[]⟩, .string ⟨#[]⟩] 60) ∧ Below w.heap.size w W ∧ RecsAt W (some ⟨w.heap.size, 0, none⟩) 1 1 [Rc.nil] ∧ W.heap.size = w.heap.size + 1 := ⟨_, rfl, (Below.refl _ _).alloc (Nat.le_refl _) _, recs_nil w 1 (by decide), by simp⟩
end Go.Proofs.YtmnjobiipfgpoaaGreat
namespace Go.Proofs.YtmnjobiipfgpoaaGreat
open Go.RowKit
open Go.SeqMath
open Go.ProdMath
open Go.BatMath hiding AllB getD_lt take_all
set_option linter.unusedVariables false

theorem nil_short : ¬ longRec Rc.nil := by unfold longRec Rc.nil; decide
theorem right_one {b : Bat} (h0 : ¬ (b.base < 0 ∨ 1099511627776 < b.base)) (hm : b.marker = 0) (hh : noneB b = true ∨ headB b = true ∧ rightB b.seq = true) (hr : b.recs = [Rc.nil]) : rightE b = 0 := by
  unfold rightE
  rw [if_neg h0, if_neg (by simp [hm]), if_pos ⟨hh, by rw [hr]; simp⟩, if_neg ?_]
  rw [hr]
  rintro (h | ⟨r, h1, h2⟩)
  · simp at h
  · rw [List.mem_singleton.1 h1] at h2
    exact nil_short h2
theorem right_mark2 {b : Bat} (h0 : ¬ (b.base < 0 ∨ 1099511627776 < b.base)) (hm : b.marker = 2) (hh : headB b = true) (hs : b.seq = -1) (ht : b.txn = true) (hr : b.recs = []) : rightE b = 0 := by
  unfold rightE
  rw [if_neg h0, if_pos (by rw [hm]; decide), if_pos ⟨.inr hm, hh, hs, ht, hr⟩]
def kB1 : Bat := ⟨4, 1, 2, 0, true, 0, [Rc.nil]⟩
def kB2 : Bat := ⟨5, 1, 2, -1, true, 2, []⟩
def kB3 : Bat := ⟨0, -1, -1, -1, false, 0, [Rc.nil]⟩
def kB4 : Bat := ⟨0, 0, 0, 0, false, 0, []⟩
def kP1 : Pd := ⟨1, 2, [⟨0, 0, 4⟩], 4⟩
def kP2 : Pd := ⟨1, 2, [⟨0, 0, 4⟩], -1⟩
theorem right_kB1 : rightE kB1 = 0 := right_one (by decide) rfl (.inr (by decide)) rfl
theorem right_kB2 : rightE kB2 = 0 := right_mark2 (by decide) rfl (by decide) rfl rfl rfl
theorem right_kB3 : rightE kB3 = 0 := right_one (by decide) rfl (.inl (by decide)) rfl
theorem right_kB4 : rightE kB4 = 12 := by
  unfold rightE
  rw [if_neg (by decide), if_neg (by decide), if_neg (fun h => h.2 rfl)]
theorem asc_one (p : Pd) : Asc [p] := List.pairwise_singleton _ _
theorem apply_kB1 : tapplyD [] kB1 = [kP1] := by
  rw [tapply_ins asc_nil kB1 right_kB1 (by decide)]
  rfl
theorem apply_kB2 : tapplyD [kP1] kB2 = [kP2] := by
  rw [tapply_ins (asc_one _) kB2 right_kB2 (by decide)]
  rfl
theorem drop_kB2 : tdropD [kP1] kB2 = some ⟨1, 4, 5⟩ := by
  unfold tdropD
  rw [right_kB2, if_neg (by decide)]
  rfl
theorem check_kB3 (l : List Pd) : tcheckD l kB3 = (-1, 0) := by
  unfold tcheckD
  rw [right_kB3, if_neg (by decide), if_pos (by decide)]
theorem check_kB4 (l : List Pd) : tcheckD l kB4 = (-1, 12) := by
  unfold tcheckD
  rw [right_kB4, if_pos (by decide)]
theorem least_kP1 : IsLeast [kP1] 4 := .inr ⟨by decide, ⟨kP1, by simp, rfl⟩, fun p hp _ => by rw [List.mem_singleton.1 hp]; decide⟩
theorem texts_nil : TextsOk [Rc.nil] := fun r hr => by rw [List.mem_singleton.1 hr]; unfold Rc.nil; decide
theorem few_one (p : Pd) (h : p.last.length ≤ 5) : fewP [p] := fun q hq => by rw [List.mem_singleton.1 hq]; exact h
set_option maxRecDepth 100000 in
set_option maxHeartbeats 8000000 in
theorem known11_any (w : World) : Calls Tryz.prog 10 #[] w (GivesBool w true) := by
  have qa := eql_dr 1 4 5 1 4 5 true (by decide)
  have qg := guard_dr
  go_enter Tryz.func10, Tryz.ntmps10
  go_wp2_with fail
  refine (tcNew_any w).mono ?_
  rintro e w1 ⟨kt, km, rfl, ht1, hb1, hk1, hk2⟩
  have HT1 := Lib.hid ht1
  have HB1 := Lib.hid hb1
  have HK : Hid (w.heap.size ≤ km) := hk2
  clear ht1 hb1 hk1 hk2
  go_wp2_with fail
  refine (tcOpens_any w1 kt km [] HT1.out).mono ?_
  rintro e w2 ⟨v, hv, rfl, hb2⟩
  obtain rfl : v = -1 := least_one hv least_nil
  simp only [show ((-1 : Int) != -1) = false from rfl]
  have HT2 := Lib.hid (HT1.out.keep hb2)
  have HB2 := Lib.hid (HB1.out.trans (hb2.mono HB1.out.size))
  clear hv hb2 HT1 HB1
  go_upto_region 6 with fail
  obtain ⟨W3, hW3, hb3, hr3, sz3⟩ := one_rec w2
  obtain ⟨W4, hW4, hb4, hx4, -⟩ := box_new W3 4 1 2 0 true 0 (.slice (some ⟨w2.heap.size, 0, none⟩) 1 1)
  obtain ⟨G, hG⟩ : ∃ z, z = w2.heap.size := ⟨_, rfl⟩
  obtain ⟨B, hB⟩ : ∃ z, z = w2.heap.size + 1 := ⟨_, rfl⟩
  rw [sz3, ← hB] at hx4
  rw [← hG] at hx4 hr3 hW4
  have HX4 := Lib.hid hx4
  have hb34 := hb3.trans (hb4.mono hb3.size)
  have HT4 := Lib.hid (HT2.out.keep hb34)
  have HB4 := Lib.hid (HB2.out.trans (hb34.mono HB2.out.size))
  have HR4 := Lib.hid (hr3.keep hb4)
  rw [← hB, ← hG, ← hW3, ← hW4]
  clear hW3 hb3 hr3 sz3 hW4 hb4 hx4 hG hB hb34 HT2 HB2
  have p0 := HX4.out.c0
  have p1 := HX4.out.c1
  have p2 := HX4.out.c2
  have p3 := HX4.out.c3
  have p4 := HX4.out.c4
  have p5 := HX4.out.c5
  have p6 := HX4.out.c6
  have CA := tcApply_any W4 kt km [] HT4.out asc_nil (fun p hp => by cases hp) kB1 (some ⟨G, 0, none⟩) 1 1 HR4.out texts_nil (by omega) (by decide)
  have e1 : tapplyD (pds []) kB1 = [kP1] := apply_kB1
  rw [e1] at CA
  obtain ⟨dr, hdr⟩ : ∃ dr, tdropD (pds []) kB1 = dr := ⟨_, rfl⟩
  rw [hdr] at CA
  have HCA := Lib.hid CA
  clear CA e1 hdr
  go_wp2_with fail
  refine HCA.out.mono ?_
  rintro e w5 ⟨d5, ms5, rfl, _, ht5, hp5, hg5⟩
  have HT5 := Lib.hid ht5
  have HP5 := Lib.hid hp5
  have HB5 : Hid (Below w.heap.size w w5) := HB4.out.trans (below_grown hg5 HK.out HB4.out.size)
  clear ht5 hp5 hg5 HCA HT4 HB4 HX4 HR4 p0 p1 p2 p3 p4 p5 p6
  go_wp2_with fail
  refine (tcOpens_any w5 kt km ms5 HT5.out).mono ?_
  rintro e w6 ⟨v, hv, rfl, hb6⟩
  rw [HP5.out] at hv
  obtain rfl : v = 4 := least_one hv least_kP1
  simp only [show ((4 : Int) != -1) = true from rfl]
  have HT6 := Lib.hid (HT5.out.keep hb6)
  have HB6 := Lib.hid (HB5.out.trans (hb6.mono HB5.out.size))
  clear hv hb6 HT5 HB5
  have CA := tcApply_any w6 kt km ms5 HT6.out (by rw [HP5.out]; exact asc_one _) (by rw [HP5.out]; exact few_one _ (by decide)) kB2 none 0 0 (recsAt_row.2 (rowAt_nil _)) (fun r hr => by cases hr) (by omega) (by decide)
  rw [HP5.out, apply_kB2, drop_kB2] at CA
  have HCA := Lib.hid CA
  clear CA
  go_wp2_with fail
  refine HCA.out.mono ?_
  rintro e w7 ⟨d7, ms7, rfl, hd7, ht7, hp7, hg7⟩
  obtain rfl : d7 = ⟨1, 4, 5⟩ := hd7.symm
  have HT7 := Lib.hid ht7
  have HP7 := Lib.hid hp7
  have HB7 : Hid (Below w.heap.size w w7) := HB6.out.trans (below_grown hg7 HK.out HB6.out.size)
  simp only [Option.isSome_some]
  clear hd7 ht7 hp7 hg7 HCA HT6 HB6 HP5
  go_upto_region 9 with fail
  obtain ⟨W8, hW8⟩ : ∃ z, z = w7.alloc (.cells #[.int .i64 1, .int .i64 4, .int .i64 5] 55) := ⟨_, rfl⟩
  obtain ⟨D, hD⟩ : ∃ z, z = w7.heap.size := ⟨_, rfl⟩
  have hb8 : Below w7.heap.size w7 W8 := by rw [hW8]; exact (Below.refl _ _).alloc (Nat.le_refl _) _
  have HD8 : Hid (DBox W8 D ⟨1, 4, 5⟩) := by show DBox _ _ _; rw [hW8, hD]; exact dbox_new w7 ⟨1, 4, 5⟩
  have HT8 := Lib.hid (HT7.out.keep hb8)
  have HB8 := Lib.hid (HB7.out.trans (hb8.mono HB7.out.size))
  rw [← hW8, ← hD]
  clear hW8 hD hb8 HT7 HB7
  have CG := tcGet_any W8 kt km ms7 HT8.out (by rw [HP7.out]; exact few_one _ (by decide)) 1 (by decide) (by decide)
  rw [HP7.out, show (lookD [kP2] 1).getD Pd.zero = kP2 from rfl, show (lookD [kP2] 1).isSome = true from rfl] at CG
  have HCG := Lib.hid CG
  clear CG
  go_wp2_with fail
  refine HCG.out.mono ?_
  rintro e w9 ⟨gad, gn, gcap, rfl, _, hb9⟩
  have HT9 := Lib.hid (HT8.out.keep hb9)
  have HB9 := Lib.hid (HB8.out.trans (hb9.mono HB8.out.size))
  have HD9 := Lib.hid (HD8.out.on hb9)
  simp only [kP2]
  clear hb9 HCG HT8 HB8 HD8
  go_upto_region 10 with fail
  obtain ⟨W10, hW10, hb10, hx10, sz10⟩ := pd_new w9 1 2 (.slice gad gn gcap) (-1)
  obtain ⟨P, hP⟩ : ∃ z, z = w9.heap.size := ⟨_, rfl⟩
  rw [← hP] at hx10
  have HP10 := Lib.hid hx10
  have HT10 := Lib.hid (HT9.out.keep hb10)
  have HB10 := Lib.hid (HB9.out.trans (hb10.mono HB9.out.size))
  have HD10 := Lib.hid (HD9.out.on hb10)
  rw [← hP, ← hW10]
  clear hW10 hP hx10 hb10 HT9 HB9 HD9
  obtain ⟨W11, hW11, hb11, hr11, -⟩ := one_rec W10
  obtain ⟨R, hR⟩ : ∃ z, z = W10.heap.size := ⟨_, rfl⟩
  rw [← hR] at hr11
  clear sz10
  have HR11 := Lib.hid hr11
  have HW11 := Lib.hid hW11
  have HRE := Lib.hid hR
  have HT11 := Lib.hid (HT10.out.keep hb11)
  have HB11 := Lib.hid (HB10.out.trans (hb11.mono HB10.out.size))
  have HD11 := Lib.hid (HD10.out.on hb11)
  have HP11 := Lib.hid (HP10.out.on hb11)
  clear hW11 hb11 hr11 hR HT10 HB10 HD10 HP10
  have C1 : Hid (Calls Tryz.prog 18 #[.pointer (some ⟨kt, 0, none⟩), .agg #[.int .i64 0, .int .i64 (-1), .int .i64 (-1), .int .i64 (-1), .bool false, .int .i64 0, .slice (some ⟨R, 0, none⟩) 1 1]] W11 (GivesPair W11 (-1, 0))) :=
    tcCheck_any W11 kt km ms7 HT11.out (by rw [HP7.out]; exact asc_one _) (by rw [HP7.out]; exact few_one _ (by decide)) kB3 (some ⟨R, 0, none⟩) 1 1 HR11.out texts_nil (by omega) (by decide) (-1, 0) (check_kB3 _)
  go_wp2_with fail
  rw [← HW11.out, ← HRE.out]
  refine C1.out.mono ?_
  rintro e w12 ⟨rfl, hb12⟩
  have HT12 := Lib.hid (HT11.out.keep hb12)
  have HB12 := Lib.hid (HB11.out.trans (hb12.mono HB11.out.size))
  have HD12 := Lib.hid (HD11.out.on hb12)
  have HP12 := Lib.hid (HP11.out.on hb12)
  clear hb12 C1 HR11 HW11 HRE HT11 HB11 HD11 HP11
  have C2 : Hid (Calls Tryz.prog 18 #[.pointer (some ⟨kt, 0, none⟩), .agg #[.int .i64 0, .int .i64 0, .int .i64 0, .int .i64 0, .bool false, .int .i64 0, .slice none 0 0]] w12 (GivesPair w12 (-1, 12))) :=
    tcCheck_any w12 kt km ms7 HT12.out (by rw [HP7.out]; exact asc_one _) (by rw [HP7.out]; exact few_one _ (by decide)) kB4 none 0 0 (recsAt_row.2 (rowAt_nil _)) (fun r hr => by cases hr) (by omega) (by decide) (-1, 12) (check_kB4 _)
  go_wp2_with fail
  refine C2.out.mono ?_
  rintro e w13 ⟨rfl, hb13⟩
  have HT13 := Lib.hid (HT12.out.keep hb13)
  have HB13 := Lib.hid (HB12.out.trans (hb13.mono HB12.out.size))
  have HD13 := Lib.hid (HD12.out.on hb13)
  have HP13 := Lib.hid (HP12.out.on hb13)
  clear hb13 C2 HT12 HB12 HD12 HP12
  have d0 := HD13.out.c0
  have d1 := HD13.out.c1
  have d2 := HD13.out.c2
  have q3 := HP13.out.c3
  have hml : ms7.length = 1 := by
    have h1 := congrArg List.length HP7.out
    unfold pds at h1
    rw [List.length_map] at h1
    exact h1
  have CL : Hid (Calls Tryz.prog 14 #[.pointer (some ⟨kt, 0, none⟩)] w13 (GivesTcAll w13 (pds ms7))) :=
    tcAll_any w13 kt km ms7 HT13.out (by rw [HP7.out]; exact asc_one _) (by rw [HP7.out]; exact few_one _ (by decide)) (by omega)
  have HML := Lib.hid hml
  clear hml
  go_wp2_with fail
  refine CL.out.mono ?_
  rintro e w14 ⟨lad, llen, lcap, os, rfl, hpo, hpe, hb14⟩
  have hll : llen = 1 := by
    have h1 := congrArg List.length hpe
    unfold pds at h1
    rw [List.length_map, List.length_map, hpo.row.length, HML.out] at h1
    exact h1
  subst hll
  have HB14 := Lib.hid (HB13.out.trans (hb14.mono HB13.out.size))
  clear hpo hpe hb14
  go_wp2
  go_ret
  exact ⟨rfl, HB14.out⟩
end Go.Proofs.YtmnjobiipfgpoaaGreat
