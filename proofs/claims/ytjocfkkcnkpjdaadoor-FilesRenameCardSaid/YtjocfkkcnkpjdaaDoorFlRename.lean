/- FilesRename. -/
import Derived.Test.YtjocfkkcnkpjdaaDoorFlKeep
namespace Go.Proofs.YtjocfkkcnkpjdaaDoor
open Go.RowKit
open Go.RuneMath
open Go.FsMath
set_option linter.unusedVariables false

def nY : ByteArray := ⟨#[121]⟩
theorem kr4 (f : List Nat) (L : Nat) (Q : List Nat) : appendF ⟨[⟨nX, f, L⟩], -1, 3⟩ nY Q = (0, ⟨[⟨nX, f, L⟩, ⟨nY, Q, 0⟩], -1, 4⟩) := by kernel_rfl
theorem kr5 (f : List Nat) (L : Nat) (Q : List Nat) {M : Nat} (h : Q.length = M) : syncF ⟨[⟨nX, f, L⟩, ⟨nY, Q, 0⟩], -1, 4⟩ nY = (0, ⟨[⟨nX, f, L⟩, ⟨nY, Q, M⟩], -1, 5⟩) := by subst h; kernel_rfl
theorem kr6 (f : List Nat) (L : Nat) (Q : List Nat) (M : Nat) : renameF ⟨[⟨nX, f, L⟩, ⟨nY, Q, M⟩], -1, 5⟩ nX nY = (0, ⟨[⟨nY, f, L⟩], -1, 6⟩) := by kernel_rfl
theorem kr7 (f : List Nat) (L : Nat) : lenF [⟨nY, f, L⟩] nY = f.length := by kernel_rfl
theorem kr8 (f : Fl) (k : Int) : crashF [f] [k] [] = [crashOne f k none] := by kernel_rfl
theorem kr9 (f : List Nat) (L : Nat) : readF [⟨nY, f, L⟩] nY = some f := by kernel_rfl
theorem kr10 (f : List Nat) (L : Nat) : readF [⟨nY, f, L⟩] nX = none := by kernel_rfl
theorem left_none (nm : ByteArray) (A B : List Nat) {L n : Nat} (hL : A.length = L) (k : Int) (hn : (n : Int) = max (min k (B.length : Int)) 0) : crashOne ⟨nm, A ++ B, L⟩ k none = ⟨nm, A ++ B.take n, L + n⟩ := by
  subst hL
  have h1 : keepN ⟨nm, A ++ B, A.length⟩ k = n := by
    unfold keepN
    simp only [List.length_append]
    omega
  have hnB : n ≤ B.length := by omega
  have h2 : (A ++ B).take (A.length + n) = A ++ B.take n := by
    rw [List.take_append]
    rw [List.take_of_length_le (by omega), Nat.add_sub_cancel_left]
  have h3 : (A ++ B.take n).length = A.length + n := by rw [List.length_append, List.length_take]; omega
  unfold crashOne
  simp only [h1, h2, h3]
theorem str_two (a b : List Nat) : str (a ++ b) = str a ++ str b := by
  apply ByteArray.ext
  apply Array.toList_inj.1
  simp [str, ByteArray.data_append]
theorem str_size (a : List Nat) : (str a).size = a.length := by
  show (str a).data.size = _
  simp [str]
set_option maxRecDepth 100000 in
set_option maxHeartbeats 8000000 in
theorem rename_any (W : World) (aad : Option Addr) (alen acap : Nat) (xs : List Nat) (ha : RowAt byteK W aad alen acap xs) (haa : AllB xs) (qad : Option Addr) (qlen qcap : Nat) (Q : List Nat) (hq : RowAt byteK W qad qlen qcap Q) (hqa : AllB Q) (hql : qlen ≤ 140737488355328) (bad : Option Addr) (blen bcap : Nat) (bs : List Nat) (hb : RowAt byteK W bad blen bcap bs) (hba : AllB bs)
    (keep : Int) (hk0 : -9223372036854775808 ≤ keep) (hk1 : keep ≤ 9223372036854775807) (hT : Tabs W) (h2 : 2 ≤ W.heap.size) :
    Calls Tryd.prog 7 #[.slice aad alen acap, .slice qad qlen qcap, .slice bad blen bcap, .int .i64 keep] W fun e w' => e = .returned (.bool true) ∧ Below W.heap.size W w' := by
  obtain ⟨la, hla⟩ : ∃ l, l = min alen 60 := ⟨_, rfl⟩
  obtain ⟨lb, hlb⟩ : ∃ l, l = min blen 60 := ⟨_, rfl⟩
  obtain ⟨A, hA⟩ : ∃ A, A = xs.take la := ⟨_, rfl⟩
  obtain ⟨B, hB⟩ : ∃ B, B = bs.take lb := ⟨_, rfl⟩
  have HRA : Hid (RowAt byteK W aad la acap A) := by show RowAt _ _ _ _ _ _; rw [hA]; exact ha.take la (by omega)
  have HRB : Hid (RowAt byteK W bad lb bcap B) := by show RowAt _ _ _ _ _ _; rw [hB]; exact hb.take lb (by omega)
  have HAA : Hid (AllB A) := by show AllB _; rw [hA]; exact take_all haa _
  have HBA : Hid (AllB B) := by show AllB _; rw [hB]; exact take_all hba _
  have HLA : Hid (A.length = la) := HRA.out.length
  have HLB : Hid (B.length = lb) := HRB.out.length
  have HRQ := Lib.hid hq
  have HQA := Lib.hid hqa
  have HQL := Lib.hid hq.length
  have HQ47 := Lib.hid hql
  have hal : la ≤ 60 := by omega
  have hbl : lb ≤ 60 := by omega
  have hfa := ha.fits
  have hfb := hb.fits
  have HT := Lib.hid hT
  have HLT : Hid (∀ a, aad = some a → 0 < la → a.block < W.heap.size) := fun a e h0 => HRA.out.lt h0 a e
  have HLTB : Hid (∀ a, bad = some a → 0 < lb → a.block < W.heap.size) := fun a e h0 => HRB.out.lt h0 a e
  have HLTQ : Hid (∀ a, qad = some a → 0 < qlen → a.block < W.heap.size) := fun a e h0 => HRQ.out.lt h0 a e
  clear ha hb haa hba hT hA hB hq hqa hql
  go_enter Tryd.func7, Tryd.ntmps7
  go_wp2_with fail
  refine (oneNew W (Below.refl _ W)).mono ?_
  rintro e w1 ⟨kf, rfl, H1⟩
  go_upto_if 20 with fail
  go_cut [0] from 15 (fun s0 wx => s0 = .slice aad la acap ∧ w1 = wx)
  case first =>
    rcases Nat.lt_or_ge 60 alen with h | h
    · have hd : decide (60 < alen) = true := decide_eq_true h
      have HLV := Lib.hid hla
      clear hla
      have hup : ∀ W, (Instr.slice 23 (.slice aad alen acap) none (some (.int .i64 60)) none).run Tryd.prog W = .ok (.slice aad 60 acap) W := row_upto byteK_ok aad alen acap 60 (by omega)
      obtain rfl : la = 60 := by have := HLV.out; omega
      go_wp2
      go_meet
      case rel => exact ⟨rfl, rfl⟩
    · have hd : decide (60 < alen) = false := decide_eq_false (by omega)
      obtain rfl : la = alen := by omega
      go_wp2
      go_meet
      case rel => exact ⟨rfl, rfl⟩
  case rest =>
    obtain ⟨rfl, rfl⟩ := hcut
    go_upto_if 25 with fail
    go_cut [2] from 15 (fun s1 wx => s1 = .slice bad lb bcap ∧ w1 = wx)
    case first =>
      rcases Nat.lt_or_ge 60 blen with h | h
      · have hd : decide (60 < blen) = true := decide_eq_true h
        have HLV := Lib.hid hlb
        clear hlb
        have hup : ∀ W, (Instr.slice 23 (.slice bad blen bcap) none (some (.int .i64 60)) none).run Tryd.prog W = .ok (.slice bad 60 bcap) W := row_upto byteK_ok bad blen bcap 60 (by omega)
        obtain rfl : lb = 60 := by have := HLV.out; omega
        go_wp2
        go_meet
        case rel => exact ⟨rfl, rfl⟩
      · have hd : decide (60 < blen) = false := decide_eq_false (by omega)
        obtain rfl : lb = blen := by omega
        go_wp2
        go_meet
        case rel => exact ⟨rfl, rfl⟩
    case rest =>
      obtain ⟨rfl, rfl⟩ := hcut
      clear hla hlb hfa hfb
      go_wp2_with fail
      refine (oneAppend H1.out (num_ok (by decide) (by decide) (by decide) (by decide)) (by decide) nX (by decide) (Below.refl _ _) aad la acap A (HRA.out.keep H1.out.below) HAA.out (fun a e h0 => .inl (HLT.out a e h0)) (fun f hf => by cases hf) (by omega)).mono ?_
      rintro e w2 ⟨rfl, H2⟩
      rw [kp1] at H2
      rw [kp1]
      clear H1
      go_wp2_with fail
      refine (oneSync H2.out (num_ok (by dsimp only; omega) (by dsimp only; omega) (by dsimp only; omega) (by dsimp only; omega)) nX (by decide)).mono ?_
      rintro e w3 ⟨rfl, H3⟩
      rw [kp2 A HLA.out] at H3
      rw [kp2 A HLA.out]
      clear H2
      go_wp2_with fail
      refine (oneAppend H3.out (num_ok (by dsimp only; omega) (by dsimp only; omega) (by dsimp only; omega) (by dsimp only; omega)) (by show (1 : Nat) ≤ _; omega) nX (by decide) (Below.refl _ _) bad lb bcap B (HRB.out.keep H3.out.below) HBA.out (fun a e h0 => .inl (HLTB.out a e h0)) (fun f hf _ => by
        obtain rfl := List.mem_singleton.1 hf
        simp only
        have := HLA.out
        omega) (by omega)).mono ?_
      rintro e w4 ⟨rfl, H4⟩
      rw [kp3] at H4
      rw [kp3]
      clear H3
      go_wp2_with fail
      refine (oneAppend H4.out (num_ok (by dsimp only; omega) (by dsimp only; omega) (by dsimp only; omega) (by dsimp only; omega)) (by show (1 : Nat) ≤ _; omega) nY (by decide) (Below.refl _ _) qad qlen qcap Q (HRQ.out.keep H4.out.below) HQA.out (fun a e h0 => .inl (HLTQ.out a e h0)) (fun f hf hne => by
        obtain rfl := List.mem_singleton.1 hf
        exact absurd (show nX = nY from hne) (by decide)) HQ47.out).mono ?_
      rintro e w5 ⟨rfl, H5⟩
      rw [kr4] at H5
      rw [kr4]
      clear H4
      go_wp2_with fail
      refine (oneSync H5.out (num_ok (by dsimp only; omega) (by dsimp only; omega) (by dsimp only; omega) (by dsimp only; omega)) nY (by decide)).mono ?_
      rintro e w6 ⟨rfl, H6⟩
      rw [kr5 _ _ _ HQL.out] at H6
      rw [kr5 _ _ _ HQL.out]
      clear H5
      go_wp2_with fail
      refine (oneRename H6.out (num_ok (by dsimp only; omega) (by dsimp only; omega) (by dsimp only; omega) (by dsimp only; omega)) (by show (2 : Nat) ≤ _; omega) nX (by decide) nY (by decide)).mono ?_
      rintro e w7 ⟨rfl, H7⟩
      rw [kr6] at H7
      rw [kr6]
      clear H6
      go_wp2_with fail
      refine (oneList H7.out (by show (1 : Nat) ≤ _; omega) HT.out h2).mono ?_
      rintro e w8 ⟨hb8, lad, lcap, rfl, hlr⟩
      have H8 := Lib.hid (H7.out.on hb8.out)
      clear H7 hb8 hlr
      simp only [List.length_cons, List.length_nil, List.length_map, Nat.zero_add]
      go_wp2_with fail
      refine (oneLen H8.out nY (by decide)).mono ?_
      rintro e w9 ⟨rfl, rfl⟩
      rw [kr7]
      obtain ⟨K, hK⟩ : ∃ K, K = la + lb := ⟨_, rfl⟩
      have hKl : (A ++ B).length = K := by rw [List.length_append, HLA.out, HLB.out, hK]
      have hKi : (la : Int) + (lb : Int) = (K : Int) := by omega
      have hwK : IntKind.i64.wrap (K : Int) = (K : Int) := IntWalk.i64_in _ (by omega)
      rw [hKl]
      clear hKl hK
      go_upto_region 15 with fail
      go_wp2_with fail
      obtain ⟨w10, hw10⟩ : ∃ z, z = w8.alloc (.cells #[.int .i64 keep] 2) := ⟨_, rfl⟩
      obtain ⟨G, hG⟩ : ∃ G, G = w8.heap.size := ⟨_, rfl⟩
      have HB10 : Hid (Below w8.heap.size w8 w10) := by show Below _ _ _; rw [hw10]; exact alloc_below _ _
      have HK10 : Hid (RowAt keepK w10 (some ⟨G, 0, none⟩) 1 1 [keep]) := by
        show RowAt _ _ _ _ _ _
        rw [hw10, hG]
        exact rowAt_lit keepK_ok w8 [keep] (by simp) _ rfl 1 rfl
      have HGG : Hid (w8.heap.size ≤ G) := by show _ ≤ _; omega
      rw [← hw10, ← hG]
      clear hw10 hG
      refine (oneCrash H8.out (by show (1 : Nat) ≤ _; omega) HT.out h2 (fun f hf => by
        obtain rfl := List.mem_singleton.1 hf
        simp only [List.length_append]
        have := HLA.out
        have := HLB.out
        omega) HB10.out (some ⟨G, 0, none⟩) 1 1 [keep] HK10.out (fun a ha _ => .inr (.inr (by cases ha; exact HGG.out))) (fun k hk => by obtain rfl := List.mem_singleton.1 hk; exact ⟨hk0, hk1⟩) none 0 0 [] (RowAt.zero _ (fun _ => rfl)) (fun a ha => by cases ha) (fun x hx => by cases hx)).mono ?_
      rintro e w11 ⟨rfl, H11⟩
      obtain ⟨n, hn⟩ : ∃ n : Nat, (n : Int) = max (min keep (lb : Int)) 0 := ⟨(max (min keep (lb : Int)) 0).toNat, by omega⟩
      rw [kr8, left_none nY A B HLA.out keep (n := n) (by rw [HLB.out]; exact hn)] at H11
      have hnl : n ≤ lb := by omega
      have hcl : (A ++ B.take n).length = la + n := by rw [List.length_append, List.length_take, HLA.out, HLB.out]; omega
      have HCL := Lib.hid hcl
      clear H8 HB10 HK10 HGG hcl
      go_wp2_with fail
      refine (oneRead H11.out nY (by decide) (fun f hf => by
        obtain rfl := List.mem_singleton.1 hf
        simp only
        have := HCL.out
        omega)).mono ?_
      rintro e w12 hrd
      rw [kr9] at hrd
      obtain ⟨hb12, cad, ccap, rfl, hr12⟩ := hrd
      obtain ⟨N, hN⟩ : ∃ N, N = la + n := ⟨_, rfl⟩
      rw [HCL.out, ← hN] at hr12
      rw [HCL.out, ← hN]
      have HN := Lib.hid hN
      have H12 := Lib.hid (H11.out.on hb12.out)
      have HRC := Lib.hid hr12.out.1
      clear H11 hb12 hr12 hN hKi hwK
      go_upto_region 17 with fail
      go_upto_region 18 with fail
      rw [← hn]
      have HNV := Lib.hid hn
      clear hn
      go_wp2_with fail
      refine (oneRead H12.out nX (by decide) (fun f hf => by
        obtain rfl := List.mem_singleton.1 hf
        simp only
        have := HCL.out
        omega)).mono ?_
      rintro e w13 hrd
      rw [kr10] at hrd
      obtain ⟨hb13, rfl⟩ := hrd
      have H13 := Lib.hid (H12.out.on hb13.out)
      have HR13 := Lib.hid (HRC.out.keep hb13.out)
      clear H12 HRC hb13
      obtain ⟨sA, hsA⟩ : ∃ s, s = str A := ⟨_, rfl⟩
      obtain ⟨sB, hsB⟩ : ∃ s, s = str (B.take n) := ⟨_, rfl⟩
      have hzA : sA.size ≤ 60 := by rw [hsA, str_size, HLA.out]; exact hal
      have hzB : sB.size ≤ 60 := by rw [hsB, str_size, List.length_take]; have := HLB.out; omega
      have hup : ∀ W, (Instr.slice 23 (.slice bad lb bcap) none (some (.int .i64 (n : Int))) none).run Tryd.prog W = .ok (.slice bad n bcap) W := row_upto byteK_ok bad lb bcap n (by have := HRB.out.fits; omega)
      have KS : Hid (∀ V, Below w13.heap.size w13 V → (fun (V : World) => Below w13.heap.size w13 V ∧ (convert 23 9 (.slice cad N ccap)).run Tryd.prog V = .ok (.string (sA ++ sB)) V ∧ (convert 23 9 (.slice aad la acap)).run Tryd.prog V = .ok (.string sA) V ∧ (convert 23 9 (.slice bad n bcap)).run Tryd.prog V = .ok (.string sB) V) V) := by
        intro V hV
        have hBW := H13.out.below.trans (hV.mono H13.out.below.size)
        refine ⟨hV, ?_, ?_, ?_⟩
        · refine str_row (HR13.out.keep hV) (fun x hx => ?_) (by rw [hsA, hsB]; exact (str_two _ _).symm)
          rcases List.mem_append.1 hx with h | h
          · exact HAA.out x h
          · exact take_all HBA.out n x h
        · exact str_row (HRA.out.keep hBW) HAA.out hsA
        · exact str_row ((HRB.out.keep hBW).take n hnl) (take_all HBA.out n) hsB
      have hdrw : Below w13.heap.size w13 w13.drew := (Below.refl _ w13).drew
      clear hsA hsB
      go_upto_region 19 with fail
      refine wp_region_noPanic ?_
      refine wp_region_z [] (fun (V : World) => Below w13.heap.size w13 V ∧ (convert 23 9 (.slice cad N ccap)).run Tryd.prog V = .ok (.string (sA ++ sB)) V ∧ (convert 23 9 (.slice aad la acap)).run Tryd.prog V = .ok (.string sA) V ∧ (convert 23 9 (.slice bad n bcap)).run Tryd.prog V = .ok (.string sB) V) (by kernel_rfl) ?_
      have hHeld : (fun (V : World) => Below w13.heap.size w13 V ∧ (convert 23 9 (.slice cad N ccap)).run Tryd.prog V = .ok (.string (sA ++ sB)) V ∧ (convert 23 9 (.slice aad la acap)).run Tryd.prog V = .ok (.string sA) V ∧ (convert 23 9 (.slice bad n bcap)).run Tryd.prog V = .ok (.string sB) V) _ := KS.out _ hdrw
      obtain ⟨u0, hu0⟩ : ∃ u, u = w13.drew := ⟨_, rfl⟩
      rw [← hu0] at hHeld hdrw
      rw [← hu0]
      clear hu0
      have HO : Hid (One W (fun j => j < W.heap.size) W u0 kf _) := H13.out.on hdrw
      have HB0 := Lib.hid hdrw
      clear hdrw
      refine wpAnyZ_take (i := 0) (oi := ⟨_, _, _, _, _, _⟩) (v := ?_) rfl (by kernel_rfl) (by kernel_rfl) (by kernel_rfl) (by kernel_rfl) (by kernel_rfl) (fun _ _ _ h => h) (Or.inl ⟨by rfl, ?_⟩) (by assumption) ?_
      rotate_left
      · intro W hSw
        (try dsimp only at hSw)
        go_simp
        (try with_reducible rfl)
      (try simp only [Act.put, List.setIfInBounds_toArray, List.set_cons_zero, List.set_cons_succ])
      refine wpAnyZ_take (i := 1) (oi := ⟨_, _, _, _, _, _⟩) (v := ?_) rfl (by kernel_rfl) (by kernel_rfl) (by kernel_rfl) (by kernel_rfl) (by kernel_rfl) (fun _ _ _ h => h) (Or.inl ⟨by rfl, ?_⟩) (by assumption) ?_
      rotate_left
      · intro W hSw
        (try dsimp only at hSw)
        go_simp
        (try with_reducible rfl)
      (try simp only [Act.put, List.setIfInBounds_toArray, List.set_cons_zero, List.set_cons_succ])
      refine wpAnyZ_take (i := 2) (oi := ⟨_, _, _, _, _, _⟩) (v := ?_) rfl (by kernel_rfl) (by kernel_rfl) (by kernel_rfl) (by kernel_rfl) (by kernel_rfl) (fun _ _ _ h => h) (Or.inl ⟨by rfl, ?_⟩) (by assumption) ?_
      rotate_left
      · intro W hSw
        (try dsimp only at hSw)
        go_simp
        (try with_reducible rfl)
      (try simp only [Act.put, List.setIfInBounds_toArray, List.set_cons_zero, List.set_cons_succ])
      refine wpAnyZ_take (i := 3) (oi := ⟨_, _, _, _, _, _⟩) (v := ?_) rfl (by kernel_rfl) (by kernel_rfl) (by kernel_rfl) (by kernel_rfl) (by kernel_rfl) (fun _ _ _ h => h) (Or.inl ⟨by rfl, ?_⟩) (by assumption) ?_
      rotate_left
      · intro W hSw
        (try dsimp only at hSw)
        go_simp
        (try with_reducible rfl)
      (try simp only [Act.put, List.setIfInBounds_toArray, List.set_cons_zero, List.set_cons_succ])
      refine wpAnyZ_take (i := 4) (oi := ⟨_, _, _, _, _, _⟩) (v := ?_) rfl (by kernel_rfl) (by kernel_rfl) (by kernel_rfl) (by kernel_rfl) (by kernel_rfl) (fun _ _ _ h => h) (Or.inl ⟨by rfl, ?_⟩) (by assumption) ?_
      rotate_left
      · intro W hSw
        (try dsimp only at hSw)
        go_simp
        (try with_reducible rfl)
      (try simp only [Act.put, List.setIfInBounds_toArray, List.set_cons_zero, List.set_cons_succ])
      refine wpAnyZ_take (i := 5) (oi := ⟨_, _, _, _, _, _⟩) (v := ?_) rfl (by kernel_rfl) (by kernel_rfl) (by kernel_rfl) (by kernel_rfl) (by kernel_rfl) (fun _ _ _ h => h) (Or.inl ⟨by rfl, ?_⟩) (by assumption) ?_
      rotate_left
      · intro W hSw
        (try dsimp only at hSw)
        go_simp
        (try with_reducible rfl)
      (try simp only [Act.put, List.setIfInBounds_toArray, List.set_cons_zero, List.set_cons_succ])
      refine wpAnyZ_take (i := 6) (oi := ⟨_, _, _, _, _, _⟩) (v := ?_) rfl (by kernel_rfl) (by kernel_rfl) (by kernel_rfl) (by kernel_rfl) (by kernel_rfl) (fun _ _ _ h => h) (Or.inl ⟨by rfl, ?_⟩) (by assumption) ?_
      rotate_left
      · intro W hSw
        (try dsimp only at hSw)
        go_simp
        (try with_reducible rfl)
      (try simp only [Act.put, List.setIfInBounds_toArray, List.set_cons_zero, List.set_cons_succ])
      refine wpAnyZ_take (i := 7) (oi := ⟨_, _, _, _, _, _⟩) (v := ?_) rfl (by kernel_rfl) (by kernel_rfl) (by kernel_rfl) (by kernel_rfl) (by kernel_rfl) (fun _ _ _ h => h) (Or.inl ⟨by rfl, ?_⟩) (by assumption) ?_
      rotate_left
      · intro W hSw
        (try dsimp only at hSw)
        go_simp
        (try with_reducible rfl)
      (try simp only [Act.put, List.setIfInBounds_toArray, List.set_cons_zero, List.set_cons_succ])
      refine wpAnyZ_take (i := 8) (oi := ⟨_, _, _, _, _, _⟩) (v := ?_) rfl (by kernel_rfl) (by kernel_rfl) (by kernel_rfl) (by kernel_rfl) (by kernel_rfl) (fun _ _ _ h => h) (Or.inl ⟨by rfl, ?_⟩) (by assumption) ?_
      rotate_left
      · intro W hSw
        (try dsimp only at hSw)
        go_simp
        (try with_reducible rfl)
      (try simp only [Act.put, List.setIfInBounds_toArray, List.set_cons_zero, List.set_cons_succ])
      refine wpAnyZ_take (i := 9) (oi := ⟨_, _, _, _, _, _⟩) (v := ?_) rfl (by kernel_rfl) (by kernel_rfl) (by kernel_rfl) (by kernel_rfl) (by kernel_rfl) (fun _ _ _ h => h) (Or.inl ⟨by rfl, ?_⟩) (by assumption) ?_
      rotate_left
      · intro W hSw
        (try dsimp only at hSw)
        go_simp
        (try with_reducible rfl)
      (try simp only [Act.put, List.setIfInBounds_toArray, List.set_cons_zero, List.set_cons_succ])
      refine wpAnyZ_take (i := 10) (oi := ⟨_, _, _, _, _, _⟩) (v := ?_) rfl (by kernel_rfl) (by kernel_rfl) (by kernel_rfl) (by kernel_rfl) (by kernel_rfl) (fun _ _ _ h => h) (Or.inl ⟨by rfl, ?_⟩) (by assumption) ?_
      rotate_left
      · intro W hSw
        (try dsimp only at hSw)
        go_simp
        (try with_reducible rfl)
      (try simp only [Act.put, List.setIfInBounds_toArray, List.set_cons_zero, List.set_cons_succ])
      refine wpAnyZ_take (i := 11) (oi := ⟨_, _, _, _, _, _⟩) (v := ?_) rfl (by kernel_rfl) (by kernel_rfl) (by kernel_rfl) (by kernel_rfl) (by kernel_rfl) (fun _ _ _ h => h) (Or.inl ⟨by rfl, ?_⟩) (by assumption) ?_
      rotate_left
      · intro W hSw
        (try dsimp only at hSw)
        go_simp
        (try with_reducible rfl)
      (try simp only [Act.put, List.setIfInBounds_toArray, List.set_cons_zero, List.set_cons_succ])
      refine wpAnyZ_take (i := 12) (oi := ⟨_, _, _, _, _, _⟩) (v := ?_) rfl (by kernel_rfl) (by kernel_rfl) (by kernel_rfl) (by kernel_rfl) (by kernel_rfl) (fun _ _ _ h => h) (Or.inl ⟨by rfl, ?_⟩) (by assumption) ?_
      rotate_left
      · intro W hSw
        (try dsimp only at hSw)
        go_simp
        (try with_reducible rfl)
      (try simp only [Act.put, List.setIfInBounds_toArray, List.set_cons_zero, List.set_cons_succ])
      refine wpAnyZ_take (i := 13) (oi := ⟨_, _, _, _, _, _⟩) (v := ?_) rfl (by kernel_rfl) (by kernel_rfl) (by kernel_rfl) (by kernel_rfl) (by kernel_rfl) (fun _ _ _ h => h) (Or.inl ⟨by rfl, ?_⟩) (by assumption) ?_
      rotate_left
      · intro W hSw
        (try dsimp only at hSw)
        go_simp
        (try with_reducible rfl)
      (try simp only [Act.put, List.setIfInBounds_toArray, List.set_cons_zero, List.set_cons_succ])
      refine wpAnyZ_take (i := 14) (oi := ⟨_, _, _, _, _, _⟩) (v := ?_) rfl (by kernel_rfl) (by kernel_rfl) (by kernel_rfl) (by kernel_rfl) (by kernel_rfl) (fun _ _ _ h => h) (Or.inl ⟨by rfl, ?_⟩) (by assumption) ?_
      rotate_left
      · intro W hSw
        (try dsimp only at hSw)
        go_simp
        rw [if_neg (by omega)]
        (try with_reducible rfl)
      (try simp only [Act.put, List.setIfInBounds_toArray, List.set_cons_zero, List.set_cons_succ])
      refine wpAnyZ_take (i := 15) (oi := ⟨_, _, _, _, _, _⟩) (v := ?_) rfl (by kernel_rfl) (by kernel_rfl) (by kernel_rfl) (by kernel_rfl) (by kernel_rfl) (fun _ _ _ h => h) (Or.inl ⟨by rfl, ?_⟩) (by assumption) ?_
      rotate_left
      · intro W hSw
        (try dsimp only at hSw)
        go_simp
        (try with_reducible rfl)
      (try simp only [Act.put, List.setIfInBounds_toArray, List.set_cons_zero, List.set_cons_succ])
      refine wpAnyZ_take (i := 16) (oi := ⟨_, _, _, _, _, _⟩) (v := ?_) rfl (by kernel_rfl) (by kernel_rfl) (by kernel_rfl) (by kernel_rfl) (by kernel_rfl) (fun _ _ _ h => h) (Or.inl ⟨by rfl, ?_⟩) (by assumption) ?_
      rotate_left
      · intro W hSw
        (try dsimp only at hSw)
        go_simp
        (try with_reducible rfl)
      (try simp only [Act.put, List.setIfInBounds_toArray, List.set_cons_zero, List.set_cons_succ])
      refine wpAnyZ_take (i := 17) (oi := ⟨_, _, _, _, _, _⟩) (v := ?_) rfl (by kernel_rfl) (by kernel_rfl) (by kernel_rfl) (by kernel_rfl) (by kernel_rfl) (fun _ _ _ h => h) (Or.inl ⟨by rfl, ?_⟩) (by assumption) ?_
      rotate_left
      · intro W hSw
        (try dsimp only at hSw)
        go_simp
        (try with_reducible rfl)
      (try simp only [Act.put, List.setIfInBounds_toArray, List.set_cons_zero, List.set_cons_succ])
      refine wpAnyZ_take (i := 18) (oi := ⟨_, _, _, _, _, _⟩) (v := ?_) rfl (by kernel_rfl) (by kernel_rfl) (by kernel_rfl) (by kernel_rfl) (by kernel_rfl) (fun _ _ _ h => h) (Or.inl ⟨by rfl, ?_⟩) (by assumption) ?_
      rotate_left
      · intro W hSw
        (try dsimp only at hSw)
        go_simp
        (try with_reducible rfl)
      (try simp only [Act.put, List.setIfInBounds_toArray, List.set_cons_zero, List.set_cons_succ])
      refine wpAnyZ_ready (rs := [19]) (by kernel_rfl) (by simp) ?_
      refine AllReadyZ.cons (o := ⟨_, _, _, _, _, _⟩) rfl (fun C hC => ?_) AllReadyZ.nil
      go_simp
      refine (oneDeeds HO.out).mono ?_
      rintro e u1 ⟨rfl, rfl⟩
      have hHeld : (fun (V : World) => Below w13.heap.size w13 V ∧ (convert 23 9 (.slice cad N ccap)).run Tryd.prog V = .ok (.string (sA ++ sB)) V ∧ (convert 23 9 (.slice aad la acap)).run Tryd.prog V = .ok (.string sA) V ∧ (convert 23 9 (.slice bad n bcap)).run Tryd.prog V = .ok (.string sB) V) u0 := hHeld
      refine hC.out _ _ (fun _ => hHeld) (fun _ => ?_)
      clear hC C
      refine wpAnyZ_take (i := 20) (oi := ⟨_, _, _, _, _, _⟩) (v := ?_) rfl (by kernel_rfl) (by kernel_rfl) (by kernel_rfl) (by kernel_rfl) (by kernel_rfl) (fun _ _ _ h => h) (Or.inl ⟨by rfl, ?_⟩) (by assumption) ?_
      rotate_left
      · intro W hSw
        (try dsimp only at hSw)
        go_simp
        (try with_reducible rfl)
      (try simp only [Act.put, List.setIfInBounds_toArray, List.set_cons_zero, List.set_cons_succ])
      refine wpAnyZ_take (i := 21) (oi := ⟨_, _, _, _, _, _⟩) (v := ?_) rfl (by kernel_rfl) (by kernel_rfl) (by kernel_rfl) (by kernel_rfl) (by kernel_rfl) (fun _ _ _ h => h) (Or.inl ⟨by rfl, ?_⟩) (by assumption) ?_
      rotate_left
      · intro W hSw
        (try dsimp only at hSw)
        go_simp
        (try with_reducible rfl)
      (try simp only [Act.put, List.setIfInBounds_toArray, List.set_cons_zero, List.set_cons_succ])
      refine wpAnyZ_take (i := 22) (oi := ⟨_, _, _, _, _, _⟩) (v := ?_) rfl (by kernel_rfl) (by kernel_rfl) (by kernel_rfl) (by kernel_rfl) (by kernel_rfl) (fun _ _ _ h => h) (Or.inl ⟨by rfl, ?_⟩) (by assumption) ?_
      rotate_left
      · intro W hSw
        (try dsimp only at hSw)
        go_simp
        (try with_reducible rfl)
      (try simp only [Act.put, List.setIfInBounds_toArray, List.set_cons_zero, List.set_cons_succ])
      refine wpAnyZ_ready (rs := [23]) (by kernel_rfl) (by simp) ?_
      refine AllReadyZ.cons (o := ⟨_, _, _, _, _, _⟩) rfl (fun C hC => ?_) AllReadyZ.nil
      go_simp
      refine (known_any u0 (HT.out.keep HO.out.below) (Nat.le_trans h2 HO.out.below.size)).mono ?_
      rintro e u2 ⟨rfl, hb2⟩
      have HBE : Hid (Below W.heap.size W u2) := HO.out.below.trans (hb2.mono HO.out.below.size)
      have HB2 : Hid (Below w13.heap.size w13 u2) := HB0.out.trans (hb2.mono HB0.out.size)
      clear hb2
      have hHeld : (fun (V : World) => Below w13.heap.size w13 V ∧ (convert 23 9 (.slice cad N ccap)).run Tryd.prog V = .ok (.string (sA ++ sB)) V ∧ (convert 23 9 (.slice aad la acap)).run Tryd.prog V = .ok (.string sA) V ∧ (convert 23 9 (.slice bad n bcap)).run Tryd.prog V = .ok (.string sB) V) u2 := KS.out _ HB2.out
      refine hC.out _ _ (fun _ => hHeld) (fun _ => ?_)
      clear hC C
      (try simp only [Act.put, List.setIfInBounds_toArray, List.set_cons_zero, List.set_cons_succ])
      refine wpAnyZ_take (i := 24) (oi := ⟨_, _, _, _, _, _⟩) (v := ?_) rfl (by kernel_rfl) (by kernel_rfl) (by kernel_rfl) (by kernel_rfl) (by kernel_rfl) (fun _ _ _ h => h) (Or.inl ⟨by rfl, ?_⟩) (by assumption) ?_
      rotate_left
      · intro W hSw
        (try dsimp only at hSw)
        go_simp
        (try with_reducible rfl)
      (try simp only [Act.put, List.setIfInBounds_toArray, List.set_cons_zero, List.set_cons_succ])
      refine wpAnyZ_take (i := 25) (oi := ⟨_, _, _, _, _, _⟩) (v := ?_) rfl (by kernel_rfl) (by kernel_rfl) (by kernel_rfl) (by kernel_rfl) (by kernel_rfl) (fun _ _ _ h => h) (Or.inl ⟨by rfl, ?_⟩) (by assumption) ?_
      rotate_left
      · intro W hSw
        (try dsimp only at hSw)
        go_simp
        (try with_reducible rfl)
      (try simp only [Act.put, List.setIfInBounds_toArray, List.set_cons_zero, List.set_cons_succ])
      refine wpAnyZ_done (by kernel_rfl) ?_ _
      refine NoPanic.normal ?_
      go_wp2
      go_ret
      exact ⟨rfl, HBE.out⟩
end Go.Proofs.YtjocfkkcnkpjdaaDoor
