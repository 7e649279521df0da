/- FilesKeep. -/
import Derived.Test.YtjocfkkcnkpjdaaDoorCfKnown
import Derived.Test.YtjocfkkcnkpjdaaDoorRowCut
import Derived.Deep.RegionHeld3
import Derived.Deep.CutRange
namespace Go.Proofs.YtjocfkkcnkpjdaaDoor
open Go.RowKit
open Go.RuneMath
open Go.FsMath
set_option linter.unusedVariables false

def nX : ByteArray := ⟨#[120]⟩
theorem kp1 (A : List Nat) : appendF ⟨[], -1, 0⟩ nX A = (0, ⟨[⟨nX, A, 0⟩], -1, 1⟩) := by kernel_rfl
theorem kp2 (A : List Nat) {L : Nat} (h : A.length = L) : syncF ⟨[⟨nX, A, 0⟩], -1, 1⟩ nX = (0, ⟨[⟨nX, A, L⟩], -1, 2⟩) := by subst h; kernel_rfl
theorem kp3 (A B : List Nat) (L : Nat) : appendF ⟨[⟨nX, A, L⟩], -1, 2⟩ nX B = (0, ⟨[⟨nX, A ++ B, L⟩], -1, 3⟩) := by kernel_rfl
theorem kp4 (f : Fl) (k : Int) (g : Nat) : crashF [f] [k] [g] = [crashOne f k (some g)] := by kernel_rfl
theorem kp5 (C : List Nat) (L : Nat) : readF [⟨nX, C, L⟩] nX = some C := by kernel_rfl
/-- What a crash leaves of A that was kept and B that was not. -/
def leftB (A B : List Nat) (n g : Nat) : List Nat := xorAt (A ++ B.take n) (A.length + (n - 64)) g
theorem left_one (nm : ByteArray) (A B : List Nat) {L n : Nat} (hL : A.length = L) (k : Int) (hn : (n : Int) = max (min k (B.length : Int)) 0) (g : Nat) : crashOne ⟨nm, A ++ B, L⟩ k (some g) = ⟨nm, leftB A B n g, L + n⟩ := by
  subst hL
  have h1 : keepN ⟨nm, A ++ B, A.length⟩ k = n := by
    unfold keepN
    simp only [List.length_append]
    omega
  have hnB : n ≤ B.length := by omega
  have h2 : (A ++ B).take (A.length + n) = A ++ B.take n := by
    rw [List.take_append]
    rw [List.take_of_length_le (by omega), Nat.add_sub_cancel_left]
  have h3 : (A ++ B.take n).length = A.length + n := by rw [List.length_append, List.length_take]; omega
  unfold crashOne leftB
  simp only [h1, h2, h3]
  have h4 : ∀ b s, (xorAt b s g).length = b.length := fun b s => by unfold xorAt; exact List.length_mapIdx
  rw [h4, h3, show max A.length (A.length + n - 64) = A.length + (n - 64) by omega]
theorem left_len (A B : List Nat) {n g : Nat} (hn : n ≤ B.length) : (leftB A B n g).length = A.length + n := by
  unfold leftB xorAt
  rw [List.length_mapIdx, List.length_append, List.length_take]
  omega
theorem left_first (A B : List Nat) (n g : Nat) : (leftB A B n g).take A.length = A := by
  refine List.ext_getElem? fun t => ?_
  rw [List.getElem?_take]
  by_cases ht : t < A.length
  · rw [if_pos ht]
    unfold leftB xorAt
    rw [List.getElem?_mapIdx, List.getElem?_append_left ht, List.getElem?_eq_getElem ht]
    show some (if A.length + (n - 64) ≤ t then _ else _) = _
    rw [if_neg (by omega)]
  · rw [if_neg ht, List.getElem?_eq_none (by omega)]
theorem left_at (A B : List Nat) {n g i x : Nat} (hi : i < n) (hx : B[i]? = some x) : (leftB A B n g)[A.length + i]? = some (if n ≤ i + 64 then x ^^^ g else x) := by
  unfold leftB xorAt
  rw [List.getElem?_mapIdx, List.getElem?_append_right (by omega), Nat.add_sub_cancel_left, List.getElem?_take, if_pos hi, hx]
  show some (if A.length + (n - 64) ≤ A.length + i then _ else _) = _
  by_cases h : n ≤ i + 64
  · rw [if_pos h, if_pos (by omega)]
  · rw [if_neg h, if_neg (by omega)]
theorem leftB_all {A B : List Nat} (hA : AllB A) (hB : AllB B) (n : Nat) {g : Nat} (hg : g < 256) : AllB (leftB A B n g) := by
  have h : AllB (A ++ B.take n) := fun x hx => by
    rcases List.mem_append.1 hx with h1 | h1
    · exact hA x h1
    · exact take_all hB n x h1
  unfold leftB
  rw [← xorTo_end (A ++ B.take n) (A.length + (n - 64)) (A ++ B.take n).length g (Nat.le_refl _)]
  exact xorTo_all h hg
set_option maxRecDepth 100000 in
set_option maxHeartbeats 8000000 in
theorem keep_any (W : World) (aad : Option Addr) (alen acap : Nat) (xs : List Nat) (ha : RowAt byteK W aad alen acap xs) (haa : AllB xs) (bad : Option Addr) (blen bcap : Nat) (bs : List Nat) (hb : RowAt byteK W bad blen bcap bs) (hba : AllB bs)
    (keep : Int) (hk0 : -9223372036854775808 ≤ keep) (hk1 : keep ≤ 9223372036854775807) (g : Nat) (hg : g < 256) (hT : Tabs W) (h2 : 2 ≤ W.heap.size) :
    Calls Tryd.prog 5 #[.slice aad alen acap, .slice bad blen bcap, .int .i64 keep, .int .u8 (g : Int)] W fun e w' => e = .returned (.bool true) ∧ Below W.heap.size W w' := by
  obtain ⟨la, hla⟩ : ∃ l, l = min alen 200 := ⟨_, rfl⟩
  obtain ⟨lb, hlb⟩ : ∃ l, l = min blen 200 := ⟨_, rfl⟩
  obtain ⟨A, hA⟩ : ∃ A, A = xs.take la := ⟨_, rfl⟩
  obtain ⟨B, hB⟩ : ∃ B, B = bs.take lb := ⟨_, rfl⟩
  have HRA : Hid (RowAt byteK W aad la acap A) := by show RowAt _ _ _ _ _ _; rw [hA]; exact ha.take la (by omega)
  have HRB : Hid (RowAt byteK W bad lb bcap B) := by show RowAt _ _ _ _ _ _; rw [hB]; exact hb.take lb (by omega)
  have HAA : Hid (AllB A) := by show AllB _; rw [hA]; exact take_all haa _
  have HBA : Hid (AllB B) := by show AllB _; rw [hB]; exact take_all hba _
  have HLA : Hid (A.length = la) := HRA.out.length
  have HLB : Hid (B.length = lb) := HRB.out.length
  have hal : la ≤ 200 := by omega
  have hbl : lb ≤ 200 := by omega
  have hfa := ha.fits
  have hfb := hb.fits
  have HT := Lib.hid hT
  clear ha hb haa hba hT hA hB
  go_enter Tryd.func5, Tryd.ntmps5
  go_upto_if 17 with fail
  go_cut [0] from 15 (fun s0 wx => s0 = .slice aad la acap ∧ W = wx)
  case first =>
    rcases Nat.lt_or_ge 200 alen with h | h
    · have hd : decide (200 < alen) = true := decide_eq_true h
      have HLV := Lib.hid hla
      clear hla
      have hup : ∀ W, (Instr.slice 23 (.slice aad alen acap) none (some (.int .i64 200)) none).run Tryd.prog W = .ok (.slice aad 200 acap) W := row_upto byteK_ok aad alen acap 200 (by omega)
      obtain rfl : la = 200 := by have := HLV.out; omega
      go_wp2
      go_meet
      case rel => exact ⟨rfl, rfl⟩
    · have hd : decide (200 < alen) = false := decide_eq_false (by omega)
      obtain rfl : la = alen := by omega
      go_wp2
      go_meet
      case rel => exact ⟨rfl, rfl⟩
  case rest =>
    obtain ⟨rfl, rfl⟩ := hcut
    go_upto_if 22 with fail
    go_cut [1] from 15 (fun s1 wx => s1 = .slice bad lb bcap ∧ W = wx)
    case first =>
      rcases Nat.lt_or_ge 200 blen with h | h
      · have hd : decide (200 < blen) = true := decide_eq_true h
        have HLV := Lib.hid hlb
        clear hlb
        have hup : ∀ W, (Instr.slice 23 (.slice bad blen bcap) none (some (.int .i64 200)) none).run Tryd.prog W = .ok (.slice bad 200 bcap) W := row_upto byteK_ok bad blen bcap 200 (by omega)
        obtain rfl : lb = 200 := by have := HLV.out; omega
        go_wp2
        go_meet
        case rel => exact ⟨rfl, rfl⟩
      · have hd : decide (200 < blen) = false := decide_eq_false (by omega)
        obtain rfl : lb = blen := by omega
        go_wp2
        go_meet
        case rel => exact ⟨rfl, rfl⟩
    case rest =>
      obtain ⟨rfl, rfl⟩ := hcut
      clear hla hlb hfa hfb
      have HLT : Hid (∀ a, aad = some a → 0 < la → a.block < W.heap.size) := fun a e h0 => HRA.out.lt h0 a e
      have HLTB : Hid (∀ a, bad = some a → 0 < lb → a.block < W.heap.size) := fun a e h0 => HRB.out.lt h0 a e
      go_wp2_with fail
      refine (oneNew W (Below.refl _ W)).mono ?_
      rintro e w1 ⟨kf, rfl, H1⟩
      go_wp2_with fail
      refine (oneAppend H1.out (num_ok (by decide) (by decide) (by decide) (by decide)) (by decide) nX (by decide) (Below.refl _ _) aad la acap A (HRA.out.keep H1.out.below) HAA.out (fun a e h0 => .inl (HLT.out a e h0)) (fun f hf => by cases hf) (by omega)).mono ?_
      rintro e w2 ⟨rfl, H2⟩
      rw [kp1] at H2
      rw [kp1]
      clear H1
      go_wp2_with fail
      refine (oneSync H2.out (num_ok (by dsimp only; omega) (by dsimp only; omega) (by dsimp only; omega) (by dsimp only; omega)) nX (by decide)).mono ?_
      rintro e w3 ⟨rfl, H3⟩
      rw [kp2 A HLA.out] at H3
      rw [kp2 A HLA.out]
      clear H2
      go_wp2_with fail
      refine (oneAppend H3.out (num_ok (by dsimp only; omega) (by dsimp only; omega) (by dsimp only; omega) (by dsimp only; omega)) (by show (1 : Nat) ≤ _; omega) nX (by decide) (Below.refl _ _) bad lb bcap B (HRB.out.keep H3.out.below) HBA.out (fun a e h0 => .inl (HLTB.out a e h0)) (fun f hf _ => by
        obtain rfl := List.mem_singleton.1 hf
        simp only
        have := HLA.out
        omega) (by omega)).mono ?_
      rintro e w4 ⟨rfl, H4⟩
      rw [kp3] at H4
      rw [kp3]
      clear H3
      go_upto_region 8 with fail
      go_wp2_with fail
      obtain ⟨w5, hw5⟩ : ∃ z, z = (w4.alloc (.cells #[.int .i64 keep] 2)).alloc (.cells #[.int .u8 (g : Int)] 5) := ⟨_, rfl⟩
      obtain ⟨G, hG⟩ : ∃ G, G = w4.heap.size := ⟨_, rfl⟩
      have hz4 : (w4.alloc (.cells #[.int .i64 keep] 2)).heap.size = G + 1 := by rw [hG]; simp
      have HB5 : Hid (Below w4.heap.size w4 w5) := by show Below _ _ _; rw [hw5]; exact (alloc_below _ _).trans ((alloc_below _ _).mono (by rw [hz4]; omega))
      have HK5 : Hid (RowAt keepK w5 (some ⟨G, 0, none⟩) 1 1 [keep]) := by
        show RowAt _ _ _ _ _ _
        rw [hw5, hG]
        exact (rowAt_lit keepK_ok w4 [keep] (by simp) _ rfl 1 rfl).keep (alloc_below _ _)
      have HG5 : Hid (RowAt byteK w5 (some ⟨G + 1, 0, none⟩) 1 1 [g]) := by
        show RowAt _ _ _ _ _ _
        rw [hw5, ← hz4]
        exact lit_bytes _ [g] (by simp) _ rfl 1 rfl
      have HGG : Hid (w4.heap.size ≤ G) := by show _ ≤ _; omega
      rw [← hw5, ← hG]
      clear hw5 hG hz4
      refine (oneCrash H4.out (by show (1 : Nat) ≤ _; omega) HT.out h2 (fun f hf => by
        obtain rfl := List.mem_singleton.1 hf
        simp only [List.length_append]
        have := HLA.out
        have := HLB.out
        omega) HB5.out (some ⟨G, 0, none⟩) 1 1 [keep] HK5.out (fun a ha _ => .inr (.inr (by cases ha; exact HGG.out))) (fun k hk => by obtain rfl := List.mem_singleton.1 hk; exact ⟨hk0, hk1⟩) (some ⟨G + 1, 0, none⟩) 1 1 [g] HG5.out (fun a ha _ => .inr (.inr (by cases ha; have := HGG.out; simp only; omega))) (fun x hx => by obtain rfl := List.mem_singleton.1 hx; exact hg)).mono ?_
      rintro e w6 ⟨rfl, H6⟩
      obtain ⟨n, hn⟩ : ∃ n : Nat, (n : Int) = max (min keep (lb : Int)) 0 := ⟨(max (min keep (lb : Int)) 0).toNat, by omega⟩
      rw [kp4, left_one nX A B HLA.out keep (n := n) (by rw [HLB.out]; exact hn) g] at H6
      have hnl : n ≤ lb := by omega
      obtain ⟨C, hC⟩ : ∃ C, C = leftB A B n g := ⟨_, rfl⟩
      rw [← hC] at H6
      have HCV := Lib.hid hC
      have hcl : C.length = la + n := by rw [hC, left_len A B (by rw [HLB.out]; exact hnl), HLA.out]
      have hca : AllB C := by rw [hC]; exact leftB_all HAA.out HBA.out n hg
      have HCL := Lib.hid hcl
      have HCA := Lib.hid hca
      clear H4 HB5 HK5 HG5 HGG hC hcl hca
      go_wp2_with fail
      refine (oneRead H6.out nX (by decide) (fun f hf => by
        obtain rfl := List.mem_singleton.1 hf
        simp only
        have := HCL.out
        omega)).mono ?_
      rintro e w7 hrd
      rw [kp5] at hrd
      obtain ⟨hb7, cad, ccap, rfl, hr7⟩ := hrd
      obtain ⟨N, hN⟩ : ∃ N, N = la + n := ⟨_, rfl⟩
      rw [HCL.out, ← hN] at hr7
      rw [HCL.out, ← hN]
      have H7 := Lib.hid (H6.out.on hb7.out)
      have HRC := Lib.hid hr7.out.1
      clear H6 hb7 hr7
      obtain ⟨sA, hsA⟩ : ∃ s, s = str A := ⟨_, rfl⟩
      have hNi : (la : Int) + (n : Int) = (N : Int) := by omega
      have hwN : IntKind.i64.wrap (N : Int) = (N : Int) := IntWalk.i64_in _ (by omega)
      have hup : ∀ W, (Instr.slice 23 (.slice cad N ccap) none (some (.int .i64 (la : Int))) none).run Tryd.prog W = .ok (.slice cad la ccap) W := row_upto byteK_ok cad N ccap la (by have := HRC.out.fits; omega)
      have HN := Lib.hid hN
      clear hN
      have KS : Hid (∀ V, Below w7.heap.size w7 V → (convert 23 9 (.slice cad la ccap)).run Tryd.prog V = .ok (.string sA) V ∧ (convert 23 9 (.slice aad la acap)).run Tryd.prog V = .ok (.string sA) V) := by
        intro V hV
        refine ⟨?_, ?_⟩
        · have h1 := (HRC.out.keep hV).take la (by have := HN.out; omega)
          have h3 : C.take la = A := by rw [HCV.out, ← HLA.out]; exact left_first A B n g
          rw [h3] at h1
          exact str_row h1 HAA.out hsA
        · exact str_row (HRA.out.keep (H7.out.below.trans (hV.mono H7.out.below.size))) HAA.out hsA
      clear hsA
      go_upto_region 10 with fail
      go_upto_region 11 with fail
      rw [← hn]
      have HNV := Lib.hid hn
      clear hn
      go_region_held3 (fun V => Below w7.heap.size w7 V ∧ (convert 23 9 (.slice cad la ccap)).run Tryd.prog V = .ok (.string sA) V ∧ (convert 23 9 (.slice aad la acap)).run Tryd.prog V = .ok (.string sA) V) (exact ⟨(Below.refl _ _).drew, KS.out _ (Below.refl _ _).drew⟩) (fail)
      obtain ⟨w8, hw8⟩ : ∃ z, z = w7.drew := ⟨_, rfl⟩
      rw [← hw8]
      have HB8 : Hid (Below w7.heap.size w7 w8) := by show Below _ _ _; rw [hw8]; exact (Below.refl _ _).drew
      have HRB8 : Hid (RowAt byteK w8 bad lb bcap B) := HRB.out.keep (H7.out.below.trans (HB8.out.mono H7.out.below.size))
      have HRC8 : Hid (RowAt byteK w8 cad N ccap C) := HRC.out.keep HB8.out
      have HBW : Hid (Below W.heap.size W w8) := H7.out.below.trans (HB8.out.mono H7.out.below.size)
      have hw64 : IntKind.i64.wrap ((n : Int) - 64) = (n : Int) - 64 := IntWalk.i64_in _ (by omega)
      clear hw8 KS hup hwN
      go_wp2_with fail
      go_loopw [13] (fun v13 wr => ∃ i : Nat, v13 = .int .i64 (i : Int) ∧ i ≤ n ∧ w8 = wr) (fun v13 _ => n - (intOf v13).toNat)
      case atStart => exact ⟨0, rfl, Nat.zero_le _, rfl⟩
      case round =>
        obtain ⟨i, rfl, hi, rfl⟩ := hrel
        by_cases hlt : i < n
        · have hd : decide (i < n) = true := decide_eq_true hlt
          obtain ⟨M, hM⟩ : ∃ M, M = la + i := ⟨_, rfl⟩
          have hMi : (la : Int) + (i : Int) = (M : Int) := by omega
          have hwM : IntKind.i64.wrap (M : Int) = (M : Int) := IntWalk.i64_in _ (by omega)
          have hMN : M < N := by have := HN.out; omega
          obtain ⟨b1, o1, x, e1, _, hx, c1⟩ := byte_get HRB8.out (i := i) (by omega)
          obtain ⟨b2, o2, y, e2, _, hy, c2⟩ := byte_get HRC8.out hMN
          have hx256 : x < 256 := HBA.out x (List.mem_of_getElem? hx)
          have hy2 := left_at A B (g := g) hlt hx
          rw [HLA.out, ← HCV.out, ← hM, hy] at hy2
          have hy3 := Option.some.inj hy2
          have hlbi : i < lb := by omega
          subst e1
          subst e2
          have HM := Lib.hid hM
          clear hx hy hy2 hM
          by_cases h64 : n ≤ i + 64
          · rw [if_pos h64] at hy3
            subst hy3
            have hxo : bits BinOp.xor IntKind.u8 (x : Int) (g : Int) = ((x ^^^ g : Nat) : Int) := u8_xor_nat x g hx256 hg
            have hd2 : decide ((n : Int) - 64 ≤ (i : Int)) = true := decide_eq_true (by omega)
            go_wp2
            go_roundw
            case rel => exact ⟨i + 1, by go_num, by omega, by first | exact rfl | exact trivial⟩
            case measure => simp [intOf]; omega
          · rw [if_neg h64] at hy3
            subst hy3
            have hd2 : decide ((n : Int) - 64 ≤ (i : Int)) = false := decide_eq_false (by omega)
            go_wp2
            go_roundw
            case rel => exact ⟨i + 1, by go_num, by omega, by first | exact rfl | exact trivial⟩
            case measure => simp [intOf]; omega
        · have hd : decide (i < n) = false := decide_eq_false hlt
          go_wp2_with fail
          refine (known_any w8 (HT.out.keep HBW.out) (Nat.le_trans h2 HBW.out.size)).mono ?_
          rintro e w9 ⟨rfl, hb9⟩
          have HB9 := Lib.hid (HBW.out.trans (hb9.mono HBW.out.size))
          clear hb9
          go_wp2
          go_ret
          exact ⟨rfl, HB9.out⟩
end Go.Proofs.YtjocfkkcnkpjdaaDoor
