/- FilesKeep. FilesApart. -/
import Derived.Test.YtjocfkkcnkpjdaaDoorCfKnown
import Derived.Test.YtjocfkkcnkpjdaaDoorRowCut
import Derived.Deep.RegionHeld3
import Derived.Deep.CutRange
import Derived.Test.YtjocfkkcnkpjdaaDoorFlAsk
import Derived.Deep.CutBlock
/-! FilesKeep. -/
namespace Go.Proofs.YtjocfkkcnkpjdaaDoor
open Go.RowKit
open Go.RuneMath
open Go.FsMath
set_option linter.unusedVariables false

def nX : ByteArray := ⟨#[120]⟩
theorem kp1 (A : List Nat) : appendF ⟨[], -1, 0⟩ nX A = (0, ⟨[⟨nX, A, 0⟩], -1, 1⟩) := by kernel_rfl
theorem kp2 (A : List Nat) {L : Nat} (h : A.length = L) : syncF ⟨[⟨nX, A, 0⟩], -1, 1⟩ nX = (0, ⟨[⟨nX, A, L⟩], -1, 2⟩) := by subst h; kernel_rfl
theorem kp3 (A B : List Nat) (L : Nat) : appendF ⟨[⟨nX, A, L⟩], -1, 2⟩ nX B = (0, ⟨[⟨nX, A ++ B, L⟩], -1, 3⟩) := by kernel_rfl
theorem kp4 (f : Fl) (k : Int) (g : Nat) : crashF [f] [k] [g] = [crashOne f k (some g)] := by kernel_rfl
theorem kp5 (C : List Nat) (L : Nat) : readF [⟨nX, C, L⟩] nX = some C := by kernel_rfl
/-- What a crash leaves of A that was kept and B that was not. -/
def leftB (A B : List Nat) (n g : Nat) : List Nat := xorAt (A ++ B.take n) (A.length + (n - 64)) g
theorem left_one (nm : ByteArray) (A B : List Nat) {L n : Nat} (hL : A.length = L) (k : Int) (hn : (n : Int) = max (min k (B.length : Int)) 0) (g : Nat) : crashOne ⟨nm, A ++ B, L⟩ k (some g) = ⟨nm, leftB A B n g, L + n⟩ := by
  subst hL
  have h1 : keepN ⟨nm, A ++ B, A.length⟩ k = n := by
    unfold keepN
    simp only [List.length_append]
    omega
  have hnB : n ≤ B.length := by omega
  have h2 : (A ++ B).take (A.length + n) = A ++ B.take n := by
    rw [List.take_append]
    rw [List.take_of_length_le (by omega), Nat.add_sub_cancel_left]
  have h3 : (A ++ B.take n).length = A.length + n := by rw [List.length_append, List.length_take]; omega
  unfold crashOne leftB
  simp only [h1, h2, h3]
  have h4 : ∀ b s, (xorAt b s g).length = b.length := fun b s => by unfold xorAt; exact List.length_mapIdx
  rw [h4, h3, show max A.length (A.length + n - 64) = A.length + (n - 64) by omega]
theorem left_len (A B : List Nat) {n g : Nat} (hn : n ≤ B.length) : (leftB A B n g).length = A.length + n := by
  unfold leftB xorAt
  rw [List.length_mapIdx, List.length_append, List.length_take]
  omega
theorem left_first (A B : List Nat) (n g : Nat) : (leftB A B n g).take A.length = A := by
  refine List.ext_getElem? fun t => ?_
  rw [List.getElem?_take]
  by_cases ht : t < A.length
  · rw [if_pos ht]
    unfold leftB xorAt
    rw [List.getElem?_mapIdx, List.getElem?_append_left ht, List.getElem?_eq_getElem ht]
    show some (if A.length + (n - 64) ≤ t then _ else _) = _
    rw [if_neg (by omega)]
  · rw [if_neg ht, List.getElem?_eq_none (by omega)]
theorem left_at (A B : List Nat) {n g i x : Nat} (hi : i < n) (hx : B[i]? = some x) : (leftB A B n g)[A.length + i]? = some (if n ≤ i + 64 then x ^^^ g else x) := by
  unfold leftB xorAt
  rw [List.getElem?_mapIdx, List.getElem?_append_right (by omega), Nat.add_sub_cancel_left, List.getElem?_take, if_pos hi, hx]
  show some (if A.length + (n - 64) ≤ A.length + i then _ else _) = _
  by_cases h : n ≤ i + 64
  · rw [if_pos h, if_pos (by omega)]
  · rw [if_neg h, if_neg (by omega)]
theorem leftB_all {A B : List Nat} (hA : AllB A) (hB : AllB B) (n : Nat) {g : Nat} (hg : g < 256) : AllB (leftB A B n g) := by
  have h : AllB (A ++ B.take n) := fun x hx => by
    rcases List.mem_append.1 hx with h1 | h1
    · exact hA x h1
    · exact take_all hB n x h1
  unfold leftB
  rw [← xorTo_end (A ++ B.take n) (A.length + (n - 64)) (A ++ B.take n).length g (Nat.le_refl _)]
  exact xorTo_all h hg
set_option maxRecDepth 100000 in
set_option maxHeartbeats 8000000 in
theorem keep_any (W : World) (aad : Option Addr) (alen acap : Nat) (xs : List Nat) (ha : RowAt byteK W aad alen acap xs) (haa : AllB xs) (bad : Option Addr) (blen bcap : Nat) (bs : List Nat) (hb : RowAt byteK W bad blen bcap bs) (hba : AllB bs)
    (keep : Int) (hk0 : -9223372036854775808 ≤ keep) (hk1 : keep ≤ 9223372036854775807) (g : Nat) (hg : g < 256) (hT : Tabs W) (h2 : 2 ≤ W.heap.size) :
    Calls Tryd.prog 5 #[.slice aad alen acap, .slice bad blen bcap, .int .i64 keep, .int .u8 (g : Int)] W fun e w' => e = .returned (.bool true) ∧ Below W.heap.size W w' := by
  obtain ⟨la, hla⟩ : ∃ l, l = min alen 200 := ⟨_, rfl⟩
  obtain ⟨lb, hlb⟩ : ∃ l, l = min blen 200 := ⟨_, rfl⟩
  obtain ⟨A, hA⟩ : ∃ A, A = xs.take la := ⟨_, rfl⟩
  obtain ⟨B, hB⟩ : ∃ B, B = bs.take lb := ⟨_, rfl⟩
  have HRA : Hid (RowAt byteK W aad la acap A) := by show RowAt _ _ _ _ _ _; rw [hA]; exact ha.take la (by omega)
  have HRB : Hid (RowAt byteK W bad lb bcap B) := by show RowAt _ _ _ _ _ _; rw [hB]; exact hb.take lb (by omega)
  have HAA : Hid (AllB A) := by show AllB _; rw [hA]; exact take_all haa _
  have HBA : Hid (AllB B) := by show AllB _; rw [hB]; exact take_all hba _
  have HLA : Hid (A.length = la) := HRA.out.length
  have HLB : Hid (B.length = lb) := HRB.out.length
  have hal : la ≤ 200 := by omega
  have hbl : lb ≤ 200 := by omega
  have hfa := ha.fits
  have hfb := hb.fits
  have HT := Lib.hid hT
  clear ha hb haa hba hT hA hB
  go_enter Tryd.func5, Tryd.ntmps5
  go_upto_if 17 with fail
  go_cut [0] from 15 (fun s0 wx => s0 = .slice aad la acap ∧ W = wx)
  case first =>
    rcases Nat.lt_or_ge 200 alen with h | h
    · have hd : decide (200 < alen) = true := decide_eq_true h
      have HLV := Lib.hid hla
      clear hla
      have hup : ∀ W, (Instr.slice 23 (.slice aad alen acap) none (some (.int .i64 200)) none).run Tryd.prog W = .ok (.slice aad 200 acap) W := row_upto byteK_ok aad alen acap 200 (by omega)
      obtain rfl : la = 200 := by have := HLV.out; omega
      go_wp2
      go_meet
      case rel => exact ⟨rfl, rfl⟩
    · have hd : decide (200 < alen) = false := decide_eq_false (by omega)
      obtain rfl : la = alen := by omega
      go_wp2
      go_meet
      case rel => exact ⟨rfl, rfl⟩
  case rest =>
    obtain ⟨rfl, rfl⟩ := hcut
    go_upto_if 22 with fail
    go_cut [1] from 15 (fun s1 wx => s1 = .slice bad lb bcap ∧ W = wx)
    case first =>
      rcases Nat.lt_or_ge 200 blen with h | h
      · have hd : decide (200 < blen) = true := decide_eq_true h
        have HLV := Lib.hid hlb
        clear hlb
        have hup : ∀ W, (Instr.slice 23 (.slice bad blen bcap) none (some (.int .i64 200)) none).run Tryd.prog W = .ok (.slice bad 200 bcap) W := row_upto byteK_ok bad blen bcap 200 (by omega)
        obtain rfl : lb = 200 := by have := HLV.out; omega
        go_wp2
        go_meet
        case rel => exact ⟨rfl, rfl⟩
      · have hd : decide (200 < blen) = false := decide_eq_false (by omega)
        obtain rfl : lb = blen := by omega
        go_wp2
        go_meet
        case rel => exact ⟨rfl, rfl⟩
    case rest =>
      obtain ⟨rfl, rfl⟩ := hcut
      clear hla hlb hfa hfb
      have HLT : Hid (∀ a, aad = some a → 0 < la → a.block < W.heap.size) := fun a e h0 => HRA.out.lt h0 a e
      have HLTB : Hid (∀ a, bad = some a → 0 < lb → a.block < W.heap.size) := fun a e h0 => HRB.out.lt h0 a e
      go_wp2_with fail
      refine (oneNew W (Below.refl _ W)).mono ?_
      rintro e w1 ⟨kf, rfl, H1⟩
      go_wp2_with fail
      refine (oneAppend H1.out (num_ok (by decide) (by decide) (by decide) (by decide)) (by decide) nX (by decide) (Below.refl _ _) aad la acap A (HRA.out.keep H1.out.below) HAA.out (fun a e h0 => .inl (HLT.out a e h0)) (fun f hf => by cases hf) (by omega)).mono ?_
      rintro e w2 ⟨rfl, H2⟩
      rw [kp1] at H2
      rw [kp1]
      clear H1
      go_wp2_with fail
      refine (oneSync H2.out (num_ok (by dsimp only; omega) (by dsimp only; omega) (by dsimp only; omega) (by dsimp only; omega)) nX (by decide)).mono ?_
      rintro e w3 ⟨rfl, H3⟩
      rw [kp2 A HLA.out] at H3
      rw [kp2 A HLA.out]
      clear H2
      go_wp2_with fail
      refine (oneAppend H3.out (num_ok (by dsimp only; omega) (by dsimp only; omega) (by dsimp only; omega) (by dsimp only; omega)) (by show (1 : Nat) ≤ _; omega) nX (by decide) (Below.refl _ _) bad lb bcap B (HRB.out.keep H3.out.below) HBA.out (fun a e h0 => .inl (HLTB.out a e h0)) (fun f hf _ => by
        obtain rfl := List.mem_singleton.1 hf
        simp only
        have := HLA.out
        omega) (by omega)).mono ?_
      rintro e w4 ⟨rfl, H4⟩
      rw [kp3] at H4
      rw [kp3]
      clear H3
      go_upto_region 8 with fail
      go_wp2_with fail
      obtain ⟨w5, hw5⟩ : ∃ z, z = (w4.alloc (.cells #[.int .i64 keep] 2)).alloc (.cells #[.int .u8 (g : Int)] 5) := ⟨_, rfl⟩
      obtain ⟨G, hG⟩ : ∃ G, G = w4.heap.size := ⟨_, rfl⟩
      have hz4 : (w4.alloc (.cells #[.int .i64 keep] 2)).heap.size = G + 1 := by rw [hG]; simp
      have HB5 : Hid (Below w4.heap.size w4 w5) := by show Below _ _ _; rw [hw5]; exact (alloc_below _ _).trans ((alloc_below _ _).mono (by rw [hz4]; omega))
      have HK5 : Hid (RowAt keepK w5 (some ⟨G, 0, none⟩) 1 1 [keep]) := by
        show RowAt _ _ _ _ _ _
        rw [hw5, hG]
        exact (rowAt_lit keepK_ok w4 [keep] (by simp) _ rfl 1 rfl).keep (alloc_below _ _)
      have HG5 : Hid (RowAt byteK w5 (some ⟨G + 1, 0, none⟩) 1 1 [g]) := by
        show RowAt _ _ _ _ _ _
        rw [hw5, ← hz4]
        exact lit_bytes _ [g] (by simp) _ rfl 1 rfl
      have HGG : Hid (w4.heap.size ≤ G) := by show _ ≤ _; omega
      rw [← hw5, ← hG]
      clear hw5 hG hz4
      refine (oneCrash H4.out (by show (1 : Nat) ≤ _; omega) HT.out h2 (fun f hf => by
        obtain rfl := List.mem_singleton.1 hf
        simp only [List.length_append]
        have := HLA.out
        have := HLB.out
        omega) HB5.out (some ⟨G, 0, none⟩) 1 1 [keep] HK5.out (fun a ha _ => .inr (.inr (by cases ha; exact HGG.out))) (fun k hk => by obtain rfl := List.mem_singleton.1 hk; exact ⟨hk0, hk1⟩) (some ⟨G + 1, 0, none⟩) 1 1 [g] HG5.out (fun a ha _ => .inr (.inr (by cases ha; have := HGG.out; simp only; omega))) (fun x hx => by obtain rfl := List.mem_singleton.1 hx; exact hg)).mono ?_
      rintro e w6 ⟨rfl, H6⟩
      obtain ⟨n, hn⟩ : ∃ n : Nat, (n : Int) = max (min keep (lb : Int)) 0 := ⟨(max (min keep (lb : Int)) 0).toNat, by omega⟩
      rw [kp4, left_one nX A B HLA.out keep (n := n) (by rw [HLB.out]; exact hn) g] at H6
      have hnl : n ≤ lb := by omega
      obtain ⟨C, hC⟩ : ∃ C, C = leftB A B n g := ⟨_, rfl⟩
      rw [← hC] at H6
      have HCV := Lib.hid hC
      have hcl : C.length = la + n := by rw [hC, left_len A B (by rw [HLB.out]; exact hnl), HLA.out]
      have hca : AllB C := by rw [hC]; exact leftB_all HAA.out HBA.out n hg
      have HCL := Lib.hid hcl
      have HCA := Lib.hid hca
      clear H4 HB5 HK5 HG5 HGG hC hcl hca
      go_wp2_with fail
      refine (oneRead H6.out nX (by decide) (fun f hf => by
        obtain rfl := List.mem_singleton.1 hf
        simp only
        have := HCL.out
        omega)).mono ?_
      rintro e w7 hrd
      rw [kp5] at hrd
      obtain ⟨hb7, cad, ccap, rfl, hr7⟩ := hrd
      obtain ⟨N, hN⟩ : ∃ N, N = la + n := ⟨_, rfl⟩
      rw [HCL.out, ← hN] at hr7
      rw [HCL.out, ← hN]
      have H7 := Lib.hid (H6.out.on hb7.out)
      have HRC := Lib.hid hr7.out.1
      clear H6 hb7 hr7
      obtain ⟨sA, hsA⟩ : ∃ s, s = str A := ⟨_, rfl⟩
      have hNi : (la : Int) + (n : Int) = (N : Int) := by omega
      have hwN : IntKind.i64.wrap (N : Int) = (N : Int) := IntWalk.i64_in _ (by omega)
      have hup : ∀ W, (Instr.slice 23 (.slice cad N ccap) none (some (.int .i64 (la : Int))) none).run Tryd.prog W = .ok (.slice cad la ccap) W := row_upto byteK_ok cad N ccap la (by have := HRC.out.fits; omega)
      have HN := Lib.hid hN
      clear hN
      have KS : Hid (∀ V, Below w7.heap.size w7 V → (convert 23 9 (.slice cad la ccap)).run Tryd.prog V = .ok (.string sA) V ∧ (convert 23 9 (.slice aad la acap)).run Tryd.prog V = .ok (.string sA) V) := by
        intro V hV
        refine ⟨?_, ?_⟩
        · have h1 := (HRC.out.keep hV).take la (by have := HN.out; omega)
          have h3 : C.take la = A := by rw [HCV.out, ← HLA.out]; exact left_first A B n g
          rw [h3] at h1
          exact str_row h1 HAA.out hsA
        · exact str_row (HRA.out.keep (H7.out.below.trans (hV.mono H7.out.below.size))) HAA.out hsA
      clear hsA
      go_upto_region 10 with fail
      go_upto_region 11 with fail
      rw [← hn]
      have HNV := Lib.hid hn
      clear hn
      go_region_held3 (fun V => Below w7.heap.size w7 V ∧ (convert 23 9 (.slice cad la ccap)).run Tryd.prog V = .ok (.string sA) V ∧ (convert 23 9 (.slice aad la acap)).run Tryd.prog V = .ok (.string sA) V) (exact ⟨(Below.refl _ _).drew, KS.out _ (Below.refl _ _).drew⟩) (fail)
      obtain ⟨w8, hw8⟩ : ∃ z, z = w7.drew := ⟨_, rfl⟩
      rw [← hw8]
      have HB8 : Hid (Below w7.heap.size w7 w8) := by show Below _ _ _; rw [hw8]; exact (Below.refl _ _).drew
      have HRB8 : Hid (RowAt byteK w8 bad lb bcap B) := HRB.out.keep (H7.out.below.trans (HB8.out.mono H7.out.below.size))
      have HRC8 : Hid (RowAt byteK w8 cad N ccap C) := HRC.out.keep HB8.out
      have HBW : Hid (Below W.heap.size W w8) := H7.out.below.trans (HB8.out.mono H7.out.below.size)
      have hw64 : IntKind.i64.wrap ((n : Int) - 64) = (n : Int) - 64 := IntWalk.i64_in _ (by omega)
      clear hw8 KS hup hwN
      go_wp2_with fail
      go_loopw [13] (fun v13 wr => ∃ i : Nat, v13 = .int .i64 (i : Int) ∧ i ≤ n ∧ w8 = wr) (fun v13 _ => n - (intOf v13).toNat)
      case atStart => exact ⟨0, rfl, Nat.zero_le _, rfl⟩
      case round =>
        obtain ⟨i, rfl, hi, rfl⟩ := hrel
        by_cases hlt : i < n
        · have hd : decide (i < n) = true := decide_eq_true hlt
          obtain ⟨M, hM⟩ : ∃ M, M = la + i := ⟨_, rfl⟩
          have hMi : (la : Int) + (i : Int) = (M : Int) := by omega
          have hwM : IntKind.i64.wrap (M : Int) = (M : Int) := IntWalk.i64_in _ (by omega)
          have hMN : M < N := by have := HN.out; omega
          obtain ⟨b1, o1, x, e1, _, hx, c1⟩ := byte_get HRB8.out (i := i) (by omega)
          obtain ⟨b2, o2, y, e2, _, hy, c2⟩ := byte_get HRC8.out hMN
          have hx256 : x < 256 := HBA.out x (List.mem_of_getElem? hx)
          have hy2 := left_at A B (g := g) hlt hx
          rw [HLA.out, ← HCV.out, ← hM, hy] at hy2
          have hy3 := Option.some.inj hy2
          have hlbi : i < lb := by omega
          subst e1
          subst e2
          have HM := Lib.hid hM
          clear hx hy hy2 hM
          by_cases h64 : n ≤ i + 64
          · rw [if_pos h64] at hy3
            subst hy3
            have hxo : bits BinOp.xor IntKind.u8 (x : Int) (g : Int) = ((x ^^^ g : Nat) : Int) := u8_xor_nat x g hx256 hg
            have hd2 : decide ((n : Int) - 64 ≤ (i : Int)) = true := decide_eq_true (by omega)
            go_wp2
            go_roundw
            case rel => exact ⟨i + 1, by go_num, by omega, by first | exact rfl | exact trivial⟩
            case measure => simp [intOf]; omega
          · rw [if_neg h64] at hy3
            subst hy3
            have hd2 : decide ((n : Int) - 64 ≤ (i : Int)) = false := decide_eq_false (by omega)
            go_wp2
            go_roundw
            case rel => exact ⟨i + 1, by go_num, by omega, by first | exact rfl | exact trivial⟩
            case measure => simp [intOf]; omega
        · have hd : decide (i < n) = false := decide_eq_false hlt
          go_wp2_with fail
          refine (known_any w8 (HT.out.keep HBW.out) (Nat.le_trans h2 HBW.out.size)).mono ?_
          rintro e w9 ⟨rfl, hb9⟩
          have HB9 := Lib.hid (HBW.out.trans (hb9.mono HBW.out.size))
          clear hb9
          go_wp2
          go_ret
          exact ⟨rfl, HB9.out⟩
end Go.Proofs.YtjocfkkcnkpjdaaDoor

/-! FilesApart. -/
namespace Go.Proofs.YtjocfkkcnkpjdaaDoor
open Go.RowKit
open Go.RuneMath
open Go.FsMath
set_option linter.unusedVariables false

theorem ka1 (A : List Nat) : appendF ⟨[], -1, 0⟩ nZ A = (0, ⟨[⟨nZ, A, 0⟩], -1, 1⟩) := by kernel_rfl
theorem ka2 (A : List Nat) {L : Nat} (h : A.length = L) : syncF ⟨[⟨nZ, A, 0⟩], -1, 1⟩ nZ = (0, ⟨[⟨nZ, A, L⟩], -1, 2⟩) := by subst h; kernel_rfl
theorem read_of {l : List Fl} (h : SortedF l) {f : Fl} (hf : f ∈ l) : readF l f.name = some f.b := by
  unfold readF
  rw [read_mem h hf]
  simp
theorem len_of {l : List Fl} (h : SortedF l) {f : Fl} (hf : f ∈ l) : lenF l f.name = f.b.length := by
  unfold lenF
  rw [read_mem h hf]
  simp
/-- Before ask i. -/
structure ApAt (W wr : World) (X : Nat → Prop) (w1 : World) (kf : Nat) (s : Fs) (i : Nat) (A : List Nat) : Prop where
  one : One W X w1 wr kf s
  sm : Sm s (i + 1) (1048576 * (i + 1)) (2 * i + 2)
  z : (⟨nZ, A, A.length⟩ : Fl) ∈ s.l
theorem ApAt.big {W wr : World} {X : Nat → Prop} {w1 : World} {kf : Nat} {s : Fs} {i : Nat} {A : List Nat} (h : ApAt W wr X w1 kf s i A) (hi : i ≤ 100) : (∀ f ∈ s.l, f.b.length + 1048576 ≤ 140737488355328) ∧ s.l.length ≤ 10000 ∧ FsNum s.left s.done := by
  refine ⟨fun f hf => ?_, ?_, Sm.fsnum h.sm (by omega)⟩
  · have := h.sm.b f hf
    omega
  · have := h.sm.n
    omega
set_option maxRecDepth 100000 in
set_option maxHeartbeats 16000000 in
theorem apart_any (W : World) (aad : Option Addr) (alen acap : Nat) (A : List Nat) (ha : RowAt byteK W aad alen acap A) (haa : AllB A) (hal : alen ≤ 1048576) (bad : Option Addr) (blen bcap : Nat) (B : List Nat) (hb : RowAt byteK W bad blen bcap B) (hba : AllB B) (hbl : blen ≤ 1048576)
    (lad : Option Addr) (len cap : Nat) (l : List Ak) (hl : RowAt askK W lad len cap l) (hin : ∀ x ∈ l, AskIn W x) (hT : Tabs W) (h2 : 2 ≤ W.heap.size) :
    Calls Tryd.prog 8 #[.slice aad alen acap, .slice bad blen bcap, .slice lad len cap] W fun e w' => e = .returned (.bool true) ∧ Below W.heap.size W w' := by
  have HRA := Lib.hid ha
  have HRB := Lib.hid hb
  have HAA := Lib.hid haa
  have HBA := Lib.hid hba
  have HLA : Hid (A.length = alen) := ha.length
  have HLB : Hid (B.length = blen) := hb.length
  have HRL := Lib.hid hl
  have HIN := Lib.hid hin
  have HT := Lib.hid hT
  have HLT : Hid (∀ a, aad = some a → 0 < alen → a.block < W.heap.size) := fun a e h0 => HRA.out.lt h0 a e
  have HLTB : Hid (∀ a, bad = some a → 0 < blen → a.block < W.heap.size) := fun a e h0 => HRB.out.lt h0 a e
  clear ha hb haa hba hT hl hin
  go_enter Tryd.func8, Tryd.ntmps8
  go_wp2_with fail
  refine (oneNew W (Below.refl _ W)).mono ?_
  rintro e w1 ⟨kf, rfl, H1⟩
  go_wp2_with fail
  refine (oneAppend H1.out (num_ok (by decide) (by decide) (by decide) (by decide)) (by decide) nZ (by decide) (Below.refl _ _) aad alen acap A (HRA.out.keep H1.out.below) HAA.out (fun a e h0 => .inl (HLT.out a e h0)) (fun f hf => by cases hf) (by omega)).mono ?_
  rintro e w2 ⟨rfl, H2⟩
  rw [ka1] at H2
  rw [ka1]
  clear H1
  go_wp2_with fail
  refine (oneSync H2.out (num_ok (by dsimp only; omega) (by dsimp only; omega) (by dsimp only; omega) (by dsimp only; omega)) nZ (by decide)).mono ?_
  rintro e w3 ⟨rfl, H3⟩
  rw [ka2 A HLA.out] at H3
  rw [ka2 A HLA.out]
  clear H2
  have HAP : Hid (ApAt W w3 (fun j => j < W.heap.size) W kf ⟨[⟨nZ, A, alen⟩], -1, 2⟩ 0 A) := ⟨H3.out, ⟨by show (1 : Nat) ≤ _; omega, fun f hf => by
    obtain rfl := List.mem_singleton.1 hf
    show A.length ≤ _
    have := HLA.out
    omega, by show (0 : Int) ≤ 2; omega, by show (2 : Int) ≤ _; omega, by show (-1 : Int) ≤ -1; omega, by show (-1 : Int) ≤ _; omega⟩, by rw [HLA.out]; exact List.mem_singleton.2 rfl⟩
  clear H3
  go_wp2_with fail
  go_loopw [8] (fun v8 wr => ∃ (i : Nat) (s : Fs), v8 = .int .i64 (i : Int) ∧ i ≤ 60 ∧ i ≤ len ∧ Hid (ApAt W wr (fun j => j < W.heap.size) W kf s i A)) (fun v8 _ => 60 - (intOf v8).toNat)
  case atStart => exact ⟨0, _, rfl, by omega, by omega, HAP.out⟩
  case round =>
    obtain ⟨i, s, rfl, hi60, hil, HS⟩ := hrel
    obtain ⟨wo, hwo⟩ : ∃ wo : World, wo = wr := ⟨_, rfl⟩
    subst hwo
    clear HAP
    obtain ⟨sA, hsA⟩ : ∃ sA, sA = str A := ⟨_, rfl⟩
    have HSA := Lib.hid hsA
    clear hsA
    by_cases hlt : i < len ∧ i < 60
    · obtain ⟨hlt1, hlt2⟩ := hlt
      have hd1 : decide (i < len) = true := decide_eq_true hlt1
      have hd2 : decide (i < 60) = true := decide_eq_true hlt2
      have hij : (i : Int) < (len : Int) := by omega
      obtain ⟨bl, ol, x, el, hbl2, hx, hat⟩ := ask_get HRL.out hlt1
      have HX := Lib.hid (HIN.out x (List.mem_of_getElem? hx))
      have HAT : Hid (∀ V, Below W.heap.size W V → AskAt V bl (ol + i * 7) x) := fun V hV => hat.on hV hbl2
      have hka0 := HX.out.a0
      have hkb0 := HX.out.b0
      have hkk0 := HX.out.kind0
      subst el
      clear hx hat
      obtain ⟨kd, xa, xb, xn, pad, plen, pcap, ps, kad, klen, kcap, ks, gad, glen, gcap, gs⟩ := x
      simp only at hka0 hkb0 hkk0
      have KS : Hid (∀ V, Below W.heap.size W V → (fun (V : World) => V.cell? ⟨bl, ol + i * 7 + 1, none⟩ = some (.int .i64 xa)) V) := fun V hV => (HAT.out V hV).c1
      have hdrw : Below wo.heap.size wo wo.drew := (Below.refl _ wo).drew
      go_upto_region 7 with fail
      refine wp_region_noPanic ?_
      refine wp_region_z [] (fun (V : World) => V.cell? ⟨bl, ol + i * 7 + 1, none⟩ = some (.int .i64 xa)) (by kernel_rfl) ?_
      have hHeld : (fun (V : World) => V.cell? ⟨bl, ol + i * 7 + 1, none⟩ = some (.int .i64 xa)) _ := KS.out _ (HS.out.one.below.trans (hdrw.mono HS.out.one.below.size))
      obtain ⟨u0, hu0⟩ : ∃ u, u = wo.drew := ⟨_, rfl⟩
      rw [← hu0] at hHeld hdrw
      rw [← hu0]
      clear hu0
      have HO0 : Hid (One W (fun j => j < W.heap.size) W u0 kf s) := HS.out.one.on hdrw
      clear hdrw
      refine wpAnyZ_take (i := 1) (oi := ⟨_, _, _, _, _, _⟩) (v := ?_) rfl (by kernel_rfl) (by kernel_rfl) (by kernel_rfl) (by kernel_rfl) (by kernel_rfl) (fun _ _ _ h => h) (Or.inl ⟨by rfl, ?_⟩) (by assumption) ?_
      rotate_left
      · intro W hSw
        (try dsimp only at hSw)
        go_simp
        (try with_reducible rfl)
      (try simp only [Act.put, List.setIfInBounds_toArray, List.set_cons_zero, List.set_cons_succ])
      refine wpAnyZ_take (i := 2) (oi := ⟨_, _, _, _, _, _⟩) (v := ?_) rfl (by kernel_rfl) (by kernel_rfl) (by kernel_rfl) (by kernel_rfl) (by kernel_rfl) (fun _ _ _ h => h) (Or.inl ⟨by rfl, ?_⟩) (by assumption) ?_
      rotate_left
      · intro W hSw
        (try dsimp only at hSw)
        go_simp
        (try with_reducible rfl)
      (try simp only [Act.put, List.setIfInBounds_toArray, List.set_cons_zero, List.set_cons_succ])
      refine wpAnyZ_take (i := 3) (oi := ⟨_, _, _, _, _, _⟩) (v := ?_) rfl (by kernel_rfl) (by kernel_rfl) (by kernel_rfl) (by kernel_rfl) (by kernel_rfl) (fun _ _ _ h => h) (Or.inl ⟨by rfl, ?_⟩) (by assumption) ?_
      rotate_left
      · intro W hSw
        (try dsimp only at hSw)
        go_simp
        (try with_reducible rfl)
      (try simp only [Act.put, List.setIfInBounds_toArray, List.set_cons_zero, List.set_cons_succ])
      refine wpAnyZ_take (i := 4) (oi := ⟨_, _, _, _, _, _⟩) (v := ?_) rfl (by kernel_rfl) (by kernel_rfl) (by kernel_rfl) (by kernel_rfl) (by kernel_rfl) (fun _ _ _ h => h) (Or.inl ⟨by rfl, ?_⟩) (by assumption) ?_
      rotate_left
      · intro W hSw
        (try dsimp only at hSw)
        go_simp
        (try with_reducible rfl)
      (try simp only [Act.put, List.setIfInBounds_toArray, List.set_cons_zero, List.set_cons_succ])
      refine wpAnyZ_take (i := 5) (oi := ⟨_, _, _, _, _, _⟩) (v := ?_) rfl (by kernel_rfl) (by kernel_rfl) (by kernel_rfl) (by kernel_rfl) (by kernel_rfl) (fun _ _ _ h => h) (Or.inl ⟨by rfl, ?_⟩) (by assumption) ?_
      rotate_left
      · intro W hSw
        (try dsimp only at hSw)
        go_simp
        (try with_reducible rfl)
      (try simp only [Act.put, List.setIfInBounds_toArray, List.set_cons_zero, List.set_cons_succ])
      refine wpAnyZ_ready (rs := [0]) (by kernel_rfl) (by simp) ?_
      refine AllReadyZ.cons (o := ⟨_, _, _, _, _, _⟩) rfl (fun C hC => ?_) AllReadyZ.nil
      go_simp
      refine (names_any u0).mono ?_
      rintro e u1 ⟨gn, rfl, HNM, HNB⟩
      have HO1 : Hid (One W (fun j => j < W.heap.size) W u1 kf s) := HO0.out.on HNB.out.1
      have hHeld : (fun (V : World) => V.cell? ⟨bl, ol + i * 7 + 1, none⟩ = some (.int .i64 xa)) u1 := KS.out _ HO1.out.below
      refine hC.out _ _ (fun _ => hHeld) (fun _ => ?_)
      clear hC C
      (try simp only [Act.put, List.setIfInBounds_toArray, List.set_cons_zero, List.set_cons_succ])
      refine wpAnyZ_ready (rs := [6]) (by kernel_rfl) (by simp) ?_
      refine AllReadyZ.cons (o := ⟨_, _, _, _, _, _⟩) rfl (fun C hC => ?_) AllReadyZ.nil
      go_simp
      refine (within_any xa 3 u1 hka0 (by omega)).mono ?_
      rintro e u2 ⟨kn, rfl, hkn, rfl⟩
      obtain ⟨sn, hsn, hsz, hne⟩ := nm_at (k := kn) (by omega)
      have hc : u1.cell? ⟨gn, kn, none⟩ = some (.string sn) := HNM.out kn sn hsn
      have HNE : Hid (nZ ≠ sn) := hne (by omega)
      have hkn7 : (kn : Int) < 7 := by omega
      have hHeld : (fun (V : World) => V.cell? ⟨bl, ol + i * 7 + 1, none⟩ = some (.int .i64 xa)) u1 := hHeld
      refine hC.out _ _ (fun _ => hHeld) (fun _ => ?_)
      clear hC C
      (try simp only [Act.put, List.setIfInBounds_toArray, List.set_cons_zero, List.set_cons_succ])
      refine wpAnyZ_strengthen (S' := (fun (V : World) => V.cell? ⟨bl, ol + i * 7 + 1, none⟩ = some (.int .i64 xa) ∧ V.cell? ⟨gn, kn, none⟩ = some (.string sn))) (fun V h => h.1) _ _ _ _ ?_
      clear hHeld
      have hHeld : (fun (V : World) => V.cell? ⟨bl, ol + i * 7 + 1, none⟩ = some (.int .i64 xa) ∧ V.cell? ⟨gn, kn, none⟩ = some (.string sn)) u1 := ⟨KS.out _ HO1.out.below, hc⟩
      refine wpAnyZ_take (i := 7) (oi := ⟨_, _, _, _, _, _⟩) (v := ?_) rfl (by kernel_rfl) (by kernel_rfl) (by kernel_rfl) (by kernel_rfl) (by kernel_rfl) (fun _ _ _ h => h) (Or.inl ⟨by rfl, ?_⟩) (by assumption) ?_
      rotate_left
      · intro W hSw
        (try dsimp only at hSw)
        go_simp
        (try with_reducible rfl)
      (try simp only [Act.put, List.setIfInBounds_toArray, List.set_cons_zero, List.set_cons_succ])
      refine wpAnyZ_take (i := 8) (oi := ⟨_, _, _, _, _, _⟩) (v := ?_) rfl (by kernel_rfl) (by kernel_rfl) (by kernel_rfl) (by kernel_rfl) (by kernel_rfl) (fun _ _ _ h => h) (Or.inl ⟨by rfl, ?_⟩) (by assumption) ?_
      rotate_left
      · intro W hSw
        (try dsimp only at hSw)
        go_simp
        (try with_reducible rfl)
      (try simp only [Act.put, List.setIfInBounds_toArray, List.set_cons_zero, List.set_cons_succ])
      refine wpAnyZ_take (i := 9) (oi := ⟨_, _, _, _, _, _⟩) (v := ?_) rfl (by kernel_rfl) (by kernel_rfl) (by kernel_rfl) (by kernel_rfl) (by kernel_rfl) (fun _ _ _ h => h) (Or.inl ⟨by rfl, ?_⟩) (by assumption) ?_
      rotate_left
      · intro W hSw
        (try dsimp only at hSw)
        go_simp
        (try with_reducible rfl)
      (try simp only [Act.put, List.setIfInBounds_toArray, List.set_cons_zero, List.set_cons_succ])
      refine wpAnyZ_done (by kernel_rfl) ?_ _
      refine NoPanic.normal ?_
      clear hHeld hc HNM HNB HO0 hsn hne
      obtain ⟨u2, hu2⟩ : ∃ u, u = u1 := ⟨_, rfl⟩
      subst hu2
      have HB2 : Hid (Below W.heap.size W u2) := HO1.out.below
      go_upto_region 8 with fail
      have t0 := (HAT.out u2 HB2.out).c0
      go_wp2_with fail
      refine (within_any kd 5 u2 hkk0 (by omega)).mono ?_
      rintro e u3 ⟨kk, rfl, hkk, rfl⟩
      clear t0
      have HS2 : Hid (ApAt W u2 (fun j => j < W.heap.size) W kf s i A) := ⟨HO1.out, HS.out.sm, HS.out.z⟩
      clear HS HO1 KS
      go_upto_block 2 with fail
      go_cut [] from 26 to 112 (fun wx => ∃ s2, Hid (ApAt W wx (fun j => j < W.heap.size) W kf s2 (i + 1) A))
      case first =>
        have hk6 : kk = 0 ∨ kk = 1 ∨ kk = 2 ∨ kk = 3 ∨ kk = 4 ∨ kk = 5 := by omega
        obtain ⟨hbig, hlen, hnum⟩ := HS2.out.big (by omega)
        have HBIG := Lib.hid hbig
        clear hbig
        rcases hk6 with rfl | rfl | rfl | rfl | rfl | rfl
        · have t3 := (HAT.out u2 HB2.out).c3
          go_wp2_with fail
          refine (oneTruncate HS2.out.one hnum sn hsz _).mono ?_
          rintro e u3 ⟨rfl, H3⟩
          go_wp2
          go_meet
          case rel => exact ⟨_, H3.out, (HS2.out.sm.trunc sn _).more (by omega) (by omega) (by omega), stay_trunc HS2.out.z HNE.out⟩
        · have KS2 : Hid (∀ V, Below W.heap.size W V → (fun (V : World) => V.cell? ⟨bl, ol + i * 7 + 2, none⟩ = some (.int .i64 xb)) V) := fun V hV => (HAT.out V hV).c2
          have hdrw : Below u2.heap.size u2 u2.drew := (Below.refl _ u2).drew
          go_upto_region 13 with fail
          refine wp_region_noPanic ?_
          refine wp_region_z [] (fun (V : World) => V.cell? ⟨bl, ol + i * 7 + 2, none⟩ = some (.int .i64 xb)) (by kernel_rfl) ?_
          have hHeld : (fun (V : World) => V.cell? ⟨bl, ol + i * 7 + 2, none⟩ = some (.int .i64 xb)) _ := KS2.out _ (HB2.out.trans (hdrw.mono HB2.out.size))
          obtain ⟨u0, hu0⟩ : ∃ u, u = u2.drew := ⟨_, rfl⟩
          rw [← hu0] at hHeld hdrw
          rw [← hu0]
          clear hu0
          have HO0 : Hid (One W (fun j => j < W.heap.size) W u0 kf s) := HS2.out.one.on hdrw
          clear hdrw
          refine wpAnyZ_take (i := 0) (oi := ⟨_, _, _, _, _, _⟩) (v := ?_) rfl (by kernel_rfl) (by kernel_rfl) (by kernel_rfl) (by kernel_rfl) (by kernel_rfl) (fun _ _ _ h => h) (Or.inl ⟨by rfl, ?_⟩) (by assumption) ?_
          rotate_left
          · intro W hSw
            (try dsimp only at hSw)
            go_simp
            (try with_reducible rfl)
          (try simp only [Act.put, List.setIfInBounds_toArray, List.set_cons_zero, List.set_cons_succ])
          refine wpAnyZ_take (i := 1) (oi := ⟨_, _, _, _, _, _⟩) (v := ?_) rfl (by kernel_rfl) (by kernel_rfl) (by kernel_rfl) (by kernel_rfl) (by kernel_rfl) (fun _ _ _ h => h) (Or.inl ⟨by rfl, ?_⟩) (by assumption) ?_
          rotate_left
          · intro W hSw
            (try dsimp only at hSw)
            go_simp
            (try with_reducible rfl)
          (try simp only [Act.put, List.setIfInBounds_toArray, List.set_cons_zero, List.set_cons_succ])
          refine wpAnyZ_take (i := 3) (oi := ⟨_, _, _, _, _, _⟩) (v := ?_) rfl (by kernel_rfl) (by kernel_rfl) (by kernel_rfl) (by kernel_rfl) (by kernel_rfl) (fun _ _ _ h => h) (Or.inl ⟨by rfl, ?_⟩) (by assumption) ?_
          rotate_left
          · intro W hSw
            (try dsimp only at hSw)
            go_simp
            (try with_reducible rfl)
          (try simp only [Act.put, List.setIfInBounds_toArray, List.set_cons_zero, List.set_cons_succ])
          refine wpAnyZ_take (i := 4) (oi := ⟨_, _, _, _, _, _⟩) (v := ?_) rfl (by kernel_rfl) (by kernel_rfl) (by kernel_rfl) (by kernel_rfl) (by kernel_rfl) (fun _ _ _ h => h) (Or.inl ⟨by rfl, ?_⟩) (by assumption) ?_
          rotate_left
          · intro W hSw
            (try dsimp only at hSw)
            go_simp
            (try with_reducible rfl)
          (try simp only [Act.put, List.setIfInBounds_toArray, List.set_cons_zero, List.set_cons_succ])
          refine wpAnyZ_take (i := 5) (oi := ⟨_, _, _, _, _, _⟩) (v := ?_) rfl (by kernel_rfl) (by kernel_rfl) (by kernel_rfl) (by kernel_rfl) (by kernel_rfl) (fun _ _ _ h => h) (Or.inl ⟨by rfl, ?_⟩) (by assumption) ?_
          rotate_left
          · intro W hSw
            (try dsimp only at hSw)
            go_simp
            (try with_reducible rfl)
          (try simp only [Act.put, List.setIfInBounds_toArray, List.set_cons_zero, List.set_cons_succ])
          refine wpAnyZ_take (i := 6) (oi := ⟨_, _, _, _, _, _⟩) (v := ?_) rfl (by kernel_rfl) (by kernel_rfl) (by kernel_rfl) (by kernel_rfl) (by kernel_rfl) (fun _ _ _ h => h) (Or.inl ⟨by rfl, ?_⟩) (by assumption) ?_
          rotate_left
          · intro W hSw
            (try dsimp only at hSw)
            go_simp
            (try with_reducible rfl)
          (try simp only [Act.put, List.setIfInBounds_toArray, List.set_cons_zero, List.set_cons_succ])
          refine wpAnyZ_take (i := 7) (oi := ⟨_, _, _, _, _, _⟩) (v := ?_) rfl (by kernel_rfl) (by kernel_rfl) (by kernel_rfl) (by kernel_rfl) (by kernel_rfl) (fun _ _ _ h => h) (Or.inl ⟨by rfl, ?_⟩) (by assumption) ?_
          rotate_left
          · intro W hSw
            (try dsimp only at hSw)
            go_simp
            (try with_reducible rfl)
          (try simp only [Act.put, List.setIfInBounds_toArray, List.set_cons_zero, List.set_cons_succ])
          refine wpAnyZ_ready (rs := [2]) (by kernel_rfl) (by simp) ?_
          refine AllReadyZ.cons (o := ⟨_, _, _, _, _, _⟩) rfl (fun C hC => ?_) AllReadyZ.nil
          go_simp
          refine (names_any u0).mono ?_
          rintro e u3 ⟨gm, rfl, HNM, HNB⟩
          have HO3 : Hid (One W (fun j => j < W.heap.size) W u3 kf s) := HO0.out.on HNB.out.1
          obtain ⟨Y, hy, _, hyn⟩ := HO0.out.held HNB.out.1
          have HY := Lib.hid hy
          have HYG : Hid (Y gm) := hyn gm HNB.out.2.1 HNB.out.2.2
          clear hy hyn
          have hHeld : (fun (V : World) => V.cell? ⟨bl, ol + i * 7 + 2, none⟩ = some (.int .i64 xb)) u3 := KS2.out _ HO3.out.below
          refine hC.out _ _ (fun _ => hHeld) (fun _ => ?_)
          clear hC C
          (try simp only [Act.put, List.setIfInBounds_toArray, List.set_cons_zero, List.set_cons_succ])
          refine wpAnyZ_ready (rs := [8]) (by kernel_rfl) (by simp) ?_
          refine AllReadyZ.cons (o := ⟨_, _, _, _, _, _⟩) rfl (fun C hC => ?_) AllReadyZ.nil
          go_simp
          refine (within_any xb 3 u3 hkb0 (by omega)).mono ?_
          rintro e u4 ⟨km, rfl, hkm, rfl⟩
          obtain ⟨sm, hsm, hsmz, hne2⟩ := nm_at (k := km) (by omega)
          have hc : u3.cell? ⟨gm, km, none⟩ = some (.string sm) := HNM.out km sm hsm
          have HNE2 : Hid (nZ ≠ sm) := hne2 (by omega)
          have hkm7 : (km : Int) < 7 := by omega
          have hHeld : (fun (V : World) => V.cell? ⟨bl, ol + i * 7 + 2, none⟩ = some (.int .i64 xb)) u3 := hHeld
          refine hC.out _ _ (fun _ => hHeld) (fun _ => ?_)
          clear hC C
          (try simp only [Act.put, List.setIfInBounds_toArray, List.set_cons_zero, List.set_cons_succ])
          refine wpAnyZ_strengthen (S' := (fun (V : World) => V.cell? ⟨bl, ol + i * 7 + 2, none⟩ = some (.int .i64 xb) ∧ V.cell? ⟨gm, km, none⟩ = some (.string sm))) (fun V h => h.1) _ _ _ _ ?_
          clear hHeld
          have hHeld : (fun (V : World) => V.cell? ⟨bl, ol + i * 7 + 2, none⟩ = some (.int .i64 xb) ∧ V.cell? ⟨gm, km, none⟩ = some (.string sm)) u3 := ⟨KS2.out _ HO3.out.below, hc⟩
          refine wpAnyZ_take (i := 9) (oi := ⟨_, _, _, _, _, _⟩) (v := ?_) rfl (by kernel_rfl) (by kernel_rfl) (by kernel_rfl) (by kernel_rfl) (by kernel_rfl) (fun _ _ _ h => h) (Or.inl ⟨by rfl, ?_⟩) (by assumption) ?_
          rotate_left
          · intro W hSw
            (try dsimp only at hSw)
            go_simp
            (try with_reducible rfl)
          (try simp only [Act.put, List.setIfInBounds_toArray, List.set_cons_zero, List.set_cons_succ])
          refine wpAnyZ_take (i := 10) (oi := ⟨_, _, _, _, _, _⟩) (v := ?_) rfl (by kernel_rfl) (by kernel_rfl) (by kernel_rfl) (by kernel_rfl) (by kernel_rfl) (fun _ _ _ h => h) (Or.inl ⟨by rfl, ?_⟩) (by assumption) ?_
          rotate_left
          · intro W hSw
            (try dsimp only at hSw)
            go_simp
            (try with_reducible rfl)
          (try simp only [Act.put, List.setIfInBounds_toArray, List.set_cons_zero, List.set_cons_succ])
          refine wpAnyZ_ready (rs := [11]) (by kernel_rfl) (by simp) ?_
          refine AllReadyZ.cons (o := ⟨_, _, _, _, _, _⟩) rfl (fun C hC => ?_) AllReadyZ.nil
          go_simp
          refine (oneRename HY.out hnum hlen sn hsz sm hsmz).mono ?_
          rintro e u5 ⟨rfl, H5⟩
          have hc5 : u5.cell? ⟨gm, km, none⟩ = some (.string sm) := H5.out.cell HYG.out hc
          have hHeld : (fun (V : World) => V.cell? ⟨bl, ol + i * 7 + 2, none⟩ = some (.int .i64 xb) ∧ V.cell? ⟨gm, km, none⟩ = some (.string sm)) u5 := ⟨KS2.out _ H5.out.below, hc5⟩
          refine hC.out _ _ (fun _ => hHeld) (fun _ => ?_)
          clear hC C
          (try simp only [Act.put, List.setIfInBounds_toArray, List.set_cons_zero, List.set_cons_succ])
          refine wpAnyZ_done (by kernel_rfl) ?_ _
          refine NoPanic.normal ?_
          go_wp2
          go_meet
          case rel => exact ⟨_, H5.out.reset, (HS2.out.sm.rename sn _).more (by omega) (by omega) (by omega), stay_rename HS2.out.z HNE.out HNE2.out⟩
        · go_wp2_with fail
          refine (oneRemove HS2.out.one hnum sn hsz).mono ?_
          rintro e u3 ⟨rfl, H3⟩
          go_wp2
          go_meet
          case rel => exact ⟨_, H3.out, (HS2.out.sm.remove sn).more (by omega) (by omega) (by omega), stay_remove HS2.out.z HNE.out⟩
        · have KS2 : Hid (∀ V, Below W.heap.size W V → (fun (V : World) => V.cell? ⟨bl, ol + i * 7 + 5, none⟩ = some (.slice kad klen kcap) ∧ V.cell? ⟨bl, ol + i * 7 + 6, none⟩ = some (.slice gad glen gcap)) V) := fun V hV => ⟨(HAT.out V hV).c5, (HAT.out V hV).c6⟩
          have hdrw : Below u2.heap.size u2 u2.drew := (Below.refl _ u2).drew
          go_upto_region 17 with fail
          refine wp_region_noPanic ?_
          refine wp_region_z [] (fun (V : World) => V.cell? ⟨bl, ol + i * 7 + 5, none⟩ = some (.slice kad klen kcap) ∧ V.cell? ⟨bl, ol + i * 7 + 6, none⟩ = some (.slice gad glen gcap)) (by kernel_rfl) ?_
          have hHeld : (fun (V : World) => V.cell? ⟨bl, ol + i * 7 + 5, none⟩ = some (.slice kad klen kcap) ∧ V.cell? ⟨bl, ol + i * 7 + 6, none⟩ = some (.slice gad glen gcap)) _ := KS2.out _ (HB2.out.trans (hdrw.mono HB2.out.size))
          obtain ⟨u0, hu0⟩ : ∃ u, u = u2.drew := ⟨_, rfl⟩
          rw [← hu0] at hHeld hdrw
          rw [← hu0]
          clear hu0
          have HO0 : Hid (One W (fun j => j < W.heap.size) W u0 kf s) := HS2.out.one.on hdrw
          clear hdrw
          refine wpAnyZ_take (i := 0) (oi := ⟨_, _, _, _, _, _⟩) (v := ?_) rfl (by kernel_rfl) (by kernel_rfl) (by kernel_rfl) (by kernel_rfl) (by kernel_rfl) (fun _ _ _ h => h) (Or.inl ⟨by rfl, ?_⟩) (by assumption) ?_
          rotate_left
          · intro W hSw
            (try dsimp only at hSw)
            go_simp
            (try with_reducible rfl)
          (try simp only [Act.put, List.setIfInBounds_toArray, List.set_cons_zero, List.set_cons_succ])
          refine wpAnyZ_take (i := 1) (oi := ⟨_, _, _, _, _, _⟩) (v := ?_) rfl (by kernel_rfl) (by kernel_rfl) (by kernel_rfl) (by kernel_rfl) (by kernel_rfl) (fun _ _ _ h => h) (Or.inl ⟨by rfl, ?_⟩) (by assumption) ?_
          rotate_left
          · intro W hSw
            (try dsimp only at hSw)
            go_simp
            (try with_reducible rfl)
          (try simp only [Act.put, List.setIfInBounds_toArray, List.set_cons_zero, List.set_cons_succ])
          refine wpAnyZ_take (i := 2) (oi := ⟨_, _, _, _, _, _⟩) (v := ?_) rfl (by kernel_rfl) (by kernel_rfl) (by kernel_rfl) (by kernel_rfl) (by kernel_rfl) (fun _ _ _ h => h) (Or.inl ⟨by rfl, ?_⟩) (by assumption) ?_
          rotate_left
          · intro W hSw
            (try dsimp only at hSw)
            go_simp
            (try with_reducible rfl)
          (try simp only [Act.put, List.setIfInBounds_toArray, List.set_cons_zero, List.set_cons_succ])
          refine wpAnyZ_take (i := 3) (oi := ⟨_, _, _, _, _, _⟩) (v := ?_) rfl (by kernel_rfl) (by kernel_rfl) (by kernel_rfl) (by kernel_rfl) (by kernel_rfl) (fun _ _ _ h => h) (Or.inl ⟨by rfl, ?_⟩) (by assumption) ?_
          rotate_left
          · intro W hSw
            (try dsimp only at hSw)
            go_simp
            (try with_reducible rfl)
          (try simp only [Act.put, List.setIfInBounds_toArray, List.set_cons_zero, List.set_cons_succ])
          refine wpAnyZ_take (i := 4) (oi := ⟨_, _, _, _, _, _⟩) (v := ?_) rfl (by kernel_rfl) (by kernel_rfl) (by kernel_rfl) (by kernel_rfl) (by kernel_rfl) (fun _ _ _ h => h) (Or.inl ⟨by rfl, ?_⟩) (by assumption) ?_
          rotate_left
          · intro W hSw
            (try dsimp only at hSw)
            go_simp
            (try with_reducible rfl)
          (try simp only [Act.put, List.setIfInBounds_toArray, List.set_cons_zero, List.set_cons_succ])
          refine wpAnyZ_take (i := 5) (oi := ⟨_, _, _, _, _, _⟩) (v := ?_) rfl (by kernel_rfl) (by kernel_rfl) (by kernel_rfl) (by kernel_rfl) (by kernel_rfl) (fun _ _ _ h => h) (Or.inl ⟨by rfl, ?_⟩) (by assumption) ?_
          rotate_left
          · intro W hSw
            (try dsimp only at hSw)
            go_simp
            (try with_reducible rfl)
          (try simp only [Act.put, List.setIfInBounds_toArray, List.set_cons_zero, List.set_cons_succ])
          refine wpAnyZ_take (i := 6) (oi := ⟨_, _, _, _, _, _⟩) (v := ?_) rfl (by kernel_rfl) (by kernel_rfl) (by kernel_rfl) (by kernel_rfl) (by kernel_rfl) (fun _ _ _ h => h) (Or.inl ⟨by rfl, ?_⟩) (by assumption) ?_
          rotate_left
          · intro W hSw
            (try dsimp only at hSw)
            go_simp
            (try with_reducible rfl)
          (try simp only [Act.put, List.setIfInBounds_toArray, List.set_cons_zero, List.set_cons_succ])
          refine wpAnyZ_take (i := 7) (oi := ⟨_, _, _, _, _, _⟩) (v := ?_) rfl (by kernel_rfl) (by kernel_rfl) (by kernel_rfl) (by kernel_rfl) (by kernel_rfl) (fun _ _ _ h => h) (Or.inl ⟨by rfl, ?_⟩) (by assumption) ?_
          rotate_left
          · intro W hSw
            (try dsimp only at hSw)
            go_simp
            (try with_reducible rfl)
          (try simp only [Act.put, List.setIfInBounds_toArray, List.set_cons_zero, List.set_cons_succ])
          refine wpAnyZ_take (i := 8) (oi := ⟨_, _, _, _, _, _⟩) (v := ?_) rfl (by kernel_rfl) (by kernel_rfl) (by kernel_rfl) (by kernel_rfl) (by kernel_rfl) (fun _ _ _ h => h) (Or.inl ⟨by rfl, ?_⟩) (by assumption) ?_
          rotate_left
          · intro W hSw
            (try dsimp only at hSw)
            go_simp
            (try with_reducible rfl)
          (try simp only [Act.put, List.setIfInBounds_toArray, List.set_cons_zero, List.set_cons_succ])
          refine wpAnyZ_take (i := 9) (oi := ⟨_, _, _, _, _, _⟩) (v := ?_) rfl (by kernel_rfl) (by kernel_rfl) (by kernel_rfl) (by kernel_rfl) (by kernel_rfl) (fun _ _ _ h => h) (Or.inl ⟨by rfl, ?_⟩) (by assumption) ?_
          rotate_left
          · intro W hSw
            (try dsimp only at hSw)
            go_simp
            (try with_reducible rfl)
          (try simp only [Act.put, List.setIfInBounds_toArray, List.set_cons_zero, List.set_cons_succ])
          refine wpAnyZ_take (i := 10) (oi := ⟨_, _, _, _, _, _⟩) (v := ?_) rfl (by kernel_rfl) (by kernel_rfl) (by kernel_rfl) (by kernel_rfl) (by kernel_rfl) (fun _ _ _ h => h) (Or.inl ⟨by rfl, ?_⟩) (by assumption) ?_
          rotate_left
          · intro W hSw
            (try dsimp only at hSw)
            go_simp
            (try with_reducible rfl)
          (try simp only [Act.put, List.setIfInBounds_toArray, List.set_cons_zero, List.set_cons_succ])
          refine wpAnyZ_ready (rs := [11]) (by kernel_rfl) (by simp) ?_
          refine AllReadyZ.cons (o := ⟨_, _, _, _, _, _⟩) rfl (fun C hC => ?_) AllReadyZ.nil
          go_simp
          refine (oneCrash HO0.out hlen HT.out h2 (fun f hf => by have := HBIG.out f hf; omega) (Below.refl _ _) kad klen kcap ks (HX.out.k.keep HO0.out.below) (fun a e h0 => .inl (HX.out.k.lt h0 a e)) HX.out.ki gad glen gcap gs (HX.out.g.keep HO0.out.below) (fun a e h0 => .inl (HX.out.g.lt h0 a e)) HX.out.ga).mono ?_
          rintro e u5 ⟨rfl, H5⟩
          have hHeld : (fun (V : World) => V.cell? ⟨bl, ol + i * 7 + 5, none⟩ = some (.slice kad klen kcap) ∧ V.cell? ⟨bl, ol + i * 7 + 6, none⟩ = some (.slice gad glen gcap)) u5 := KS2.out _ H5.out.below
          refine hC.out _ _ (fun _ => hHeld) (fun _ => ?_)
          clear hC C
          (try simp only [Act.put, List.setIfInBounds_toArray, List.set_cons_zero, List.set_cons_succ])
          refine wpAnyZ_done (by kernel_rfl) ?_ _
          refine NoPanic.normal ?_
          go_wp2
          go_meet
          case rel => exact ⟨_, H5.out, (HS2.out.sm.crash _ _).more (by omega) (by omega) (by omega), stay_crash HS2.out.z rfl _ _⟩
        · go_wp2_with fail
          refine (oneAppend HS2.out.one hnum hlen sn hsz (Below.refl _ _) bad blen bcap B (HRB.out.keep HB2.out) HBA.out (fun a e h0 => .inl (HLTB.out a e h0)) (fun f hf _ => by have := HBIG.out f hf; omega) (by omega)).mono ?_
          rintro e u3 ⟨rfl, H3⟩
          go_wp2
          go_meet
          case rel => exact ⟨_, H3.out, (HS2.out.sm.append sn _).more (by omega) (by have := HLB.out; omega) (by omega), stay_append HS2.out.z HNE.out⟩
        · go_wp2_with fail
          refine (oneAppend HS2.out.one hnum hlen sn hsz (Below.refl _ _) bad blen bcap B (HRB.out.keep HB2.out) HBA.out (fun a e h0 => .inl (HLTB.out a e h0)) (fun f hf _ => by have := HBIG.out f hf; omega) (by omega)).mono ?_
          rintro e u3 ⟨rfl, H3⟩
          go_wp2
          go_meet
          case rel => exact ⟨_, H3.out, (HS2.out.sm.append sn _).more (by omega) (by have := HLB.out; omega) (by omega), stay_append HS2.out.z HNE.out⟩
      case rest =>
        obtain ⟨s2, HS3⟩ := hcut
        clear HS2 HB2 HNE
        obtain ⟨hbig, hlen, hnum⟩ := HS3.out.big (by omega)
        have hrd0 := read_of HS3.out.one.sorted HS3.out.z
        have HRD : Hid (readF s2.l nZ = some A) := hrd0
        clear hrd0
        go_wp2_with fail
        refine (oneRead HS3.out.one nZ (by decide) (fun f hf => by have := hbig f hf; omega)).mono ?_
        rintro e w5 hrd
        rw [HRD.out] at hrd
        obtain ⟨hb5, cad, ccap, rfl, hr5⟩ := hrd
        have H5 : Hid (ApAt W w5 (fun j => j < W.heap.size) W kf s2 (i + 1) A) := ⟨HS3.out.one.on hb5.out, HS3.out.sm, HS3.out.z⟩
        have hc1 : (convert 23 9 (.slice cad A.length ccap)).run Tryd.prog w5 = .ok (.string sA) w5 := str_row hr5.out.1 HAA.out HSA.out
        have hc2 : (convert 23 9 (.slice aad alen acap)).run Tryd.prog w5 = .ok (.string sA) w5 := str_row (HRA.out.keep H5.out.one.below) HAA.out HSA.out
        clear HS3 hb5 hr5 hbig hlen hnum
        go_wp2
        go_roundw
        case rel => exact ⟨i + 1, s2, by go_num, by omega, by omega, H5.out⟩
        case measure => simp [intOf]; omega
    · have HE : Hid (¬ (i < len ∧ i < 60)) := hlt
      have hln := len_of HS.out.one.sorted HS.out.z
      have HLN : Hid (lenF s.l nZ = alen) := by show _ = _; rw [← HLA.out]; exact hln
      clear hln
      have hrest : ∀ (q : Bool), True := fun _ => trivial
      by_cases hd : i < len
      · have hd1 : decide (i < len) = true := decide_eq_true hd
        obtain rfl : i = 60 := by have := HE.out; omega
        clear hlt
        go_wp2_with fail
        refine (oneLen HS.out.one nZ (by decide)).mono ?_
        rintro e w5 ⟨rfl, rfl⟩
        rw [HLN.out]
        go_wp2_with fail
        refine (known_any wo (HT.out.keep HS.out.one.below) (Nat.le_trans h2 HS.out.one.below.size)).mono ?_
        rintro e w9 ⟨rfl, hb9⟩
        have HB9 := Lib.hid (HS.out.one.below.trans (hb9.mono HS.out.one.below.size))
        clear hb9
        go_wp2
        go_ret
        exact ⟨rfl, HB9.out⟩
      · have hd1 : decide (i < len) = false := decide_eq_false hd
        clear hlt
        go_wp2_with fail
        refine (oneLen HS.out.one nZ (by decide)).mono ?_
        rintro e w5 ⟨rfl, rfl⟩
        rw [HLN.out]
        go_wp2_with fail
        refine (known_any wo (HT.out.keep HS.out.one.below) (Nat.le_trans h2 HS.out.one.below.size)).mono ?_
        rintro e w9 ⟨rfl, hb9⟩
        have HB9 := Lib.hid (HS.out.one.below.trans (hb9.mono HS.out.one.below.size))
        clear hb9
        go_wp2
        go_ret
        exact ⟨rfl, HB9.out⟩
end Go.Proofs.YtjocfkkcnkpjdaaDoor
