/- FilesNumbers: asks of forty scripts, played; as many files as may be, and more; chapter 7's runs. -/
import Derived.Test.YtjocfkkcnkpjdaaDoorFlNumLit
namespace Go.Proofs.YtjocfkkcnkpjdaaDoor
open Go.RowKit
open Go.RuneMath
open Go.FsMath
set_option linter.unusedVariables false

theorem and_one (a : Int) : bits .and .i64 a 1 = ((a % 2).toNat : Int) := by
  have h1 : (BitVec.ofInt 64 1).toNat = 2 ^ 1 - 1 := by decide
  have key : (BitVec.ofInt 64 a &&& BitVec.ofInt 64 1).toNat = (a % ((2 ^ 64 : Nat) : Int)).toNat % 2 ^ 1 := by
    rw [BitVec.toNat_and, BitVec.toNat_ofInt, h1, Nat.and_two_pow_sub_one_eq_mod]
  show IntKind.i64.wrap ((BitVec.ofInt 64 a &&& BitVec.ofInt 64 1).toNat : Nat) = _
  rw [key, IntKind.wrap_i64]
  omega
theorem u8_nat (n : Nat) (h : n < 256) : IntKind.u8.wrap (n : Int) = (n : Int) := by
  rw [IntKind.wrap_u8]
  omega
theorem tmod_range (a b : Int) (h : 0 < b) (hb : b ≤ 1000) : -1000 ≤ a.tmod b ∧ a.tmod b ≤ 1000 := by
  rcases Int.le_total 0 a with h0 | h0
  · rw [Int.tmod_eq_emod_of_nonneg h0]
    have := Int.emod_nonneg a (show b ≠ 0 by omega)
    have := Int.emod_lt_of_pos a h
    omega
  · have e : a.tmod b = -((-a).tmod b) := by rw [Int.neg_tmod, Int.neg_neg]
    rw [e, Int.tmod_eq_emod_of_nonneg (by omega)]
    have := Int.emod_nonneg (-a) (show b ≠ 0 by omega)
    have := Int.emod_lt_of_pos (-a) h
    omega
theorem tmod_wide (a b : Int) (h : 0 < b) (hb : b ≤ 1000) : -9223372036854775808 ≤ a.tmod b ∧ a.tmod b ≤ 9223372036854775807 := by
  have := tmod_range a b h hb
  omega
theorem tmod_nat (i n m : Nat) (h : m = i % n) : (i : Int).tmod (n : Int) = (m : Int) := by
  rw [Int.tmod_eq_emod_of_nonneg (by omega)]
  omega
theorem rune_text {c : Nat} (h : c < 26) {E : ByteArray} (hE : E = chF c) : ∀ W : World, (convert 21 9 (.int .i32 (97 + (c : Int)))).run Tryd.prog W = .ok (.string E) W := fun W => by
  have h1 := enc_low c h
  rw [show ((97 + c : Nat) : Int) = 97 + (c : Int) by omega] at h1
  rw [hE, ← h1]
  exact run_convert_int_string W 21 9 .i32 _ (by kernel_rfl) Tryd.underlying9
set_option maxRecDepth 100000 in
set_option maxHeartbeats 16000000 in
theorem numbers_any (W : World) (hT : Tabs W) (h2 : 2 ≤ W.heap.size) :
    Calls Tryd.prog 3 #[] W fun e w' => e = .returned (.bool true) ∧ Below W.heap.size W w' := by
  have HT := Lib.hid hT
  clear hT
  go_enter Tryd.func3, Tryd.ntmps3
  go_wp2_with fail
  have HST : Hid (Below W.heap.size W W) := Below.refl _ W
  go_loopw [1] (fun v1 wr => ∃ k : Nat, v1 = .int .i64 (k : Int) ∧ k ≤ 40 ∧ Hid (Below W.heap.size W wr)) (fun v1 _ => 40 - (intOf v1).toNat)
  case atStart => exact ⟨0, rfl, by omega, HST.out⟩
  case round =>
    obtain ⟨k, rfl, hk40, HB⟩ := hrel
    obtain ⟨wk, hwk⟩ : ∃ wk : World, wk = wr := ⟨_, rfl⟩
    subst hwk
    clear HST
    by_cases hkl : k < 40
    · have hdk : decide (k < 40) = true := decide_eq_true hkl
      go_wp2_with fail
      have HST : Hid (NuAt W wk (.slice none 0 0) [] 0) := NuAt.start HB.out
      go_loopw [2, 3] (fun v2 v3 wr => ∃ (i : Nat) (ls : List Ak), v3 = .int .i64 (i : Int) ∧ i ≤ 100 ∧ Hid (NuAt W wr v2 ls i)) (fun _ v3 _ => 100 - (intOf v3).toNat)
      case atStart => exact ⟨0, [], rfl, by omega, HST.out⟩
      case round =>
        obtain ⟨i, ls, rfl, hil, HS⟩ := hrel
        obtain ⟨wo, hwo⟩ : ∃ wo : World, wo = wr := ⟨_, rfl⟩
        subst hwo
        clear HST
        by_cases hlt : i < 100
        · have hd1 : decide (i < 100) = true := decide_eq_true hlt
          obtain ⟨vv, hvv⟩ : ∃ z, z = u2 := ⟨_, rfl⟩
          subst hvv
          go_upto_region 8 with fail
          go_cut [2] from 11 to 77 (fun s2 wx => ∃ ls2, Hid (NuAt W wx s2 ls2 (i + 1)))
          case first =>
            obtain ⟨c11, hc11⟩ : ∃ m : Nat, m = i % 11 := ⟨_, rfl⟩
            obtain ⟨m1, hm1⟩ : ∃ m : Nat, m = c11 % 10 := ⟨_, rfl⟩
            obtain ⟨c5, hc5⟩ : ∃ m : Nat, m = i % 5 := ⟨_, rfl⟩
            obtain ⟨m2, hm2⟩ : ∃ m : Nat, m = c5 % 4 := ⟨_, rfl⟩
            obtain ⟨c4, hc4⟩ : ∃ m : Nat, m = i % 4 := ⟨_, rfl⟩
            obtain ⟨m3, hm3⟩ : ∃ m : Nat, m = c4 % 3 := ⟨_, rfl⟩
            obtain ⟨b0, hb0⟩ : ∃ m : Nat, m = i % 2 := ⟨_, rfl⟩
            have e41 : (i : Int).tmod 11 = (c11 : Int) := tmod_nat i 11 c11 hc11
            have e42 : (c11 : Int).tmod 10 = (m1 : Int) := tmod_nat c11 10 m1 hm1
            have e49 : (i : Int).tmod 5 = (c5 : Int) := tmod_nat i 5 c5 hc5
            have e50 : (c5 : Int).tmod 4 = (m2 : Int) := tmod_nat c5 4 m2 hm2
            have e59 : (i : Int).tmod 4 = (c4 : Int) := tmod_nat i 4 c4 hc4
            have e60 : (c4 : Int).tmod 3 = (m3 : Int) := tmod_nat c4 3 m3 hm3
            have e53 : bits BinOp.and IntKind.i64 (i : Int) 1 = (b0 : Int) := by rw [and_one]; omega
            have e54 : IntKind.u8.wrap (b0 : Int) = (b0 : Int) := u8_nat b0 (by omega)
            have e56 : IntKind.u8.wrap (k : Int) = (k : Int) := u8_nat k (by omega)
            obtain ⟨kd, e25⟩ : ∃ z : Int, (IntKind.i64.wrap (IntKind.i64.wrap (IntKind.i64.wrap ((i : Int) * (i : Int)) + IntKind.i64.wrap ((k : Int) * (i : Int))) + (k : Int))).tmod 9 = z := ⟨_, rfl⟩
            obtain ⟨xa, e29⟩ : ∃ z : Int, (IntKind.i64.wrap ((i : Int) + (k : Int))).tmod 6 = z := ⟨_, rfl⟩
            obtain ⟨xb, e32⟩ : ∃ z : Int, (IntKind.i64.wrap ((i : Int) * 3)).tmod 7 = z := ⟨_, rfl⟩
            obtain ⟨xn, e37⟩ : ∃ z : Int, IntKind.i64.wrap ((IntKind.i64.wrap ((i : Int) * (k : Int))).tmod 9 - 1) = z := ⟨_, rfl⟩
            obtain ⟨k0, e45⟩ : ∃ z : Int, (i : Int).tmod 7 = z := ⟨_, rfl⟩
            have HR : Hid ((-9223372036854775808 ≤ kd ∧ kd ≤ 9223372036854775807) ∧ (-9223372036854775808 ≤ xa ∧ xa ≤ 9223372036854775807) ∧ (-9223372036854775808 ≤ xb ∧ xb ≤ 9223372036854775807) ∧ (-9223372036854775808 ≤ xn ∧ xn ≤ 9223372036854775807) ∧ (-9223372036854775808 ≤ k0 ∧ k0 ≤ 9223372036854775807) ∧ m1 ≤ 10 ∧ m2 ≤ 4 ∧ m3 ≤ 3 ∧ b0 < 256 ∧ k < 256) :=
              ⟨e25 ▸ tmod_wide _ _ (by decide) (by decide), e29 ▸ tmod_wide _ _ (by decide) (by decide), e32 ▸ tmod_wide _ _ (by decide) (by decide), e37 ▸ wrap_range _, e45 ▸ tmod_wide _ _ (by decide) (by decide), by omega, by omega, by omega, by omega, by omega⟩
            have s28 : ∀ (g : Nat) (V : World), (Instr.slice 23 (.slice (some ⟨g, 0, none⟩) 10 10) none (some (.int .i64 (m1 : Int))) none).run Tryd.prog V = .ok (.slice (some ⟨g, 0, none⟩) m1 10) V := fun g V => row_upto byteK_ok _ _ _ _ (by omega) V
            have s36 : ∀ (g : Nat) (V : World), (Instr.slice 24 (.slice (some ⟨g, 0, none⟩) 4 4) none (some (.int .i64 (m2 : Int))) none).run Tryd.prog V = .ok (.slice (some ⟨g, 0, none⟩) m2 4) V := fun g V => row_upto keepK_ok _ _ _ _ (by omega) V
            have s46 : ∀ (g : Nat) (V : World), (Instr.slice 23 (.slice (some ⟨g, 0, none⟩) 3 3) none (some (.int .i64 (m3 : Int))) none).run Tryd.prog V = .ok (.slice (some ⟨g, 0, none⟩) m3 3) V := fun g V => row_upto byteK_ok _ _ _ _ (by omega) V
            have HSO := Lib.hid HS.out
            clear hc11 hm1 hc5 hm2 hc4 hm3 hb0 HS
            refine wp_region_noPanic ?_
            refine wp_region_held_drew (S := (fun (_ : World) => True)) (by kernel_rfl) trivial (fun hHeld => ?_)
            obtain ⟨u0, hu0⟩ : ∃ u, u = wo.drew := ⟨_, rfl⟩
            have HB0 : Hid (Below wo.heap.size wo u0) := by show Below _ _ _; rw [hu0]; exact (Below.refl _ wo).drew
            rw [← hu0]
            clear hu0
            refine wpAnyH_take (i := 0) (oi := ⟨_, _, _, _, _, _⟩) (v := ?_) rfl (by kernel_rfl) (by kernel_rfl) (by kernel_rfl) (fun _ _ _ h => h) (Or.inl ⟨by rfl, ?_⟩) (by trivial) ?_
            rotate_left
            · intro W hSw
              (try dsimp only at hSw)
              go_simp
              (try with_reducible rfl)
            (try simp only [Act.put, List.setIfInBounds_toArray, List.set_cons_zero, List.set_cons_succ])
            refine wpAnyH_take (i := 1) (oi := ⟨_, _, _, _, _, _⟩) (v := ?_) rfl (by kernel_rfl) (by kernel_rfl) (by kernel_rfl) (fun _ _ _ h => h) (Or.inl ⟨by rfl, ?_⟩) (by trivial) ?_
            rotate_left
            · intro W hSw
              (try dsimp only at hSw)
              go_simp
              (try with_reducible rfl)
            (try simp only [Act.put, List.setIfInBounds_toArray, List.set_cons_zero, List.set_cons_succ])
            refine wpAnyH_take (i := 2) (oi := ⟨_, _, _, _, _, _⟩) (v := ?_) rfl (by kernel_rfl) (by kernel_rfl) (by kernel_rfl) (fun _ _ _ h => h) (Or.inl ⟨by rfl, ?_⟩) (by trivial) ?_
            rotate_left
            · intro W hSw
              (try dsimp only at hSw)
              go_simp
              (try with_reducible rfl)
            (try simp only [Act.put, List.setIfInBounds_toArray, List.set_cons_zero, List.set_cons_succ])
            refine wpAnyH_take (i := 3) (oi := ⟨_, _, _, _, _, _⟩) (v := ?_) rfl (by kernel_rfl) (by kernel_rfl) (by kernel_rfl) (fun _ _ _ h => h) (Or.inl ⟨by rfl, ?_⟩) (by trivial) ?_
            rotate_left
            · intro W hSw
              (try dsimp only at hSw)
              go_simp
              (try with_reducible rfl)
            (try simp only [Act.put, List.setIfInBounds_toArray, List.set_cons_zero, List.set_cons_succ])
            refine wpAnyH_take (i := 4) (oi := ⟨_, _, _, _, _, _⟩) (v := ?_) rfl (by kernel_rfl) (by kernel_rfl) (by kernel_rfl) (fun _ _ _ h => h) (Or.inl ⟨by rfl, ?_⟩) (by trivial) ?_
            rotate_left
            · intro W hSw
              (try dsimp only at hSw)
              go_simp
              (try with_reducible rfl)
            (try simp only [Act.put, List.setIfInBounds_toArray, List.set_cons_zero, List.set_cons_succ])
            refine wpAnyH_take (i := 5) (oi := ⟨_, _, _, _, _, _⟩) (v := ?_) rfl (by kernel_rfl) (by kernel_rfl) (by kernel_rfl) (fun _ _ _ h => h) (Or.inl ⟨by rfl, ?_⟩) (by trivial) ?_
            rotate_left
            · intro W hSw
              (try dsimp only at hSw)
              go_simp
              (try with_reducible rfl)
            (try simp only [Act.put, List.setIfInBounds_toArray, List.set_cons_zero, List.set_cons_succ])
            refine wpAnyH_take (i := 6) (oi := ⟨_, _, _, _, _, _⟩) (v := ?_) rfl (by kernel_rfl) (by kernel_rfl) (by kernel_rfl) (fun _ _ _ h => h) (Or.inl ⟨by rfl, ?_⟩) (by trivial) ?_
            rotate_left
            · intro W hSw
              (try dsimp only at hSw)
              go_simp
              (try with_reducible rfl)
            (try simp only [Act.put, List.setIfInBounds_toArray, List.set_cons_zero, List.set_cons_succ])
            refine wpAnyH_take (i := 7) (oi := ⟨_, _, _, _, _, _⟩) (v := ?_) rfl (by kernel_rfl) (by kernel_rfl) (by kernel_rfl) (fun _ _ _ h => h) (Or.inl ⟨by rfl, ?_⟩) (by trivial) ?_
            rotate_left
            · intro W hSw
              (try dsimp only at hSw)
              go_simp
              (try with_reducible rfl)
            (try simp only [Act.put, List.setIfInBounds_toArray, List.set_cons_zero, List.set_cons_succ])
            refine wpAnyH_take (i := 8) (oi := ⟨_, _, _, _, _, _⟩) (v := ?_) rfl (by kernel_rfl) (by kernel_rfl) (by kernel_rfl) (fun _ _ _ h => h) (Or.inl ⟨by rfl, ?_⟩) (by trivial) ?_
            rotate_left
            · intro W hSw
              (try dsimp only at hSw)
              go_simp
              (try with_reducible rfl)
            (try simp only [Act.put, List.setIfInBounds_toArray, List.set_cons_zero, List.set_cons_succ])
            refine wpAnyH_take (i := 9) (oi := ⟨_, _, _, _, _, _⟩) (v := ?_) rfl (by kernel_rfl) (by kernel_rfl) (by kernel_rfl) (fun _ _ _ h => h) (Or.inl ⟨by rfl, ?_⟩) (by trivial) ?_
            rotate_left
            · intro W hSw
              (try dsimp only at hSw)
              go_simp
              (try with_reducible rfl)
            (try simp only [Act.put, List.setIfInBounds_toArray, List.set_cons_zero, List.set_cons_succ])
            refine wpAnyH_take (i := 10) (oi := ⟨_, _, _, _, _, _⟩) (v := ?_) rfl (by kernel_rfl) (by kernel_rfl) (by kernel_rfl) (fun _ _ _ h => h) (Or.inl ⟨by rfl, ?_⟩) (by trivial) ?_
            rotate_left
            · intro W hSw
              (try dsimp only at hSw)
              go_simp
              (try with_reducible rfl)
            (try simp only [Act.put, List.setIfInBounds_toArray, List.set_cons_zero, List.set_cons_succ])
            refine wpAnyH_take (i := 11) (oi := ⟨_, _, _, _, _, _⟩) (v := ?_) rfl (by kernel_rfl) (by kernel_rfl) (by kernel_rfl) (fun _ _ _ h => h) (Or.inl ⟨by rfl, ?_⟩) (by trivial) ?_
            rotate_left
            · intro W hSw
              (try dsimp only at hSw)
              go_simp
              (try with_reducible rfl)
            (try simp only [Act.put, List.setIfInBounds_toArray, List.set_cons_zero, List.set_cons_succ])
            refine wpAnyH_take (i := 12) (oi := ⟨_, _, _, _, _, _⟩) (v := ?_) rfl (by kernel_rfl) (by kernel_rfl) (by kernel_rfl) (fun _ _ _ h => h) (Or.inl ⟨by rfl, ?_⟩) (by trivial) ?_
            rotate_left
            · intro W hSw
              (try dsimp only at hSw)
              go_simp
              (try with_reducible rfl)
            (try simp only [Act.put, List.setIfInBounds_toArray, List.set_cons_zero, List.set_cons_succ])
            refine wpAnyH_take (i := 13) (oi := ⟨_, _, _, _, _, _⟩) (v := ?_) rfl (by kernel_rfl) (by kernel_rfl) (by kernel_rfl) (fun _ _ _ h => h) (Or.inl ⟨by rfl, ?_⟩) (by trivial) ?_
            rotate_left
            · intro W hSw
              (try dsimp only at hSw)
              go_simp
              (try with_reducible rfl)
            (try simp only [Act.put, List.setIfInBounds_toArray, List.set_cons_zero, List.set_cons_succ])
            refine wpAnyH_take (i := 14) (oi := ⟨_, _, _, _, _, _⟩) (v := ?_) rfl (by kernel_rfl) (by kernel_rfl) (by kernel_rfl) (fun _ _ _ h => h) (Or.inl ⟨by rfl, ?_⟩) (by trivial) ?_
            rotate_left
            · intro W hSw
              (try dsimp only at hSw)
              go_simp
              (try with_reducible rfl)
            (try simp only [Act.put, List.setIfInBounds_toArray, List.set_cons_zero, List.set_cons_succ])
            refine wpAnyH_take (i := 15) (oi := ⟨_, _, _, _, _, _⟩) (v := ?_) rfl (by kernel_rfl) (by kernel_rfl) (by kernel_rfl) (fun _ _ _ h => h) (Or.inl ⟨by rfl, ?_⟩) (by trivial) ?_
            rotate_left
            · intro W hSw
              (try dsimp only at hSw)
              go_simp
              (try with_reducible rfl)
            (try simp only [Act.put, List.setIfInBounds_toArray, List.set_cons_zero, List.set_cons_succ])
            refine wpAnyH_take (i := 16) (oi := ⟨_, _, _, _, _, _⟩) (v := ?_) rfl (by kernel_rfl) (by kernel_rfl) (by kernel_rfl) (fun _ _ _ h => h) (Or.inl ⟨by rfl, ?_⟩) (by trivial) ?_
            rotate_left
            · intro W hSw
              (try dsimp only at hSw)
              go_simp
              (try with_reducible rfl)
            (try simp only [Act.put, List.setIfInBounds_toArray, List.set_cons_zero, List.set_cons_succ])
            refine wpAnyH_take (i := 17) (oi := ⟨_, _, _, _, _, _⟩) (v := ?_) rfl (by kernel_rfl) (by kernel_rfl) (by kernel_rfl) (fun _ _ _ h => h) (Or.inl ⟨by rfl, ?_⟩) (by trivial) ?_
            rotate_left
            · intro W hSw
              (try dsimp only at hSw)
              go_simp
              (try with_reducible rfl)
            (try simp only [Act.put, List.setIfInBounds_toArray, List.set_cons_zero, List.set_cons_succ])
            refine wpAnyH_take (i := 18) (oi := ⟨_, _, _, _, _, _⟩) (v := ?_) rfl (by kernel_rfl) (by kernel_rfl) (by kernel_rfl) (fun _ _ _ h => h) (Or.inl ⟨by rfl, ?_⟩) (by trivial) ?_
            rotate_left
            · intro W hSw
              (try dsimp only at hSw)
              go_simp
              (try with_reducible rfl)
            (try simp only [Act.put, List.setIfInBounds_toArray, List.set_cons_zero, List.set_cons_succ])
            refine wpAnyH_take (i := 19) (oi := ⟨_, _, _, _, _, _⟩) (v := ?_) rfl (by kernel_rfl) (by kernel_rfl) (by kernel_rfl) (fun _ _ _ h => h) (Or.inl ⟨by rfl, ?_⟩) (by trivial) ?_
            rotate_left
            · intro W hSw
              (try dsimp only at hSw)
              go_simp
              (try with_reducible rfl)
            (try simp only [Act.put, List.setIfInBounds_toArray, List.set_cons_zero, List.set_cons_succ])
            refine wpAnyH_take (i := 20) (oi := ⟨_, _, _, _, _, _⟩) (v := ?_) rfl (by kernel_rfl) (by kernel_rfl) (by kernel_rfl) (fun _ _ _ h => h) (Or.inl ⟨by rfl, ?_⟩) (by trivial) ?_
            rotate_left
            · intro W hSw
              (try dsimp only at hSw)
              go_simp
              (try with_reducible rfl)
            (try simp only [Act.put, List.setIfInBounds_toArray, List.set_cons_zero, List.set_cons_succ])
            refine wpAnyH_take (i := 21) (oi := ⟨_, _, _, _, _, _⟩) (v := ?_) rfl (by kernel_rfl) (by kernel_rfl) (by kernel_rfl) (fun _ _ _ h => h) (Or.inl ⟨by rfl, ?_⟩) (by trivial) ?_
            rotate_left
            · intro W hSw
              (try dsimp only at hSw)
              go_simp
              (try with_reducible rfl)
            (try simp only [Act.put, List.setIfInBounds_toArray, List.set_cons_zero, List.set_cons_succ])
            refine wpAnyH_take (i := 22) (oi := ⟨_, _, _, _, _, _⟩) (v := ?_) rfl (by kernel_rfl) (by kernel_rfl) (by kernel_rfl) (fun _ _ _ h => h) (Or.inl ⟨by rfl, ?_⟩) (by trivial) ?_
            rotate_left
            · intro W hSw
              (try dsimp only at hSw)
              go_simp
              (try with_reducible rfl)
            (try simp only [Act.put, List.setIfInBounds_toArray, List.set_cons_zero, List.set_cons_succ])
            refine wpAnyH_take (i := 25) (oi := ⟨_, _, _, _, _, _⟩) (v := ?_) rfl (by kernel_rfl) (by kernel_rfl) (by kernel_rfl) (fun _ _ _ h => h) (Or.inl ⟨by rfl, ?_⟩) (by trivial) ?_
            rotate_left
            · intro W hSw
              (try dsimp only at hSw)
              go_simp
              (try with_reducible rfl)
            (try simp only [Act.put, List.setIfInBounds_toArray, List.set_cons_zero, List.set_cons_succ])
            refine wpAnyH_take (i := 26) (oi := ⟨_, _, _, _, _, _⟩) (v := ?_) rfl (by kernel_rfl) (by kernel_rfl) (by kernel_rfl) (fun _ _ _ h => h) (Or.inl ⟨by rfl, ?_⟩) (by trivial) ?_
            rotate_left
            · intro W hSw
              (try dsimp only at hSw)
              go_simp
              (try with_reducible rfl)
            (try simp only [Act.put, List.setIfInBounds_toArray, List.set_cons_zero, List.set_cons_succ])
            refine wpAnyH_take (i := 27) (oi := ⟨_, _, _, _, _, _⟩) (v := ?_) rfl (by kernel_rfl) (by kernel_rfl) (by kernel_rfl) (fun _ _ _ h => h) (Or.inl ⟨by rfl, ?_⟩) (by trivial) ?_
            rotate_left
            · intro W hSw
              (try dsimp only at hSw)
              go_simp
              (try with_reducible rfl)
            (try simp only [Act.put, List.setIfInBounds_toArray, List.set_cons_zero, List.set_cons_succ])
            refine wpAnyH_take (i := 29) (oi := ⟨_, _, _, _, _, _⟩) (v := ?_) rfl (by kernel_rfl) (by kernel_rfl) (by kernel_rfl) (fun _ _ _ h => h) (Or.inl ⟨by rfl, ?_⟩) (by trivial) ?_
            rotate_left
            · intro W hSw
              (try dsimp only at hSw)
              go_simp
              (try with_reducible rfl)
            (try simp only [Act.put, List.setIfInBounds_toArray, List.set_cons_zero, List.set_cons_succ])
            refine wpAnyH_take (i := 30) (oi := ⟨_, _, _, _, _, _⟩) (v := ?_) rfl (by kernel_rfl) (by kernel_rfl) (by kernel_rfl) (fun _ _ _ h => h) (Or.inl ⟨by rfl, ?_⟩) (by trivial) ?_
            rotate_left
            · intro W hSw
              (try dsimp only at hSw)
              go_simp
              (try with_reducible rfl)
            (try simp only [Act.put, List.setIfInBounds_toArray, List.set_cons_zero, List.set_cons_succ])
            refine wpAnyH_take (i := 31) (oi := ⟨_, _, _, _, _, _⟩) (v := ?_) rfl (by kernel_rfl) (by kernel_rfl) (by kernel_rfl) (fun _ _ _ h => h) (Or.inl ⟨by rfl, ?_⟩) (by trivial) ?_
            rotate_left
            · intro W hSw
              (try dsimp only at hSw)
              go_simp
              (try with_reducible rfl)
            (try simp only [Act.put, List.setIfInBounds_toArray, List.set_cons_zero, List.set_cons_succ])
            refine wpAnyH_take (i := 33) (oi := ⟨_, _, _, _, _, _⟩) (v := ?_) rfl (by kernel_rfl) (by kernel_rfl) (by kernel_rfl) (fun _ _ _ h => h) (Or.inl ⟨by rfl, ?_⟩) (by trivial) ?_
            rotate_left
            · intro W hSw
              (try dsimp only at hSw)
              go_simp
              (try with_reducible rfl)
            (try simp only [Act.put, List.setIfInBounds_toArray, List.set_cons_zero, List.set_cons_succ])
            refine wpAnyH_take (i := 34) (oi := ⟨_, _, _, _, _, _⟩) (v := ?_) rfl (by kernel_rfl) (by kernel_rfl) (by kernel_rfl) (fun _ _ _ h => h) (Or.inl ⟨by rfl, ?_⟩) (by trivial) ?_
            rotate_left
            · intro W hSw
              (try dsimp only at hSw)
              go_simp
              (try with_reducible rfl)
            (try simp only [Act.put, List.setIfInBounds_toArray, List.set_cons_zero, List.set_cons_succ])
            refine wpAnyH_take (i := 35) (oi := ⟨_, _, _, _, _, _⟩) (v := ?_) rfl (by kernel_rfl) (by kernel_rfl) (by kernel_rfl) (fun _ _ _ h => h) (Or.inl ⟨by rfl, ?_⟩) (by trivial) ?_
            rotate_left
            · intro W hSw
              (try dsimp only at hSw)
              go_simp
              (try with_reducible rfl)
            (try simp only [Act.put, List.setIfInBounds_toArray, List.set_cons_zero, List.set_cons_succ])
            refine wpAnyH_take (i := 37) (oi := ⟨_, _, _, _, _, _⟩) (v := ?_) rfl (by kernel_rfl) (by kernel_rfl) (by kernel_rfl) (fun _ _ _ h => h) (Or.inl ⟨by rfl, ?_⟩) (by trivial) ?_
            rotate_left
            · intro W hSw
              (try dsimp only at hSw)
              go_simp
              (try with_reducible rfl)
            (try simp only [Act.put, List.setIfInBounds_toArray, List.set_cons_zero, List.set_cons_succ])
            refine wpAnyH_take (i := 38) (oi := ⟨_, _, _, _, _, _⟩) (v := ?_) rfl (by kernel_rfl) (by kernel_rfl) (by kernel_rfl) (fun _ _ _ h => h) (Or.inl ⟨by rfl, ?_⟩) (by trivial) ?_
            rotate_left
            · intro W hSw
              (try dsimp only at hSw)
              go_simp
              (try with_reducible rfl)
            (try simp only [Act.put, List.setIfInBounds_toArray, List.set_cons_zero, List.set_cons_succ])
            refine wpAnyH_take (i := 39) (oi := ⟨_, _, _, _, _, _⟩) (v := ?_) rfl (by kernel_rfl) (by kernel_rfl) (by kernel_rfl) (fun _ _ _ h => h) (Or.inl ⟨by rfl, ?_⟩) (by trivial) ?_
            rotate_left
            · intro W hSw
              (try dsimp only at hSw)
              go_simp
              (try with_reducible rfl)
            (try simp only [Act.put, List.setIfInBounds_toArray, List.set_cons_zero, List.set_cons_succ])
            refine wpAnyH_take (i := 40) (oi := ⟨_, _, _, _, _, _⟩) (v := ?_) rfl (by kernel_rfl) (by kernel_rfl) (by kernel_rfl) (fun _ _ _ h => h) (Or.inl ⟨by rfl, ?_⟩) (by trivial) ?_
            rotate_left
            · intro W hSw
              (try dsimp only at hSw)
              go_simp
              (try with_reducible rfl)
            (try simp only [Act.put, List.setIfInBounds_toArray, List.set_cons_zero, List.set_cons_succ])
            refine wpAnyH_take (i := 41) (oi := ⟨_, _, _, _, _, _⟩) (v := ?_) rfl (by kernel_rfl) (by kernel_rfl) (by kernel_rfl) (fun _ _ _ h => h) (Or.inl ⟨by rfl, ?_⟩) (by trivial) ?_
            rotate_left
            · intro W hSw
              (try dsimp only at hSw)
              go_simp
              (try with_reducible rfl)
            (try simp only [Act.put, List.setIfInBounds_toArray, List.set_cons_zero, List.set_cons_succ])
            refine wpAnyH_take (i := 43) (oi := ⟨_, _, _, _, _, _⟩) (v := ?_) rfl (by kernel_rfl) (by kernel_rfl) (by kernel_rfl) (fun _ _ _ h => h) (Or.inl ⟨by rfl, ?_⟩) (by trivial) ?_
            rotate_left
            · intro W hSw
              (try dsimp only at hSw)
              go_simp
              (try with_reducible rfl)
            (try simp only [Act.put, List.setIfInBounds_toArray, List.set_cons_zero, List.set_cons_succ])
            refine wpAnyH_take (i := 44) (oi := ⟨_, _, _, _, _, _⟩) (v := ?_) rfl (by kernel_rfl) (by kernel_rfl) (by kernel_rfl) (fun _ _ _ h => h) (Or.inl ⟨by rfl, ?_⟩) (by trivial) ?_
            rotate_left
            · intro W hSw
              (try dsimp only at hSw)
              go_simp
              (try with_reducible rfl)
            (try simp only [Act.put, List.setIfInBounds_toArray, List.set_cons_zero, List.set_cons_succ])
            refine wpAnyH_take (i := 45) (oi := ⟨_, _, _, _, _, _⟩) (v := ?_) rfl (by kernel_rfl) (by kernel_rfl) (by kernel_rfl) (fun _ _ _ h => h) (Or.inl ⟨by rfl, ?_⟩) (by trivial) ?_
            rotate_left
            · intro W hSw
              (try dsimp only at hSw)
              go_simp
              (try with_reducible rfl)
            (try simp only [Act.put, List.setIfInBounds_toArray, List.set_cons_zero, List.set_cons_succ])
            refine lits_use (by kernel_rfl) (by kernel_rfl) (by kernel_rfl) (st000 (W := W) (wo := wo) (vv := vv) (ls := ls) (i := i) (k := k) (m1 := m1) (m2 := m2) (m3 := m3) (b0 := b0) (k0 := k0) (kd := kd) (xa := xa) (xb := xb) (xn := xn) ⟨by exact Nat.le_refl 135, rfl, rfl, rfl, rfl, rfl, rfl, rfl, rfl, rfl, rfl, rfl, rfl, hlt, HR.out.2.2.2.2.2.1, HR.out.2.2.2.2.2.2.1, HR.out.2.2.2.2.2.2.2.1, HR.out.2.2.2.2.2.2.2.2.1, HR.out.2.2.2.2.2.2.2.2.2, HR.out.2.2.2.2.1, HR.out.1, HR.out.2.1, HR.out.2.2.1, HR.out.2.2.2.1, HSO.out, fun _ _ _ _ h => h, fun a9 w9 x9 hsim hnu => ?_⟩ ⟨rfl, rfl, fun _ _ => rfl⟩ HB0.out)
            obtain ⟨f, hf2, ha9⟩ := sim_out hsim
            rw [← hf2] at hnu
            have HN9 := Lib.hid hnu
            clear hnu hf2 hsim
            subst ha9
            refine NoPanic.normal ?_
            simp only [D8, List.foldl_cons, List.foldl_nil, Act.put, List.setIfInBounds_toArray, List.set_cons_zero, List.set_cons_succ]
            go_wp2_with fail
            go_meet
            exact ⟨_, HN9.out⟩
          case rest =>
            obtain ⟨ls2, HN2⟩ := hcut
            obtain ⟨vb, hvb⟩ : ∃ z, z = u2 := ⟨_, rfl⟩
            subst hvb
            clear HS
            obtain ⟨g, cap, cur, hv, hheap, hbg, hcs⟩ := own_block2 HN2.out.own HN2.out.n (by omega)
            subst hv
            obtain ⟨ad, cp, hv2, hrow, _⟩ := OwnRow.row2 askK_ok HN2.out.own HN2.out.n
            cases hv2
            obtain ⟨bl, ol, x, el, hbl, hx, hat⟩ := ask_get hrow (show i < i + 1 by omega)
            cases el
            rw [Nat.zero_add] at hat
            have a0 := hat.c0
            have a3 := hat.c3
            have f3 : wc.frozen? ⟨g, i * 7 + 3, none⟩ = false := frozen_of_row wc g (i * 7 + 3) cur _ hheap
            have hij : (i : Int) < (i : Int) + 1 := by omega
            have HX := Lib.hid hx
            have HCS : Hid (g < wc.heap.size) := lt_of_block hheap
            clear hat hrow hheap hbg hcs hbl hx
            obtain ⟨kd, hkd⟩ : ∃ z, z = x.kind := ⟨_, rfl⟩
            rw [← hkd] at a0
            clear hkd
            cases hq : (kd == 7)
            · go_wp2_with fail
              go_roundw
              case rel => exact ⟨i + 1, ls2, by go_num, by omega, HN2.out⟩
              case measure => simp [intOf]; omega
            · go_wp2_with fail
              go_roundw
              case rel => exact ⟨i + 1, _, by go_num, by omega, HN2.out.store HN2.out.n HX.out (by omega)⟩
              case measure => simp [intOf]; omega
        · have hd1 : decide (i < 100) = false := decide_eq_false hlt
          obtain ⟨vv, hvv⟩ : ∃ z, z = u2 := ⟨_, rfl⟩
          subst hvv
          obtain ⟨sad, scap, hv, hrow, hab⟩ := OwnRow.row2 askK_ok HS.out.own HS.out.n
          have HRO := Lib.hid hrow
          have HIN := Lib.hid HS.out.ins
          have HB2 := Lib.hid HS.out.below
          subst hv
          clear hrow hab HS
          go_wp2_with fail
          refine (play_any wo sad i scap ls HRO.out HIN.out (HT.out.keep HB2.out) (Nat.le_trans h2 HB2.out.size)).mono ?_
          rintro e w5 ⟨rfl, hb5⟩
          have HB5 : Hid (Below W.heap.size W w5) := HB2.out.trans (hb5.mono HB2.out.size)
          clear hb5
          go_wp2
          go_roundw
          case rel => exact ⟨k + 1, by go_num, by omega, HB5.out⟩
          case measure => simp [intOf]; omega
    · have hdk : decide (k < 40) = false := decide_eq_false hkl
      go_wp2_with fail
      refine (oneNew wk HB.out).mono ?_
      rintro e w1 ⟨kf, rfl, H1⟩
      have HST : Hid (One W (fun j => j < W.heap.size) W w1 kf (fullF 0)) := H1.out.reset
      clear H1
      go_wp2_with fail
      go_loopw [5] (fun v5 wr => ∃ i : Nat, v5 = .int .i64 (i : Int) ∧ i ≤ 67 ∧ Hid (One W (fun j => j < W.heap.size) W wr kf (fullF i))) (fun v5 _ => 67 - (intOf v5).toNat)
      case atStart => exact ⟨0, rfl, by omega, HST.out⟩
      case round =>
        obtain ⟨i, rfl, hil, HS⟩ := hrel
        obtain ⟨wo, hwo⟩ : ∃ wo : World, wo = wr := ⟨_, rfl⟩
        subst hwo
        clear HST
        by_cases hlt : i < 67
        · have hd1 : decide (i < 67) = true := decide_eq_true hlt
          obtain ⟨c1, hc1⟩ : ∃ m : Nat, m = i % 26 := ⟨_, rfl⟩
          obtain ⟨c2, hc2⟩ : ∃ m : Nat, m = i / 26 := ⟨_, rfl⟩
          have hmod : (i : Int) % 26 = (c1 : Int) := by omega
          have hdiv : (i : Int) / 26 = (c2 : Int) := by omega
          have hl1 : c1 < 26 := by omega
          have hl2 : c2 < 26 := by omega
          obtain ⟨E1, hE1⟩ : ∃ E, E = chF c1 := ⟨_, rfl⟩
          obtain ⟨E2, hE2⟩ : ∃ E, E = chF c2 := ⟨_, rfl⟩
          have hcv1 : ∀ W : World, (convert 21 9 (.int .i32 (97 + (c1 : Int)))).run Tryd.prog W = .ok (.string E1) W := rune_text hl1 hE1
          have hcv2 : ∀ W : World, (convert 21 9 (.int .i32 (97 + (c2 : Int)))).run Tryd.prog W = .ok (.string E2) W := rune_text hl2 hE2
          have HNM : Hid ((⟨#[102]⟩ ++ E1) ++ E2 = nmF i) := by show _ = _; rw [hE1, hE2, hc1, hc2]; exact nm_join i
          have hz1 : E1.size = 1 := by rw [hE1]; rfl
          have hz2 : E2.size = 1 := by rw [hE2]; rfl
          have hy1 : 1 + E1.size ≤ 9223372036854775807 := by omega
          have hy2 : 1 + E1.size + E2.size ≤ 9223372036854775807 := by omega
          have hy3 : (⟨#[102]⟩ ++ E1 : ByteArray).size + E2.size ≤ 9223372036854775807 := by rw [ByteArray.size_append]; show 1 + E1.size + E2.size ≤ _; omega
          have HSM := Lib.hid (Sm.full i)
          clear hE1 hE2 hc1 hc2 hz1 hz2
          go_wp2_with fail
          rw [HNM.out]
          refine (oneAppend HS.out (Sm.fsnum HSM.out (by omega)) (by have := HSM.out.n; omega) (nmF i) (by rw [nm_size]; decide) (alloc_below wo _) (some ⟨wo.heap.size, 0, none⟩) 1 1 [1] (lit_bytes wo [1] (by simp) _ rfl 1 rfl) (all_small (by rfl)) (fun a ha _ => .inr (.inr (by cases ha; exact Nat.le_refl _))) (fun f hf _ => by have := HSM.out.b f hf; omega) (by omega)).mono ?_
          rintro e w6 ⟨rfl, H6⟩
          have H6 : Hid (One W (fun j => j < W.heap.size) W w6 kf (fullF (i + 1))) := H6
          rw [full_ans hlt]
          clear hcv1 hcv2 hy1 hy2 hy3 HS HSM HNM hmod hdiv
          by_cases h64 : i < 64
          · rw [if_pos h64]
            have hd64 : decide (i < 64) = true := decide_eq_true h64
            go_wp2_with fail
            go_roundw
            case rel => exact ⟨i + 1, by go_num, by omega, H6.out⟩
            case measure => simp [intOf]; omega
          · rw [if_neg h64]
            have hd64 : decide (i < 64) = false := decide_eq_false h64
            go_wp2_with fail
            go_roundw
            case rel => exact ⟨i + 1, by go_num, by omega, H6.out⟩
            case measure => simp [intOf]; omega
        · have hd1 : decide (i < 67) = false := decide_eq_false hlt
          have HI : Hid (i = 67) := by show i = 67; omega
          rw [HI.out] at HS
          clear HI
          obtain ⟨s67, hs67⟩ : ∃ s, s = fullF 67 := ⟨_, rfl⟩
          have HSM : Hid (Sm s67 67 67 67) := by rw [hs67]; exact Sm.full 67
          have HLN : Hid ((s67.l.map (·.name)).length = 64) := by rw [List.length_map, hs67]; exact full_len
          have HAN : Hid ((appendF s67 ⟨#[102, 97, 97]⟩ [2]).1 = 0) := by rw [hs67]; exact full_faa
          rw [← hs67] at HS
          clear hs67
          go_wp2_with fail
          refine (oneList HS.out (by have := HSM.out.n; omega) HT.out h2).mono ?_
          rintro e w17 ⟨hb17, ad17, cap17, rfl, hr17⟩
          rw [HLN.out]
          have H17 := Lib.hid (HS.out.on hb17.out)
          clear hr17 hb17 HS
          go_wp2_with fail
          refine (oneAppend H17.out (Sm.fsnum HSM.out (by omega)) (by have := HSM.out.n; omega) ⟨#[102, 97, 97]⟩ (by decide) (alloc_below w17 _) (some ⟨w17.heap.size, 0, none⟩) 1 1 [2] (lit_bytes w17 [2] (by simp) _ rfl 1 rfl) (all_small (by rfl)) (fun a ha _ => .inr (.inr (by cases ha; exact Nat.le_refl _))) (fun f hf _ => by have := HSM.out.b f hf; omega) (by omega)).mono ?_
          rintro e w6 ⟨rfl, H6⟩
          rw [HAN.out]
          have HB6 := Lib.hid H6.out.below
          clear H6 H17 HAN HLN HSM
          go_wp2_with fail
          refine (known_any w6 (HT.out.keep HB6.out) (Nat.le_trans h2 HB6.out.size)).mono ?_
          rintro e w7 ⟨rfl, hb7⟩
          have HB7 : Hid (Below W.heap.size W w7) := HB6.out.trans (hb7.mono HB6.out.size)
          clear hb7
          go_wp2
          go_ret
          exact ⟨rfl, HB7.out⟩
end Go.Proofs.YtjocfkkcnkpjdaaDoor
