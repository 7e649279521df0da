/- The walk of 'VarintNumbers'. No condition. -/
import Derived.Test.YtnahagcjieckeaaNumbers0
namespace Go.Proofs.Ytnahagcjieckeaa
open Go.RowKit
open Go.VarMath hiding AllB
set_option linter.unusedVariables false

set_option maxRecDepth 100000 in
set_option maxHeartbeats 8000000 in
theorem numbers_any (w : World) : Calls Try.prog 3 #[] w fun e w' => e = .returned (.bool true) ∧ Below w.heap.size w w' := by
  go_enter Try.func3, Try.ntmps3
  go_wp2
  go_loopw [1] (fun v1 wr => ∃ i : Nat, i ≤ 64 ∧ v1 = .int .u64 i ∧ Below w.heap.size w wr) (fun v1 _ => (64 - intOf v1).toNat)
  case atStart => exact ⟨0, by omega, rfl, Below.refl _ _⟩
  case round =>
    obtain ⟨i, hi, rfl, hbel⟩ := hrel
    have HBO := Lib.hid hbel
    clear hbel
    obtain ⟨wo, rfl⟩ : ∃ wo : World, wo = wr := ⟨_, rfl⟩
    by_cases hlt : i < 64
    · have hdi : decide ((i : Int) < 64) = true := by simp; omega
      go_wp2
      go_loopw [2] (fun v2 wr => ∃ d : Int, -1 ≤ d ∧ d ≤ 2 ∧ v2 = .int .i64 d ∧ Below w.heap.size w wr) (fun v2 _ => (2 - intOf v2).toNat)
      case atStart => exact ⟨-1, by omega, by omega, rfl, HBO.out⟩
      case round =>
        obtain ⟨d, hd0, hd1, rfl, hbel⟩ := hrel
        have HBI := Lib.hid hbel
        clear hbel
        by_cases hd : d < 2
        · obtain ⟨wi, rfl⟩ : ∃ wi : World, wi = wr := ⟨_, rfl⟩
          have hdd : decide (d < 2) = true := by simp; omega
          obtain ⟨n, hn⟩ : ∃ n, n = wrap64 (wrap64 (2 ^ i) + d) := ⟨_, rfl⟩
          have hn' := hn.symm
          have hn0 : -9223372036854775808 ≤ n := by rw [hn]; exact (wrap64_in _).1
          have hn1 : n ≤ 9223372036854775807 := by rw [hn]; exact (wrap64_in _).2
          clear hn
          have hk2 := encN_len hn0 hn1
          obtain ⟨k, hk⟩ : ∃ k, k = (encN n).length := ⟨_, rfl⟩
          rw [← hk] at hk2
          have HK := Lib.hid hk
          have HA : Hid (AllB (encN n)) := encN_all hn0 hn1
          clear hk
          obtain ⟨r, hr⟩ : ∃ r, r = i % 5 := ⟨_, rfl⟩
          have hm1 : (i : Int).tmod 5 = (r : Int) := by rw [Int.tmod_eq_emod_of_nonneg (by omega)]; omega
          have hm2 : (i : Int) % 5 = (r : Int) := by omega
          have hr4 : r ≤ 4 := by omega
          clear hr
          obtain ⟨txt, htx, hsl⟩ := text_cut r hr4
          go_wp2_with fail
          refine (refPut_nil wi n hn0 hn1 k HK.out).mono ?_
          rintro e w1 ⟨g, c, rfl, HO1, HI1⟩
          have HD1 : Hid (Below w1.heap.size w1 (w1.drew.alloc (.cells #[.int .u8 7] 5))) := ((Below.refl _ _).drew).alloc (Nat.le_refl _) _
          have HI1d : Hid (Below wi.heap.size wi (w1.drew.alloc (.cells #[.int .u8 7] 5))) := (HI1.out.drew).alloc HI1.out.size _
          obtain ⟨y, hy⟩ : ∃ y, y = (encN n).getD (k - 1) 0 := ⟨_, rfl⟩
          have hy8 : y < 256 := by rw [hy]; exact getD_all HA.out _
          have HYE := Lib.hid hy
          clear hy
          have hor := hi7 y hy8
          obtain ⟨z, hz⟩ : ∃ z, z = y % 128 + 128 := ⟨_, rfl⟩
          have hz8 : z < 256 := by omega
          rw [← hz] at hor
          clear hz
          have hck : k ≤ c := (pre_owns HO1.out).2.2.1
          have hsl1 := run_upto (some ⟨g, 0, none⟩) k c (k - 1) (by omega)
          have hsl2 := run_upto_max ⟨g, 0, none⟩ k c (k - 1) (by omega)
          have hcast : ((k - 1 : Nat) : Int) = (k : Int) - 1 := by omega
          rw [hcast] at hsl1 hsl2
          clear hcast
          have hwk : wrap64 ((k : Int) - 1) = (k : Int) - 1 := by unfold wrap64; omega
          have hwk2 : IntKind.i64.wrap ((k : Int) - 1) = (k : Int) - 1 := IntWalk.i64_in _ (by omega)
          have hkt : ((k : Int) - 1).toNat = k - 1 := by omega
          have hki : (1 : Int) ≤ (k : Int) := by omega
          have hkj : (k : Int) - 1 < (k : Int) := by omega
          obtain ⟨q, hq⟩ : ∃ q, q = IntKind.i64.wrap (-n) := ⟨_, rfl⟩
          have hqb : -9223372036854775808 ≤ q ∧ q ≤ 9223372036854775807 := by rw [hq, IntKind.wrap_i64]; omega
          obtain ⟨hq0, hq1⟩ := hqb
          have hq' := hq.symm
          clear hq
          go_wp2_with fail
          refine wp_region_noPanic ?_
          refine wp_region_held_drew (S := (fun _ => True)) (by kernel_rfl) trivial (fun hHeld => ?_)
          refine wpAnyH_take (i := 1) (oi := ⟨_, _, _, _, _, _⟩) (v := ?_) rfl (by kernel_rfl) (by kernel_rfl) (by kernel_rfl) (fun _ _ _ h => h) (Or.inl ⟨by rfl, ?_⟩) (by assumption) ?_
          rotate_left
          · intro W hSw
            (try dsimp only at hSw)
            go_simp
            (try with_reducible rfl)
          (try simp only [Act.put, List.setIfInBounds_toArray, List.set_cons_zero, List.set_cons_succ])
          refine wpAnyH_take (i := 2) (oi := ⟨_, _, _, _, _, _⟩) (v := ?_) rfl (by kernel_rfl) (by kernel_rfl) (by kernel_rfl) (fun _ _ _ h => h) (Or.inl ⟨by rfl, ?_⟩) (by assumption) ?_
          rotate_left
          · intro W hSw
            (try dsimp only at hSw)
            go_simp
            (try with_reducible rfl)
          (try simp only [Act.put, List.setIfInBounds_toArray, List.set_cons_zero, List.set_cons_succ])
          refine wpAnyH_take (i := 3) (oi := ⟨_, _, _, _, _, _⟩) (v := ?_) rfl (by kernel_rfl) (by kernel_rfl) (by kernel_rfl) (fun _ _ _ h => h) (Or.inl ⟨by rfl, ?_⟩) (by assumption) ?_
          rotate_left
          · intro W hSw
            (try dsimp only at hSw)
            go_simp
            (try with_reducible rfl)
          (try simp only [Act.put, List.setIfInBounds_toArray, List.set_cons_zero, List.set_cons_succ])
          refine wpAnyH_take (i := 4) (oi := ⟨_, _, _, _, _, _⟩) (v := ?_) rfl (by kernel_rfl) (by kernel_rfl) (by kernel_rfl) (fun _ _ _ h => h) (Or.inl ⟨by rfl, ?_⟩) (by assumption) ?_
          rotate_left
          · intro W hSw
            (try dsimp only at hSw)
            go_simp
            (try with_reducible rfl)
          (try simp only [Act.put, List.setIfInBounds_toArray, List.set_cons_zero, List.set_cons_succ])
          refine wpAnyH_ready (rs := [0]) (by kernel_rfl) (by simp) ?_
          refine AllReadyH.cons (o := ⟨_, _, _, _, _, _⟩) rfl (fun K hK => ?_) AllReadyH.nil
          go_simp
          refine hK.out _ _ ?_ (fun hHeld => ?_)
          · trivial
          clear hK K
          (try simp only [Act.put, List.setIfInBounds_toArray, List.set_cons_zero, List.set_cons_succ])
          refine wpAnyH_ready (rs := [5]) (by kernel_rfl) (by simp) ?_
          refine AllReadyH.cons (o := ⟨_, _, _, _, _, _⟩) rfl (fun K hK => ?_) AllReadyH.nil
          go_simp
          refine (puts_any _ _ _ _ [7] n txt (row_seven w1) (by omega) htx hn0 hn1).mono ?_
          rintro e w2 ⟨rfl, hb2⟩
          have HI2 : Hid (Below wi.heap.size wi w2) := HI1d.out.trans (hb2.mono HI1d.out.size)
          have HO2 := Lib.hid (owns_keep HO1.out (HD1.out.trans (hb2.mono HD1.out.size)) (Nat.le_refl _))
          clear hb2
          go_wp2_with fail
          refine hK.out _ _ ?_ (fun hHeld => ?_)
          · trivial
          clear hK K
          (try simp only [Act.put, List.setIfInBounds_toArray, List.set_cons_zero, List.set_cons_succ])
          refine wpAnyH_take (i := 6) (oi := ⟨_, _, _, _, _, _⟩) (v := ?_) rfl (by kernel_rfl) (by kernel_rfl) (by kernel_rfl) (fun _ _ _ h => h) (Or.inl ⟨by rfl, ?_⟩) (by assumption) ?_
          rotate_left
          · intro W hSw
            (try dsimp only at hSw)
            go_simp
            (try with_reducible rfl)
          (try simp only [Act.put, List.setIfInBounds_toArray, List.set_cons_zero, List.set_cons_succ])
          refine wpAnyH_take (i := 7) (oi := ⟨_, _, _, _, _, _⟩) (v := ?_) rfl (by kernel_rfl) (by kernel_rfl) (by kernel_rfl) (fun _ _ _ h => h) (Or.inl ⟨by rfl, ?_⟩) (by assumption) ?_
          rotate_left
          · intro W hSw
            (try dsimp only at hSw)
            go_simp
            (try with_reducible rfl)
          (try simp only [Act.put, List.setIfInBounds_toArray, List.set_cons_zero, List.set_cons_succ])
          refine wpAnyH_take (i := 8) (oi := ⟨_, _, _, _, _, _⟩) (v := ?_) rfl (by kernel_rfl) (by kernel_rfl) (by kernel_rfl) (fun _ _ _ h => h) (Or.inl ⟨by rfl, ?_⟩) (by assumption) ?_
          rotate_left
          · intro W hSw
            (try dsimp only at hSw)
            go_simp
            (try with_reducible rfl)
          (try simp only [Act.put, List.setIfInBounds_toArray, List.set_cons_zero, List.set_cons_succ])
          refine wpAnyH_take (i := 9) (oi := ⟨_, _, _, _, _, _⟩) (v := ?_) rfl (by kernel_rfl) (by kernel_rfl) (by kernel_rfl) (fun _ _ _ h => h) (Or.inl ⟨by rfl, ?_⟩) (by assumption) ?_
          rotate_left
          · intro W hSw
            (try dsimp only at hSw)
            go_simp
            (try with_reducible rfl)
          (try simp only [Act.put, List.setIfInBounds_toArray, List.set_cons_zero, List.set_cons_succ])
          refine wpAnyH_ready (rs := [10]) (by kernel_rfl) (by simp) ?_
          refine AllReadyH.cons (o := ⟨_, _, _, _, _, _⟩) rfl (fun K hK => ?_) AllReadyH.nil
          go_simp
          refine (puts_any w2 none 0 0 [] q ⟨#[]⟩ ⟨Byt.nil w2, fun _ => rfl⟩ (by omega) (by decide) hq0 hq1).mono ?_
          rintro e w3 ⟨rfl, hb3⟩
          have HI3 : Hid (Below wi.heap.size wi w3) := HI2.out.trans (hb3.mono HI2.out.size)
          have HO3 := Lib.hid (owns_keep HO2.out hb3 (Nat.le_refl _))
          clear hb3 HI2 HO2
          go_wp2_with fail
          refine hK.out _ _ ?_ (fun hHeld => ?_)
          · trivial
          clear hK K
          (try simp only [Act.put, List.setIfInBounds_toArray, List.set_cons_zero, List.set_cons_succ])
          refine wpAnyH_take (i := 11) (oi := ⟨_, _, _, _, _, _⟩) (v := ?_) rfl (by kernel_rfl) (by kernel_rfl) (by kernel_rfl) (fun _ _ _ h => h) (Or.inl ⟨by rfl, ?_⟩) (by assumption) ?_
          rotate_left
          · intro W hSw
            (try dsimp only at hSw)
            go_simp
            (try with_reducible rfl)
          (try simp only [Act.put, List.setIfInBounds_toArray, List.set_cons_zero, List.set_cons_succ])
          refine wpAnyH_take (i := 12) (oi := ⟨_, _, _, _, _, _⟩) (v := ?_) rfl (by kernel_rfl) (by kernel_rfl) (by kernel_rfl) (fun _ _ _ h => h) (Or.inl ⟨by rfl, ?_⟩) (by assumption) ?_
          rotate_left
          · intro W hSw
            (try dsimp only at hSw)
            go_simp
            (try with_reducible rfl)
          (try simp only [Act.put, List.setIfInBounds_toArray, List.set_cons_zero, List.set_cons_succ])
          refine wpAnyH_take (i := 13) (oi := ⟨_, _, _, _, _, _⟩) (v := ?_) rfl (by kernel_rfl) (by kernel_rfl) (by kernel_rfl) (fun _ _ _ h => h) (Or.inl ⟨by rfl, ?_⟩) (by assumption) ?_
          rotate_left
          · intro W hSw
            (try dsimp only at hSw)
            go_simp
            (try with_reducible rfl)
          (try simp only [Act.put, List.setIfInBounds_toArray, List.set_cons_zero, List.set_cons_succ])
          refine wpAnyH_take (i := 14) (oi := ⟨_, _, _, _, _, _⟩) (v := ?_) rfl (by kernel_rfl) (by kernel_rfl) (by kernel_rfl) (fun _ _ _ h => h) (Or.inl ⟨by rfl, ?_⟩) (by assumption) ?_
          rotate_left
          · intro W hSw
            (try dsimp only at hSw)
            go_simp
            (try with_reducible rfl)
          (try simp only [Act.put, List.setIfInBounds_toArray, List.set_cons_zero, List.set_cons_succ])
          refine wpAnyH_ready (rs := [15]) (by kernel_rfl) (by simp) ?_
          refine AllReadyH.cons (o := ⟨_, _, _, _, _, _⟩) rfl (fun K hK => ?_) AllReadyH.nil
          go_simp
          refine (reads_any w3 _ _ _ (encN n) 9 (owns_row HO3.out HA.out).1 (by omega) (by omega) (by omega)).mono ?_
          rintro e w4 ⟨rfl, hb4⟩
          have HI4 : Hid (Below wi.heap.size wi w4) := HI3.out.trans (hb4.mono HI3.out.size)
          have HO4 := Lib.hid (owns_keep HO3.out hb4 (Nat.le_refl _))
          clear hb4 HI3 HO3
          go_wp2_with fail
          refine hK.out _ _ ?_ (fun hHeld => ?_)
          · trivial
          clear hK K
          (try simp only [Act.put, List.setIfInBounds_toArray, List.set_cons_zero, List.set_cons_succ])
          refine wpAnyH_take (i := 16) (oi := ⟨_, _, _, _, _, _⟩) (v := ?_) rfl (by kernel_rfl) (by kernel_rfl) (by kernel_rfl) (fun _ _ _ h => h) (Or.inl ⟨by rfl, ?_⟩) (by assumption) ?_
          rotate_left
          · intro W hSw
            (try dsimp only at hSw)
            go_simp
            (try with_reducible rfl)
          (try simp only [Act.put, List.setIfInBounds_toArray, List.set_cons_zero, List.set_cons_succ])
          refine wpAnyH_take (i := 17) (oi := ⟨_, _, _, _, _, _⟩) (v := ?_) rfl (by kernel_rfl) (by kernel_rfl) (by kernel_rfl) (fun _ _ _ h => h) (Or.inl ⟨by rfl, ?_⟩) (by assumption) ?_
          rotate_left
          · intro W hSw
            (try dsimp only at hSw)
            go_simp
            (try with_reducible rfl)
          (try simp only [Act.put, List.setIfInBounds_toArray, List.set_cons_zero, List.set_cons_succ])
          refine wpAnyH_take (i := 18) (oi := ⟨_, _, _, _, _, _⟩) (v := ?_) rfl (by kernel_rfl) (by kernel_rfl) (by kernel_rfl) (fun _ _ _ h => h) (Or.inl ⟨by rfl, ?_⟩) (by assumption) ?_
          rotate_left
          · intro W hSw
            (try dsimp only at hSw)
            go_simp
            (try with_reducible rfl)
          (try simp only [Act.put, List.setIfInBounds_toArray, List.set_cons_zero, List.set_cons_succ])
          refine wpAnyH_take (i := 19) (oi := ⟨_, _, _, _, _, _⟩) (v := ?_) rfl (by kernel_rfl) (by kernel_rfl) (by kernel_rfl) (fun _ _ _ h => h) (Or.inl ⟨by rfl, ?_⟩) (by assumption) ?_
          rotate_left
          · intro W hSw
            (try dsimp only at hSw)
            go_simp
            (try with_reducible rfl)
          (try simp only [Act.put, List.setIfInBounds_toArray, List.set_cons_zero, List.set_cons_succ])
          refine wpAnyH_ready (rs := [20]) (by kernel_rfl) (by simp) ?_
          refine AllReadyH.cons (o := ⟨_, _, _, _, _, _⟩) rfl (fun K hK => ?_) AllReadyH.nil
          go_simp
          refine hK.out _ _ ?_ (fun hHeld => ?_)
          · trivial
          clear hK K
          (try simp only [Act.put, List.setIfInBounds_toArray, List.set_cons_zero, List.set_cons_succ])
          refine wpAnyH_ready (rs := [21]) (by kernel_rfl) (by simp) ?_
          refine AllReadyH.cons (o := ⟨_, _, _, _, _, _⟩) rfl (fun K hK => ?_) AllReadyH.nil
          refine held_append (by rfl) (.tmp 41) (.tmp 42) rfl wi.heap.size k (encN n) [0] _ rfl (HO4.out.alloc _) (HI4.out.alloc HI4.out.size _).size ⟨w4.heap.size, 0, none⟩ 1 1 rfl (row_zero w4) (by omega) (by omega) wi (HI4.out.alloc HI4.out.size _) ?_
          intro g5 c5 w5 ho5 hp5 hb5
          have HY5 := Lib.hid (owns_row ho5 (all_append HA.out all_zero)).1
          have HO5 := Lib.hid hp5
          have HI5 := Lib.hid hb5
          clear ho5 hp5 hb5 HI4 HO4
          refine hK.out _ _ ?_ (fun hHeld => ?_)
          · trivial
          clear hK K
          (try simp only [Act.put, List.setIfInBounds_toArray, List.set_cons_zero, List.set_cons_succ])
          refine wpAnyH_ready (rs := [22]) (by kernel_rfl) (by simp) ?_
          refine AllReadyH.cons (o := ⟨_, _, _, _, _, _⟩) rfl (fun K hK => ?_) AllReadyH.nil
          go_simp
          refine (reads_any w5 _ _ _ (encN n ++ [0]) 1 HY5.out (by omega) (by omega) (by omega)).mono ?_
          rintro e w6 ⟨rfl, hb6⟩
          have HI6 : Hid (Below wi.heap.size wi w6) := HI5.out.trans (hb6.mono HI5.out.size)
          have HO6 := Lib.hid (owns_keep HO5.out hb6 (Nat.le_refl _))
          clear hb6 HI5 HO5 HY5
          go_wp2_with fail
          refine hK.out _ _ ?_ (fun hHeld => ?_)
          · trivial
          clear hK K
          (try simp only [Act.put, List.setIfInBounds_toArray, List.set_cons_zero, List.set_cons_succ])
          refine wpAnyH_take (i := 23) (oi := ⟨_, _, _, _, _, _⟩) (v := ?_) rfl (by kernel_rfl) (by kernel_rfl) (by kernel_rfl) (fun _ _ _ h => h) (Or.inl ⟨by rfl, ?_⟩) (by assumption) ?_
          rotate_left
          · intro W hSw
            (try dsimp only at hSw)
            go_simp
            (try with_reducible rfl)
          (try simp only [Act.put, List.setIfInBounds_toArray, List.set_cons_zero, List.set_cons_succ])
          refine wpAnyH_take (i := 24) (oi := ⟨_, _, _, _, _, _⟩) (v := ?_) rfl (by kernel_rfl) (by kernel_rfl) (by kernel_rfl) (fun _ _ _ h => h) (Or.inl ⟨by rfl, ?_⟩) (by assumption) ?_
          rotate_left
          · intro W hSw
            (try dsimp only at hSw)
            go_simp
            (try with_reducible rfl)
          (try simp only [Act.put, List.setIfInBounds_toArray, List.set_cons_zero, List.set_cons_succ])
          refine wpAnyH_take (i := 25) (oi := ⟨_, _, _, _, _, _⟩) (v := ?_) rfl (by kernel_rfl) (by kernel_rfl) (by kernel_rfl) (fun _ _ _ h => h) (Or.inl ⟨by rfl, ?_⟩) (by assumption) ?_
          rotate_left
          · intro W hSw
            (try dsimp only at hSw)
            go_simp
            (try with_reducible rfl)
          (try simp only [Act.put, List.setIfInBounds_toArray, List.set_cons_zero, List.set_cons_succ])
          refine wpAnyH_take (i := 26) (oi := ⟨_, _, _, _, _, _⟩) (v := ?_) rfl (by kernel_rfl) (by kernel_rfl) (by kernel_rfl) (fun _ _ _ h => h) (Or.inl ⟨by rfl, ?_⟩) (by assumption) ?_
          rotate_left
          · intro W hSw
            (try dsimp only at hSw)
            go_simp
            (try with_reducible rfl)
          (try simp only [Act.put, List.setIfInBounds_toArray, List.set_cons_zero, List.set_cons_succ])
          refine wpAnyH_take (i := 27) (oi := ⟨_, _, _, _, _, _⟩) (v := ?_) rfl (by kernel_rfl) (by kernel_rfl) (by kernel_rfl) (fun _ _ _ h => h) (Or.inl ⟨by rfl, ?_⟩) (by assumption) ?_
          rotate_left
          · intro W hSw
            (try dsimp only at hSw)
            go_simp
            (try with_reducible rfl)
          (try simp only [Act.put, List.setIfInBounds_toArray, List.set_cons_zero, List.set_cons_succ])
          refine wpAnyH_take (i := 28) (oi := ⟨_, _, _, _, _, _⟩) (v := ?_) rfl (by kernel_rfl) (by kernel_rfl) (by kernel_rfl) (fun _ _ _ h => h) (Or.inl ⟨by rfl, ?_⟩) (by assumption) ?_
          rotate_left
          · intro W hSw
            (try dsimp only at hSw)
            go_simp
            (try with_reducible rfl)
          (try simp only [Act.put, List.setIfInBounds_toArray, List.set_cons_zero, List.set_cons_succ])
          refine wpAnyH_take (i := 29) (oi := ⟨_, _, _, _, _, _⟩) (v := ?_) rfl (by kernel_rfl) (by kernel_rfl) (by kernel_rfl) (fun _ _ _ h => h) (Or.inl ⟨by rfl, ?_⟩) (by assumption) ?_
          rotate_left
          · intro W hSw
            (try dsimp only at hSw)
            go_simp
            (try with_reducible rfl)
          (try simp only [Act.put, List.setIfInBounds_toArray, List.set_cons_zero, List.set_cons_succ])
          refine wpAnyH_take (i := 30) (oi := ⟨_, _, _, _, _, _⟩) (v := ?_) rfl (by kernel_rfl) (by kernel_rfl) (by kernel_rfl) (fun _ _ _ h => h) (Or.inl ⟨by rfl, ?_⟩) (by assumption) ?_
          rotate_left
          · intro W hSw
            (try dsimp only at hSw)
            go_simp
            (try with_reducible rfl)
          (try simp only [Act.put, List.setIfInBounds_toArray, List.set_cons_zero, List.set_cons_succ])
          refine wpAnyH_ready (rs := [31]) (by kernel_rfl) (by simp) ?_
          refine AllReadyH.cons (o := ⟨_, _, _, _, _, _⟩) rfl (fun K hK => ?_) AllReadyH.nil
          go_simp
          refine (reads_any w6 _ _ _ ((encN n).take (k - 1)) 0 (byt_upto (owns_row HO6.out HA.out).1 (k - 1) (by omega)) (by omega) (by omega) (by omega)).mono ?_
          rintro e w7 ⟨rfl, hb7⟩
          have HI7 : Hid (Below wi.heap.size wi w7) := HI6.out.trans (hb7.mono HI6.out.size)
          have HO7 := Lib.hid (owns_keep HO6.out hb7 (Nat.le_refl _))
          clear hb7 HI6 HO6
          go_wp2_with fail
          refine hK.out _ _ ?_ (fun hHeld => ?_)
          · trivial
          clear hK K
          (try simp only [Act.put, List.setIfInBounds_toArray, List.set_cons_zero, List.set_cons_succ])
          refine wpAnyH_take (i := 32) (oi := ⟨_, _, _, _, _, _⟩) (v := ?_) rfl (by kernel_rfl) (by kernel_rfl) (by kernel_rfl) (fun _ _ _ h => h) (Or.inl ⟨by rfl, ?_⟩) (by assumption) ?_
          rotate_left
          · intro W hSw
            (try dsimp only at hSw)
            go_simp
            (try with_reducible rfl)
          (try simp only [Act.put, List.setIfInBounds_toArray, List.set_cons_zero, List.set_cons_succ])
          refine wpAnyH_take (i := 33) (oi := ⟨_, _, _, _, _, _⟩) (v := ?_) rfl (by kernel_rfl) (by kernel_rfl) (by kernel_rfl) (fun _ _ _ h => h) (Or.inl ⟨by rfl, ?_⟩) (by assumption) ?_
          rotate_left
          · intro W hSw
            (try dsimp only at hSw)
            go_simp
            (try with_reducible rfl)
          (try simp only [Act.put, List.setIfInBounds_toArray, List.set_cons_zero, List.set_cons_succ])
          refine wpAnyH_take (i := 34) (oi := ⟨_, _, _, _, _, _⟩) (v := ?_) rfl (by kernel_rfl) (by kernel_rfl) (by kernel_rfl) (fun _ _ _ h => h) (Or.inl ⟨by rfl, ?_⟩) (by assumption) ?_
          rotate_left
          · intro W hSw
            (try dsimp only at hSw)
            go_simp
            (try with_reducible rfl)
          (try simp only [Act.put, List.setIfInBounds_toArray, List.set_cons_zero, List.set_cons_succ])
          refine wpAnyH_take (i := 35) (oi := ⟨_, _, _, _, _, _⟩) (v := ?_) rfl (by kernel_rfl) (by kernel_rfl) (by kernel_rfl) (fun _ _ _ h => h) (Or.inl ⟨by rfl, ?_⟩) (by assumption) ?_
          rotate_left
          · intro W hSw
            (try dsimp only at hSw)
            go_simp
            (try with_reducible rfl)
          (try simp only [Act.put, List.setIfInBounds_toArray, List.set_cons_zero, List.set_cons_succ])
          refine wpAnyH_take (i := 36) (oi := ⟨_, _, _, _, _, _⟩) (v := ?_) rfl (by kernel_rfl) (by kernel_rfl) (by kernel_rfl) (fun _ _ _ h => h) (Or.inl ⟨by rfl, ?_⟩) (by assumption) ?_
          rotate_left
          · intro W hSw
            (try dsimp only at hSw)
            go_simp
            (try with_reducible rfl)
          (try simp only [Act.put, List.setIfInBounds_toArray, List.set_cons_zero, List.set_cons_succ])
          refine wpAnyH_take (i := 37) (oi := ⟨_, _, _, _, _, _⟩) (v := ?_) rfl (by kernel_rfl) (by kernel_rfl) (by kernel_rfl) (fun _ _ _ h => h) (Or.inl ⟨by rfl, ?_⟩) (by assumption) ?_
          rotate_left
          · intro W hSw
            (try dsimp only at hSw)
            go_simp
            (try with_reducible rfl)
          (try simp only [Act.put, List.setIfInBounds_toArray, List.set_cons_zero, List.set_cons_succ])
          refine wpAnyH_take (i := 38) (oi := ⟨_, _, _, _, _, _⟩) (v := ?_) rfl (by kernel_rfl) (by kernel_rfl) (by kernel_rfl) (fun _ _ _ h => h) (Or.inl ⟨by rfl, ?_⟩) (by assumption) ?_
          rotate_left
          · intro W hSw
            (try dsimp only at hSw)
            go_simp
            (try with_reducible rfl)
          (try simp only [Act.put, List.setIfInBounds_toArray, List.set_cons_zero, List.set_cons_succ])
          refine wpAnyH_take (i := 39) (oi := ⟨_, _, _, _, _, _⟩) (v := ?_) rfl (by kernel_rfl) (by kernel_rfl) (by kernel_rfl) (fun _ _ _ h => h) (Or.inl ⟨by rfl, ?_⟩) (by assumption) ?_
          rotate_left
          · intro W hSw
            (try dsimp only at hSw)
            go_simp
            (try with_reducible rfl)
          (try simp only [Act.put, List.setIfInBounds_toArray, List.set_cons_zero, List.set_cons_succ])
          refine wpAnyH_take (i := 40) (oi := ⟨_, _, _, _, _, _⟩) (v := ?_) rfl (by kernel_rfl) (by kernel_rfl) (by kernel_rfl) (fun _ _ _ h => h) (Or.inl ⟨by rfl, ?_⟩) (by assumption) ?_
          rotate_left
          · intro W hSw
            (try dsimp only at hSw)
            go_simp
            (try with_reducible rfl)
          (try simp only [Act.put, List.setIfInBounds_toArray, List.set_cons_zero, List.set_cons_succ])
          refine wpAnyH_take (i := 41) (oi := ⟨_, _, _, _, _, _⟩) (v := ?_) rfl (by kernel_rfl) (by kernel_rfl) (by kernel_rfl) (fun _ _ _ h => h) (Or.inl ⟨by rfl, ?_⟩) (by assumption) ?_
          rotate_left
          · intro W hSw
            (try dsimp only at hSw)
            go_simp
            (try with_reducible rfl)
          (try simp only [Act.put, List.setIfInBounds_toArray, List.set_cons_zero, List.set_cons_succ])
          refine wpAnyH_take (i := 42) (oi := ⟨_, _, _, _, _, _⟩) (v := ?_) rfl (by kernel_rfl) (by kernel_rfl) (by kernel_rfl) (fun _ _ _ h => h) (Or.inl ⟨by rfl, ?_⟩) (by assumption) ?_
          rotate_left
          · intro W hSw
            (try dsimp only at hSw)
            go_simp
            (try with_reducible rfl)
          (try simp only [Act.put, List.setIfInBounds_toArray, List.set_cons_zero, List.set_cons_succ])
          refine wpAnyH_take (i := 43) (oi := ⟨_, _, _, _, _, _⟩) (v := ?_) rfl (by kernel_rfl) (by kernel_rfl) (by kernel_rfl) (fun _ _ _ h => h) (Or.inl ⟨by rfl, ?_⟩) (by assumption) ?_
          rotate_left
          · intro W hSw
            (try dsimp only at hSw)
            go_simp
            (try with_reducible rfl)
          (try simp only [Act.put, List.setIfInBounds_toArray, List.set_cons_zero, List.set_cons_succ])
          refine wpAnyH_take (i := 44) (oi := ⟨_, _, _, _, _, _⟩) (v := ?_) rfl (by kernel_rfl) (by kernel_rfl) (by kernel_rfl) (fun _ _ _ h => h) (Or.inl ⟨by rfl, ?_⟩) (by assumption) ?_
          rotate_left
          · intro W hSw
            (try dsimp only at hSw)
            go_simp
            (try with_reducible rfl)
          (try simp only [Act.put, List.setIfInBounds_toArray, List.set_cons_zero, List.set_cons_succ])
          refine wpAnyH_take (i := 45) (oi := ⟨_, _, _, _, _, _⟩) (v := ?_) rfl (by kernel_rfl) (by kernel_rfl) (by kernel_rfl) (fun _ _ _ h => h) (Or.inl ⟨by rfl, ?_⟩) (by assumption) ?_
          rotate_left
          · intro W hSw
            (try dsimp only at hSw)
            go_simp
            (try with_reducible rfl)
          (try simp only [Act.put, List.setIfInBounds_toArray, List.set_cons_zero, List.set_cons_succ])
          refine wpAnyH_take (i := 46) (oi := ⟨_, _, _, _, _, _⟩) (v := ?_) rfl (by kernel_rfl) (by kernel_rfl) (by kernel_rfl) (fun _ _ _ h => h) (Or.inl ⟨by rfl, ?_⟩) (by assumption) ?_
          rotate_left
          · intro W hSw
            (try dsimp only at hSw)
            go_simp
            (try with_reducible rfl)
          (try simp only [Act.put, List.setIfInBounds_toArray, List.set_cons_zero, List.set_cons_succ])
          refine wpAnyH_take (i := 47) (oi := ⟨_, _, _, _, _, _⟩) (v := ?_) rfl (by kernel_rfl) (by kernel_rfl) (by kernel_rfl) (fun _ _ _ h => h) (Or.inl ⟨by rfl, ?_⟩) (by assumption) ?_
          rotate_left
          · intro W hSw
            (try dsimp only at hSw)
            go_simp
            (try with_reducible rfl)
          (try simp only [Act.put, List.setIfInBounds_toArray, List.set_cons_zero, List.set_cons_succ])
          have hcell : w7.cell? ⟨g, k - 1, none⟩ = some (.int .u8 (y : Int)) := by rw [HYE.out]; exact (pre_owns HO7.out).1.cell (k - 1) (by rw [← HK.out]; omega)
          refine wpAnyH_strengthen (S' := (fun W => W.cell? ⟨g, k - 1, none⟩ = some (.int .u8 (y : Int)))) (fun _ _ => trivial) _ _ _ _ ?_
          clear hHeld
          have hHeld : (fun W => W.cell? ⟨g, k - 1, none⟩ = some (.int .u8 (y : Int))) w7 := hcell
          refine wpAnyH_take (i := 48) (oi := ⟨_, _, _, _, _, _⟩) (v := ?_) rfl (by kernel_rfl) (by kernel_rfl) (by kernel_rfl) (fun _ _ _ h => h) (Or.inl ⟨by rfl, ?_⟩) (by assumption) ?_
          rotate_left
          · intro W hSw
            (try dsimp only at hSw)
            go_simp
            (try with_reducible rfl)
          (try simp only [Act.put, List.setIfInBounds_toArray, List.set_cons_zero, List.set_cons_succ])
          refine wpAnyH_take (i := 49) (oi := ⟨_, _, _, _, _, _⟩) (v := ?_) rfl (by kernel_rfl) (by kernel_rfl) (by kernel_rfl) (fun _ _ _ h => h) (Or.inl ⟨by rfl, ?_⟩) (by assumption) ?_
          rotate_left
          · intro W hSw
            (try dsimp only at hSw)
            go_simp
            (try with_reducible rfl)
          (try simp only [Act.put, List.setIfInBounds_toArray, List.set_cons_zero, List.set_cons_succ])
          have hcell2 : (w7.alloc (.cells #[.int .u8 (z : Int), .int .u8 0] 5)).cell? ⟨g, k - 1, none⟩ = some (.int .u8 (y : Int)) := by
            rw [(((Below.refl w7.heap.size w7).alloc (Nat.le_refl _) _).cell (p := ⟨g, k - 1, none⟩) ((pre_owns HO7.out).1.lt))]; exact hcell
          refine wpAnyH_ready (rs := [50]) (by kernel_rfl) (by simp) ?_
          refine AllReadyH.cons (o := ⟨_, _, _, _, _, _⟩) rfl (fun K hK => ?_) AllReadyH.nil
          go_simp
          refine hK.out _ _ ?_ (fun hHeld => ?_)
          · exact hcell2
          clear hK K
          (try simp only [Act.put, List.setIfInBounds_toArray, List.set_cons_zero, List.set_cons_succ])
          refine wpAnyH_ready (rs := [51]) (by kernel_rfl) (by simp) ?_
          refine AllReadyH.cons (o := ⟨_, _, _, _, _, _⟩) rfl (fun K hK => ?_) AllReadyH.nil
          refine held_append_grow (by rfl) (.tmp 64) (.tmp 72) rfl g (k - 1) ((encN n).take (k - 1)) [z, 0] rfl (row_cut HO7.out HA.out (k - 1) (by omega) _) ⟨w7.heap.size, 0, none⟩ 2 2 rfl (row_two w7 z hz8) (by omega) (by omega) ?_
          intro g8 n8 c8 w8 hn8 hy8 hb8
          have HY8 := Lib.hid hy8
          have HI8 : Hid (Below wi.heap.size wi w8) := (HI7.out.alloc HI7.out.size _).trans (hb8.mono (HI7.out.alloc HI7.out.size _).size)
          have hcell3 : w8.cell? ⟨g, k - 1, none⟩ = some (.int .u8 (y : Int)) := by
            rw [hb8.cell (p := ⟨g, k - 1, none⟩) (by have := (pre_owns HO7.out).1.lt; simp; omega)]; exact hcell2
          have hn8b : n8 ≤ 20 := by omega
          clear hn8 hy8 hb8 hcell hcell2 HI7 HO7
          refine hK.out _ _ ?_ (fun hHeld => ?_)
          · exact hcell3
          clear hK K
          (try simp only [Act.put, List.setIfInBounds_toArray, List.set_cons_zero, List.set_cons_succ])
          refine wpAnyH_ready (rs := [52]) (by kernel_rfl) (by simp) ?_
          refine AllReadyH.cons (o := ⟨_, _, _, _, _, _⟩) rfl (fun K hK => ?_) AllReadyH.nil
          go_simp
          refine (reads_any w8 _ _ _ _ 5 HY8.out (by omega) (by omega) (by omega)).mono ?_
          rintro e w9 ⟨rfl, hb9⟩
          have HI9 : Hid (Below wi.heap.size wi w9) := HI8.out.trans (hb9.mono HI8.out.size)
          have hcell4 : w9.cell? ⟨g, k - 1, none⟩ = some (.int .u8 (y : Int)) := by
            rw [hb9.cell (p := ⟨g, k - 1, none⟩) (World.block_lt_of_cell? w8 _ hcell3)]; exact hcell3
          clear hb9
          go_wp2_with fail
          refine hK.out _ _ ?_ (fun hHeld => ?_)
          · exact hcell4
          clear hK K
          (try simp only [Act.put, List.setIfInBounds_toArray, List.set_cons_zero, List.set_cons_succ])
          refine wpAnyH_take (i := 53) (oi := ⟨_, _, _, _, _, _⟩) (v := ?_) rfl (by kernel_rfl) (by kernel_rfl) (by kernel_rfl) (fun _ _ _ h => h) (Or.inl ⟨by rfl, ?_⟩) (by assumption) ?_
          rotate_left
          · intro W hSw
            (try dsimp only at hSw)
            go_simp
            (try with_reducible rfl)
          (try simp only [Act.put, List.setIfInBounds_toArray, List.set_cons_zero, List.set_cons_succ])
          refine wpAnyH_take (i := 54) (oi := ⟨_, _, _, _, _, _⟩) (v := ?_) rfl (by kernel_rfl) (by kernel_rfl) (by kernel_rfl) (fun _ _ _ h => h) (Or.inl ⟨by rfl, ?_⟩) (by assumption) ?_
          rotate_left
          · intro W hSw
            (try dsimp only at hSw)
            go_simp
            (try with_reducible rfl)
          (try simp only [Act.put, List.setIfInBounds_toArray, List.set_cons_zero, List.set_cons_succ])
          refine wpAnyH_done (by kernel_rfl) ?_ _
          refine NoPanic.normal ?_
          go_wp2
          go_roundw
          case rel => exact ⟨d + 1, by omega, by omega, by go_num, HBI.out.trans (HI9.out.mono HBI.out.size)⟩
          case measure => simp [intOf]; omega
        · go_wp2
          go_roundw
          case rel => exact ⟨i + 1, by omega, by go_num, HBI.out⟩
          case measure => simp [intOf]; omega
    · have hdi : decide ((i : Int) < 64) = false := by simp; omega
      go_wp2
      go_loopw [5] (fun v5 wr => ∃ j : Nat, j ≤ 13 ∧ v5 = .int .i64 j ∧ Below w.heap.size w wr) (fun v5 _ => (13 - intOf v5).toNat)
      case atStart => exact ⟨0, by omega, rfl, HBO.out⟩
      case round =>
        obtain ⟨j, hj, rfl, hbel⟩ := hrel
        have HBJ := Lib.hid hbel
        clear hbel
        obtain ⟨wj, rfl⟩ : ∃ wj : World, wj = wr := ⟨_, rfl⟩
        by_cases hj13 : j < 13
        · have hdj : decide ((j : Int) < 13) = true := by simp; omega
          go_wp2
          go_loopw [6, 7] (fun v6 v7 wr => ∃ (m : Nat) (a : Option Addr) (c : Nat), m ≤ j ∧ v7 = .int .i64 m ∧ v6 = .slice a m c ∧ wr.ownsRow wj.heap.size 5 1 (.slice a m c) m (vals (List.replicate m 255)) ∧ Below wj.heap.size wj wr) (fun _ v7 _ => (13 - intOf v7).toNat)
          case atStart => exact ⟨0, none, 0, by omega, rfl, rfl, World.ownsRow_nil _ _ _ _, Below.refl _ _⟩
          case round =>
            obtain ⟨m, a6, c6, hm, rfl, rfl, hown, hbel⟩ := hrel
            have HO := Lib.hid hown
            have HI := Lib.hid hbel
            clear hown hbel
            by_cases hmj : m < j
            · have HW2 : Hid (Below wj.heap.size wj (wr.alloc (.cells #[.int .u8 255] 5))) := HI.out.alloc HI.out.size _
              go_wp2_with (at_builtin; refine guarded_append (by rfl) (.tmp 86) (.tmp 87) rfl wj.heap.size m (List.replicate m 255) [255] _ rfl (HO.out.alloc _) HW2.out.size ⟨wr.heap.size, 0, none⟩ 1 1 rfl (row_byte wr 255 (by omega)) (by omega) (by omega) wj HW2.out ?_)
              intro g3 c3 w3 ho3 hp3 hb3
              have HO3 : Hid (w3.ownsRow wj.heap.size 5 1 (.slice (some ⟨g3, 0, none⟩) (m + 1) c3) (m + 1) (vals (List.replicate (m + 1) 255))) := by
                show _
                rw [List.replicate_succ']
                exact ho3
              have HB3 := Lib.hid hb3
              clear ho3 hp3 hb3
              go_wp2
              go_roundw
              case rel => exact ⟨m + 1, _, _, by omega, by go_num, rfl, HO3.out, HB3.out⟩
              case measure => simp [intOf]; omega
            · obtain rfl : j = m := by omega
              obtain ⟨X, hX⟩ : ∃ X, X = List.replicate j 255 := ⟨_, rfl⟩
              rw [← hX] at HO
              have HA : Hid (AllB X) := by
                show ∀ x ∈ X, _
                rw [hX]
                intro x hx
                have := List.eq_of_mem_replicate hx
                omega
              clear hX
              obtain ⟨wr1, rfl⟩ : ∃ wr1 : World, wr1 = wr := ⟨_, rfl⟩
              have HR1 := Lib.hid (owns_reads HO.out HA.out)
              go_wp2_with fail
              refine (reads_any wr1 _ _ _ X 9 HR1.out (by omega) (by omega) (by omega)).mono ?_
              rintro e w1 ⟨rfl, hb1⟩
              have HI1 : Hid (Below wj.heap.size wj w1) := HI.out.trans (hb1.mono HI.out.size)
              have HO1 := Lib.hid (owns_keep HO.out hb1 (Nat.le_refl _))
              clear hb1 HI HO HR1
              have HW1 : Hid (Below wj.heap.size wj (w1.alloc (.cells #[.int .u8 1] 5))) := HI1.out.alloc HI1.out.size _
              go_wp2_with (at_builtin; refine guarded_append (by rfl) (.tmp 93) (.tmp 94) rfl wj.heap.size j X [1] _ rfl (HO1.out.alloc _) HW1.out.size ⟨w1.heap.size, 0, none⟩ 1 1 rfl (row_byte w1 1 (by omega)) (by omega) (by omega) wj HW1.out ?_)
              intro g2 c2 w2 ho2 hp2 hb2
              have HY2 := Lib.hid (owns_row ho2 (all_append HA.out (all_small (by decide)))).1
              have HO2 := Lib.hid hp2
              have HI2 := Lib.hid hb2
              clear ho2 hp2 hb2 HW1 HI1 HO1
              go_wp2_with fail
              refine (reads_any w2 _ _ _ _ 9 HY2.out (by omega) (by omega) (by omega)).mono ?_
              rintro e w3 ⟨rfl, hb3⟩
              have HI3 : Hid (Below wj.heap.size wj w3) := HI2.out.trans (hb3.mono HI2.out.size)
              have HO3 := Lib.hid (owns_keep HO2.out hb3 (Nat.le_refl _))
              clear hb3 HI2 HO2 HY2
              have HW3 : Hid (Below wj.heap.size wj (w3.alloc (.cells #[.int .u8 2] 5))) := HI3.out.alloc HI3.out.size _
              go_wp2_with (at_builtin; refine guarded_append (by rfl) (.tmp 100) (.tmp 101) rfl wj.heap.size j X [2] _ rfl (HO3.out.alloc _) HW3.out.size ⟨w3.heap.size, 0, none⟩ 1 1 rfl (row_byte w3 2 (by omega)) (by omega) (by omega) wj HW3.out ?_)
              intro g4 c4 w4 ho4 hp4 hb4
              have HY4 := Lib.hid (owns_row ho4 (all_append HA.out (all_small (by decide)))).1
              have HO4 := Lib.hid hp4
              have HI4 := Lib.hid hb4
              clear ho4 hp4 hb4 HW3 HI3 HO3
              go_wp2_with fail
              refine (reads_any w4 _ _ _ _ 9 HY4.out (by omega) (by omega) (by omega)).mono ?_
              rintro e w5 ⟨rfl, hb5⟩
              have HI5 : Hid (Below wj.heap.size wj w5) := HI4.out.trans (hb5.mono HI4.out.size)
              have HO5 := Lib.hid (owns_keep HO4.out hb5 (Nat.le_refl _))
              clear hb5 HI4 HO4 HY4
              have HW5 : Hid (Below wj.heap.size wj (w5.alloc (.cells #[.int .u8 127] 5))) := HI5.out.alloc HI5.out.size _
              go_wp2_with (at_builtin; refine guarded_append (by rfl) (.tmp 107) (.tmp 108) rfl wj.heap.size j X [127] _ rfl (HO5.out.alloc _) HW5.out.size ⟨w5.heap.size, 0, none⟩ 1 1 rfl (row_byte w5 127 (by omega)) (by omega) (by omega) wj HW5.out ?_)
              intro g6 c6 w6 ho6 hp6 hb6
              have HY6 := Lib.hid (owns_row ho6 (all_append HA.out (all_small (by decide)))).1
              have HO6 := Lib.hid hp6
              have HI6 := Lib.hid hb6
              clear ho6 hp6 hb6 HW5 HI5 HO5
              go_wp2_with fail
              refine (reads_any w6 _ _ _ _ (-1) HY6.out (by omega) (by omega) (by omega)).mono ?_
              rintro e w7 ⟨rfl, hb7⟩
              have HI7 : Hid (Below wj.heap.size wj w7) := HI6.out.trans (hb7.mono HI6.out.size)
              have HO7 := Lib.hid (owns_keep HO6.out hb7 (Nat.le_refl _))
              clear hb7 HI6 HO6 HY6
              have HW7 : Hid (Below wj.heap.size wj (w7.alloc (.cells #[.int .u8 0] 5))) := HI7.out.alloc HI7.out.size _
              go_wp2_with (at_builtin; refine guarded_append (by rfl) (.tmp 114) (.tmp 115) rfl wj.heap.size j X [0] _ rfl (HO7.out.alloc _) HW7.out.size ⟨w7.heap.size, 0, none⟩ 1 1 rfl (row_byte w7 0 (by omega)) (by omega) (by omega) wj HW7.out ?_)
              intro g8 c8 w8 ho8 hp8 hb8
              have HY8 := Lib.hid (owns_row ho8 (all_append HA.out (all_small (by decide)))).1
              have HO8 := Lib.hid hp8
              have HI8 := Lib.hid hb8
              clear ho8 hp8 hb8 HW7 HI7 HO7
              go_wp2_with fail
              refine (reads_any w8 _ _ _ _ 4611686018427387904 HY8.out (by omega) (by omega) (by omega)).mono ?_
              rintro e w9 ⟨rfl, hb9⟩
              have HI9 : Hid (Below wj.heap.size wj w9) := HI8.out.trans (hb9.mono HI8.out.size)
              have HO9 := Lib.hid (owns_keep HO8.out hb9 (Nat.le_refl _))
              clear hb9 HI8 HO8 HY8
              have HBN : Hid (Below w.heap.size w w9) := HBJ.out.trans (HI9.out.mono HBJ.out.size)
              clear HI9 HO9
              go_wp2
              go_roundw
              case rel => exact ⟨j + 1, by omega, by go_num, HBN.out⟩
              case measure => simp [intOf]; omega
        · go_wp2_with fail
          refine (refText_whole wj).mono ?_
          rintro e w1 ⟨g1, c1, rfl, HY1, hb1⟩
          have HI1 : Hid (Below w.heap.size w w1) := HBJ.out.trans (hb1.out.mono HBJ.out.size)
          go_wp2_with fail
          refine (reads_any w1 _ _ _ _ 5 HY1.out (by omega) (by omega) (by omega)).mono ?_
          rintro e w2 ⟨rfl, hb2⟩
          have HI2 : Hid (Below w.heap.size w w2) := HI1.out.trans (hb2.mono HI1.out.size)
          clear hb1 hb2 HY1 HI1
          go_wp2_with fail
          refine (refText_whole w2).mono ?_
          rintro e w3 ⟨g3, c3, rfl, HY3, hb3⟩
          have HI3 : Hid (Below w.heap.size w w3) := HI2.out.trans (hb3.out.mono HI2.out.size)
          go_wp2_with fail
          refine (reads_any w3 _ _ _ _ 4 HY3.out (by omega) (by omega) (by omega)).mono ?_
          rintro e w4 ⟨rfl, hb4⟩
          have HI4 : Hid (Below w.heap.size w w4) := HI3.out.trans (hb4.mono HI3.out.size)
          clear hb3 hb4 HY3 HI3
          go_wp2_with fail
          refine (refText_whole w4).mono ?_
          rintro e w5 ⟨g5, c5, rfl, HY5, hb5⟩
          have HI5 : Hid (Below w.heap.size w w5) := HI4.out.trans (hb5.out.mono HI4.out.size)
          have hsl : ∀ W, (Instr.slice 23 (.slice (some ⟨g5, 0, none⟩) 6 c5) none (some (.int .i64 3)) none).run Try.prog W = .ok (.slice (some ⟨g5, 0, none⟩) 3 c5) W := fun W => run_upto _ 6 c5 3 (by have := HY5.out.fits; omega) W
          go_wp2_with fail
          refine (reads_any w5 _ _ _ _ 9 (byt_upto HY5.out 3 (by omega)) (by omega) (by omega) (by omega)).mono ?_
          rintro e w6 ⟨rfl, hb6⟩
          have HI6 : Hid (Below w.heap.size w w6) := HI5.out.trans (hb6.mono HI5.out.size)
          clear hb5 hb6 HY5 HI5 hsl
          go_wp2_with fail
          refine (known_any w6).mono ?_
          rintro e w7 ⟨rfl, hb7⟩
          go_wp2
          go_ret
          exact ⟨rfl, HI6.out.trans (hb7.mono HI6.out.size)⟩
end Go.Proofs.Ytnahagcjieckeaa
