/- The contract of 'same': the code's answers on a row, a sum and a byte are the document's own. -/
import Derived.Test.YtepbmipddblkmaaGives
import Derived.Deep.RegionHeld3
namespace Go.Proofs.Ytepbmipddblkmaa
open Go.RowKit Go.CrcMath
set_option linter.unusedVariables false

/-- A stronger condition on the worlds may be taken on the way through a region that draws its order. -/
theorem wpAnyH_strengthen {P : Program} {md : Region.Mode} {ops : Array Oper} {Q : Exit → Act → World → Prop} {S S' : World → Prop} (h : ∀ w, S' w → S w) :
    ∀ (fuel : Nat) (listed : Array Bool) (a : Act) (w : World), wpAnyH P md ops Q S' fuel listed a w → wpAnyH P md ops Q S fuel listed a w
  | 0, _, _, _, hh => hh
  | fuel + 1, _, _, _, hh => ⟨hh.1, fun i hi => wpOp_mono (fun _ _ hk => ⟨h _ hk.1, wpAnyH_strengthen h fuel _ _ _ hk.2⟩) (hh.2 i hi)⟩
/-- A value that reads as the text s, in every world that has not turned since w. -/
def Reads (w : World) (v : Value) (s : ByteArray) : Prop := ∀ W, Below w.heap.size w W → (convert 22 9 v).run Try.prog W = .ok (.string s) W
theorem Reads.of {w : World} {a : Option Addr} {l c : Nat} {bs : List Nat} (h : Byt w a l c bs) : Reads w (.slice a l c) (str bs) := fun W hW => run_str (h.keep hW (Nat.le_refl _))
theorem Reads.keep {w w' : World} {v : Value} {s : ByteArray} (h : Reads w v s) (hb : Below w.heap.size w w') : Reads w' v s := fun W hW => h W (hb.trans (hW.mono hb.size))
theorem Reads.now {w : World} {v : Value} {s : ByteArray} (h : Reads w v s) : (convert 22 9 v).run Try.prog w = .ok (.string s) w := h w (Below.refl _ _)

set_option maxHeartbeats 4000000 in
theorem same_any (w : World) (ad : Option Addr) (len cap : Nat) (bs : List Nat) (c x : Nat) (h : Byt w ad len cap bs) (hn : ad = none → cap = 0) (hL : len ≤ 140737488355296) (hc : c < 4294967296) (hx : x < 256) :
    Calls Try.prog 8 #[.slice ad len cap, .int .u32 c, .int .u8 x] w fun e w' => e = .returned (.bool true) ∧ Below w.heap.size w w' := by
  have HB := Lib.hid h
  have HN := Lib.hid hn
  clear h hn
  obtain ⟨ok, hok⟩ : ∃ ok, ok = okB bs := ⟨_, rfl⟩
  obtain ⟨s, hs⟩ : ∃ s, s = ofB bs := ⟨_, rfl⟩
  obtain ⟨n, hn⟩ : ∃ n, n = nxt c x := ⟨_, rfl⟩
  obtain ⟨t1, ht1⟩ : ∃ t1, t1 = str (sealB bs) := ⟨_, rfl⟩
  obtain ⟨t2, ht2⟩ : ∃ t2, t2 = str (tail bs) := ⟨_, rfl⟩
  obtain ⟨B, hB⟩ : ∃ B, B = w.heap.size := ⟨_, rfl⟩
  have K12 : ∀ W, Below B w W → Calls Try.prog 12 #[.slice ad len cap] W fun e w' => ∃ v, e = .returned (.tuple #[v, .bool ok]) ∧ Hid (Reads w' v t2) ∧ Hid (Below W.heap.size W w') := fun W hW => by
    rw [hok, ht2]
    refine (check_any W ad len cap bs (HB.out.keep hW (by omega)) (by omega)).mono ?_
    rintro e w' ⟨a, l, c, rfl, hy, hb⟩
    exact ⟨_, rfl, Reads.of hy.out, hb⟩
  have K16 : ∀ W, Below B w W → Calls Try.prog 16 #[.slice ad len cap] W fun e w' => ∃ v, e = .returned (.tuple #[v, .bool ok]) ∧ Hid (Reads w' v t2) ∧ Hid (Below W.heap.size W w') := fun W hW => by
    rw [hok, ht2]
    refine (unseal_any W ad len cap bs (HB.out.keep hW (by omega)) (by omega)).mono ?_
    rintro e w' ⟨a, l, c, rfl, hy, hb⟩
    exact ⟨_, rfl, Reads.of hy.out, hb⟩
  have K13 : ∀ W, Below B w W → Calls Try.prog 13 #[.slice ad len cap] W fun e w' => e = .returned (.int .u32 s) ∧ W = w' := fun W hW => by
    rw [hs]; exact of_any W ad len cap bs (HB.out.keep hW (by omega)) (by omega)
  have K15 : ∀ W, Below B w W → Calls Try.prog 15 #[.slice ad len cap] W fun e w' => e = .returned (.int .u32 s) ∧ W = w' := fun W hW => by
    rw [hs]; exact refCrc_any W ad len cap bs (HB.out.keep hW (by omega)) (by omega)
  have K14 : ∀ W, Calls Try.prog 14 #[.int .u32 c, .int .u8 x] W fun e w' => e = .returned (.int .u32 n) ∧ W = w' := fun W => by
    rw [hn]; exact next_any c x W hc hx
  have K17 : ∀ W, Calls Try.prog 17 #[.int .u32 c, .int .u8 x] W fun e w' => e = .returned (.int .u32 n) ∧ W = w' := fun W => by
    rw [hn]; exact refNext_any c x W hc hx
  have K11 : ∀ W, Below B w W → Calls Try.prog 11 #[.slice ad len cap] W fun e w' => ∃ v, e = .returned v ∧ Hid (Reads w' v t1) ∧ Hid (Below W.heap.size W w') := by
    intro W hW
    have hy2 := HB.out.keep hW (by omega)
    refine (put_any W ad len cap bs hy2 (by omega)).mono ?_
    rintro e w' ⟨g, rfl, hg, ho, hb⟩
    have hl : (sealB bs).length = len + 4 := by rw [length_sealB, hy2.length]
    have hy := ho.byt (sealB_all hy2.all) (len + 4) (by omega)
    rw [hl] at hy
    rw [ht1]
    exact ⟨_, rfl, Reads.of hy, hb⟩
  have K7 : ∀ W, Below B w W → Calls Try.prog 7 #[.slice ad len cap] W fun e w' => ∃ v, e = .returned v ∧ Hid (Reads w' v t1) ∧ Hid (Below W.heap.size W w') := by
    intro W hW
    have hy2 := HB.out.keep hW (by omega)
    refine (sealed_any W ad len cap bs hy2 HN.out (by omega)).mono ?_
    rintro e w' ⟨v, rfl, g', cp, rfl, hcp, hg, hpr, hb⟩
    rw [ht1]
    exact ⟨_, rfl, Reads.of (hpr.byt (sealB_all hy2.all) cp hcp), hb⟩
  have H12 := Lib.hid K12
  have H16 := Lib.hid K16
  have H13 := Lib.hid K13
  have H14 := Lib.hid K14
  have H15 := Lib.hid K15
  have H17 := Lib.hid K17
  have H11 := Lib.hid K11
  have H7 := Lib.hid K7
  have HBB := Lib.hid hB
  clear K12 K16 K13 K14 K15 K17 K11 K7 hs hn ht1 ht2 hok hB
  go_enter Try.func8, Try.ntmps8
  go_wp2_with fail
  refine (H12.out w (Below.refl _ _)).mono ?_
  rintro e w1 ⟨p, rfl, hp1, hb1⟩
  have hw1 : Hid (Below B w w1) := by show Below _ _ _; rw [HBB.out]; exact hb1.out
  go_wp2_with fail
  refine (H16.out w1 hw1.out).mono ?_
  rintro e w2 ⟨q, rfl, hq2, hb2⟩
  have hw2 : Hid (Below B w w2) := hw1.out.trans (hb2.out.mono (by have := hw1.out.size; rw [HBB.out]; exact this))
  have hp2 : Hid (Reads w2 p t2) := hp1.out.keep hb2.out
  have hwd : Hid (Below B w w2.drew) := hw2.out.drew
  have hdd : Hid (Below w2.heap.size w2 w2.drew) := (Below.refl _ _).drew
  have key : ∀ w4 w5, Below w2.drew.heap.size w2.drew w4 → Below w4.heap.size w4 w5 → Below w2.heap.size w2 w4 ∧ Below w2.heap.size w2 w5 ∧ Below B w w4 ∧ Below B w w5 := by
    intro w4 w5 h4 h5
    have a1 : Below w2.heap.size w2 w4 := hdd.out.trans h4
    have a2 : Below w2.heap.size w2 w5 := a1.trans (h5.mono a1.size)
    have hBs : B ≤ w2.heap.size := by rw [HBB.out]; exact hw2.out.size
    exact ⟨a1, a2, hw2.out.trans (a1.mono hBs), hw2.out.trans (a2.mono hBs)⟩
  have KEY := Lib.hid key
  clear key
  go_wp2_with fail
  have hpd := hp2.out w2.drew hdd.out
  have hqd := hq2.out w2.drew hdd.out
  refine wp_region_noPanic ?_
  refine wp_region_held_drew (S := (fun w' => (convert 22 9 p).run Try.prog w' = .ok (.string t2) w' ∧ (convert 22 9 q).run Try.prog w' = .ok (.string t2) w')) (by kernel_rfl) ⟨hpd, hqd⟩ (fun hHeld => ?_)
  refine wpAnyH_take (i := 0) (oi := ⟨_, _, _, _, _, _⟩) (v := ?_) rfl (by kernel_rfl) (by kernel_rfl) (by kernel_rfl) (fun _ _ _ h => h) (Or.inl ⟨by rfl, ?_⟩) (by assumption) ?_
  rotate_left
  · intro W hSw
    (try dsimp only at hSw)
    go_simp
    (try with_reducible rfl)
  (try simp only [Act.put, List.setIfInBounds_toArray, List.set_cons_zero, List.set_cons_succ])
  refine wpAnyH_take (i := 2) (oi := ⟨_, _, _, _, _, _⟩) (v := ?_) rfl (by kernel_rfl) (by kernel_rfl) (by kernel_rfl) (fun _ _ _ h => h) (Or.inl ⟨by rfl, ?_⟩) (by assumption) ?_
  rotate_left
  · intro W hSw
    (try dsimp only at hSw)
    go_simp
    (try with_reducible rfl)
  (try simp only [Act.put, List.setIfInBounds_toArray, List.set_cons_zero, List.set_cons_succ])
  refine wpAnyH_ready (rs := [1]) (by kernel_rfl) (by simp) ?_
  refine AllReadyH.cons (o := ⟨_, _, _, _, _, _⟩) rfl (fun K hK => ?_) AllReadyH.nil
  go_simp
  refine (H13.out _ hwd.out).mono ?_
  rintro e w' ⟨rfl, rfl⟩
  go_wp2_with fail
  refine hK.out _ _ ?_ (fun hHeld => ?_)
  · exact ⟨hpd, hqd⟩
  clear hK K
  (try simp only [Act.put, List.setIfInBounds_toArray, List.set_cons_zero, List.set_cons_succ])
  refine wpAnyH_ready (rs := [3]) (by kernel_rfl) (by simp) ?_
  refine AllReadyH.cons (o := ⟨_, _, _, _, _, _⟩) rfl (fun K hK => ?_) AllReadyH.nil
  go_simp
  refine (H15.out _ hwd.out).mono ?_
  rintro e w' ⟨rfl, rfl⟩
  go_wp2_with fail
  refine hK.out _ _ ?_ (fun hHeld => ?_)
  · exact ⟨hpd, hqd⟩
  clear hK K
  (try simp only [Act.put, List.setIfInBounds_toArray, List.set_cons_zero, List.set_cons_succ])
  refine wpAnyH_take (i := 4) (oi := ⟨_, _, _, _, _, _⟩) (v := ?_) rfl (by kernel_rfl) (by kernel_rfl) (by kernel_rfl) (fun _ _ _ h => h) (Or.inl ⟨by rfl, ?_⟩) (by assumption) ?_
  rotate_left
  · intro W hSw
    (try dsimp only at hSw)
    go_simp
    (try with_reducible rfl)
  (try simp only [Act.put, List.setIfInBounds_toArray, List.set_cons_zero, List.set_cons_succ])
  refine wpAnyH_take (i := 5) (oi := ⟨_, _, _, _, _, _⟩) (v := ?_) rfl (by kernel_rfl) (by kernel_rfl) (by kernel_rfl) (fun _ _ _ h => h) (Or.inl ⟨by rfl, ?_⟩) (by assumption) ?_
  rotate_left
  · intro W hSw
    (try dsimp only at hSw)
    go_simp
    (try with_reducible rfl)
  (try simp only [Act.put, List.setIfInBounds_toArray, List.set_cons_zero, List.set_cons_succ])
  refine wpAnyH_take (i := 6) (oi := ⟨_, _, _, _, _, _⟩) (v := ?_) rfl (by kernel_rfl) (by kernel_rfl) (by kernel_rfl) (fun _ _ _ h => h) (Or.inl ⟨by rfl, ?_⟩) (by assumption) ?_
  rotate_left
  · intro W hSw
    (try dsimp only at hSw)
    go_simp
    (try with_reducible rfl)
  (try simp only [Act.put, List.setIfInBounds_toArray, List.set_cons_zero, List.set_cons_succ])
  refine wpAnyH_take (i := 7) (oi := ⟨_, _, _, _, _, _⟩) (v := ?_) rfl (by kernel_rfl) (by kernel_rfl) (by kernel_rfl) (fun _ _ _ h => h) (Or.inl ⟨by rfl, ?_⟩) (by assumption) ?_
  rotate_left
  · intro W hSw
    (try dsimp only at hSw)
    go_simp
    (try with_reducible rfl)
  (try simp only [Act.put, List.setIfInBounds_toArray, List.set_cons_zero, List.set_cons_succ])
  refine wpAnyH_take (i := 9) (oi := ⟨_, _, _, _, _, _⟩) (v := ?_) rfl (by kernel_rfl) (by kernel_rfl) (by kernel_rfl) (fun _ _ _ h => h) (Or.inl ⟨by rfl, ?_⟩) (by assumption) ?_
  rotate_left
  · intro W hSw
    (try dsimp only at hSw)
    go_simp
    (try with_reducible rfl)
  (try simp only [Act.put, List.setIfInBounds_toArray, List.set_cons_zero, List.set_cons_succ])
  refine wpAnyH_take (i := 10) (oi := ⟨_, _, _, _, _, _⟩) (v := ?_) rfl (by kernel_rfl) (by kernel_rfl) (by kernel_rfl) (fun _ _ _ h => h) (Or.inl ⟨by rfl, ?_⟩) (by assumption) ?_
  rotate_left
  · intro W hSw
    (try dsimp only at hSw)
    go_simp
    (try with_reducible rfl)
  (try simp only [Act.put, List.setIfInBounds_toArray, List.set_cons_zero, List.set_cons_succ])
  refine wpAnyH_ready (rs := [8]) (by kernel_rfl) (by simp) ?_
  refine AllReadyH.cons (o := ⟨_, _, _, _, _, _⟩) rfl (fun K hK => ?_) AllReadyH.nil
  go_simp
  refine (H14.out _).mono ?_
  rintro e w' ⟨rfl, rfl⟩
  go_wp2_with fail
  refine hK.out _ _ ?_ (fun hHeld => ?_)
  · exact ⟨hpd, hqd⟩
  clear hK K
  (try simp only [Act.put, List.setIfInBounds_toArray, List.set_cons_zero, List.set_cons_succ])
  refine wpAnyH_ready (rs := [11]) (by kernel_rfl) (by simp) ?_
  refine AllReadyH.cons (o := ⟨_, _, _, _, _, _⟩) rfl (fun K hK => ?_) AllReadyH.nil
  go_simp
  refine (H17.out _).mono ?_
  rintro e w' ⟨rfl, rfl⟩
  go_wp2_with fail
  refine hK.out _ _ ?_ (fun hHeld => ?_)
  · exact ⟨hpd, hqd⟩
  clear hK K
  (try simp only [Act.put, List.setIfInBounds_toArray, List.set_cons_zero, List.set_cons_succ])
  refine wpAnyH_take (i := 12) (oi := ⟨_, _, _, _, _, _⟩) (v := ?_) rfl (by kernel_rfl) (by kernel_rfl) (by kernel_rfl) (fun _ _ _ h => h) (Or.inl ⟨by rfl, ?_⟩) (by assumption) ?_
  rotate_left
  · intro W hSw
    (try dsimp only at hSw)
    go_simp
    (try with_reducible rfl)
  (try simp only [Act.put, List.setIfInBounds_toArray, List.set_cons_zero, List.set_cons_succ])
  refine wpAnyH_take (i := 13) (oi := ⟨_, _, _, _, _, _⟩) (v := ?_) rfl (by kernel_rfl) (by kernel_rfl) (by kernel_rfl) (fun _ _ _ h => h) (Or.inl ⟨by rfl, ?_⟩) (by assumption) ?_
  rotate_left
  · intro W hSw
    (try dsimp only at hSw)
    go_simp
    (try with_reducible rfl)
  (try simp only [Act.put, List.setIfInBounds_toArray, List.set_cons_zero, List.set_cons_succ])
  refine wpAnyH_take (i := 14) (oi := ⟨_, _, _, _, _, _⟩) (v := ?_) rfl (by kernel_rfl) (by kernel_rfl) (by kernel_rfl) (fun _ _ _ h => h) (Or.inl ⟨by rfl, ?_⟩) (by assumption) ?_
  rotate_left
  · intro W hSw
    (try dsimp only at hSw)
    go_simp
    (try with_reducible rfl)
  (try simp only [Act.put, List.setIfInBounds_toArray, List.set_cons_zero, List.set_cons_succ])
  refine wpAnyH_take (i := 15) (oi := ⟨_, _, _, _, _, _⟩) (v := ?_) rfl (by kernel_rfl) (by kernel_rfl) (by kernel_rfl) (fun _ _ _ h => h) (Or.inl ⟨by rfl, ?_⟩) (by assumption) ?_
  rotate_left
  · intro W hSw
    (try dsimp only at hSw)
    go_simp
    (try with_reducible rfl)
  (try simp only [Act.put, List.setIfInBounds_toArray, List.set_cons_zero, List.set_cons_succ])
  refine wpAnyH_take (i := 18) (oi := ⟨_, _, _, _, _, _⟩) (v := ?_) rfl (by kernel_rfl) (by kernel_rfl) (by kernel_rfl) (fun _ _ _ h => h) (Or.inl ⟨by rfl, ?_⟩) (by assumption) ?_
  rotate_left
  · intro W hSw
    (try dsimp only at hSw)
    go_simp
    (try with_reducible rfl)
  (try simp only [Act.put, List.setIfInBounds_toArray, List.set_cons_zero, List.set_cons_succ])
  refine wpAnyH_ready (rs := [16]) (by kernel_rfl) (by simp) ?_
  refine AllReadyH.cons (o := ⟨_, _, _, _, _, _⟩) rfl (fun K hK => ?_) AllReadyH.nil
  go_simp
  refine (H11.out _ hwd.out).mono ?_
  rintro e w4 ⟨v4, rfl, hr4, hb4⟩
  have hw4 : Hid (Below B w w4) := (KEY.out w4 w4 hb4.out (Below.refl _ _)).2.2.1
  have he4 := hp2.out w4 (KEY.out w4 w4 hb4.out (Below.refl _ _)).1
  have hf4 := hq2.out w4 (KEY.out w4 w4 hb4.out (Below.refl _ _)).1
  have hc4 := hr4.out.now
  go_wp2_with fail
  refine hK.out _ _ ?_ (fun hHeld => ?_)
  · exact ⟨he4, hf4⟩
  clear hK K
  (try simp only [Act.put, List.setIfInBounds_toArray, List.set_cons_zero, List.set_cons_succ])
  refine wpAnyH_strengthen (S' := (fun w' => (convert 22 9 p).run Try.prog w' = .ok (.string t2) w' ∧ (convert 22 9 q).run Try.prog w' = .ok (.string t2) w' ∧ (convert 22 9 v4).run Try.prog w' = .ok (.string t1) w')) (fun W h => ⟨h.1, h.2.1⟩) _ _ _ _ ?_
  clear hHeld
  have hHeld : (fun w' => (convert 22 9 p).run Try.prog w' = .ok (.string t2) w' ∧ (convert 22 9 q).run Try.prog w' = .ok (.string t2) w' ∧ (convert 22 9 v4).run Try.prog w' = .ok (.string t1) w') w4 := ⟨he4, hf4, hc4⟩
  refine wpAnyH_take (i := 17) (oi := ⟨_, _, _, _, _, _⟩) (v := ?_) rfl (by kernel_rfl) (by kernel_rfl) (by kernel_rfl) (fun _ _ _ h => h) (Or.inl ⟨by rfl, ?_⟩) (by assumption) ?_
  rotate_left
  · intro W hSw
    (try dsimp only at hSw)
    go_simp
    (try with_reducible rfl)
  (try simp only [Act.put, List.setIfInBounds_toArray, List.set_cons_zero, List.set_cons_succ])
  refine wpAnyH_ready (rs := [19]) (by kernel_rfl) (by simp) ?_
  refine AllReadyH.cons (o := ⟨_, _, _, _, _, _⟩) rfl (fun K hK => ?_) AllReadyH.nil
  go_simp
  refine (H7.out _ hw4.out).mono ?_
  rintro e w5 ⟨v5, rfl, hr5, hb5⟩
  have hc5 := hr5.out.now
  have hd5 := hr4.out w5 hb5.out
  have he5 := hp2.out w5 (KEY.out w4 w5 hb4.out hb5.out).2.1
  have hf5 := hq2.out w5 (KEY.out w4 w5 hb4.out hb5.out).2.1
  have hw5 : Hid (Below B w w5) := (KEY.out w4 w5 hb4.out hb5.out).2.2.2
  go_wp2_with fail
  refine hK.out _ _ ?_ (fun hHeld => ?_)
  · exact ⟨he5, hf5, hd5⟩
  clear hK K
  (try simp only [Act.put, List.setIfInBounds_toArray, List.set_cons_zero, List.set_cons_succ])
  refine wpAnyH_strengthen (S' := (fun w' => (convert 22 9 p).run Try.prog w' = .ok (.string t2) w' ∧ (convert 22 9 q).run Try.prog w' = .ok (.string t2) w' ∧ (convert 22 9 v4).run Try.prog w' = .ok (.string t1) w' ∧ (convert 22 9 v5).run Try.prog w' = .ok (.string t1) w')) (fun W h => ⟨h.1, h.2.1, h.2.2.1⟩) _ _ _ _ ?_
  clear hHeld
  have hHeld : (fun w' => (convert 22 9 p).run Try.prog w' = .ok (.string t2) w' ∧ (convert 22 9 q).run Try.prog w' = .ok (.string t2) w' ∧ (convert 22 9 v4).run Try.prog w' = .ok (.string t1) w' ∧ (convert 22 9 v5).run Try.prog w' = .ok (.string t1) w') w5 := ⟨he5, hf5, hd5, hc5⟩
  refine wpAnyH_take (i := 20) (oi := ⟨_, _, _, _, _, _⟩) (v := ?_) rfl (by kernel_rfl) (by kernel_rfl) (by kernel_rfl) (fun _ _ _ h => h) (Or.inl ⟨by rfl, ?_⟩) (by assumption) ?_
  rotate_left
  · intro W hSw
    (try dsimp only at hSw)
    go_simp
    (try with_reducible rfl)
  (try simp only [Act.put, List.setIfInBounds_toArray, List.set_cons_zero, List.set_cons_succ])
  refine wpAnyH_take (i := 21) (oi := ⟨_, _, _, _, _, _⟩) (v := ?_) rfl (by kernel_rfl) (by kernel_rfl) (by kernel_rfl) (fun _ _ _ h => h) (Or.inl ⟨by rfl, ?_⟩) (by assumption) ?_
  rotate_left
  · intro W hSw
    (try dsimp only at hSw)
    go_simp
    (try with_reducible rfl)
  (try simp only [Act.put, List.setIfInBounds_toArray, List.set_cons_zero, List.set_cons_succ])
  refine wpAnyH_take (i := 22) (oi := ⟨_, _, _, _, _, _⟩) (v := ?_) rfl (by kernel_rfl) (by kernel_rfl) (by kernel_rfl) (fun _ _ _ h => h) (Or.inl ⟨by rfl, ?_⟩) (by assumption) ?_
  rotate_left
  · intro W hSw
    (try dsimp only at hSw)
    go_simp
    (try with_reducible rfl)
  (try simp only [Act.put, List.setIfInBounds_toArray, List.set_cons_zero, List.set_cons_succ])
  refine wpAnyH_take (i := 23) (oi := ⟨_, _, _, _, _, _⟩) (v := ?_) rfl (by kernel_rfl) (by kernel_rfl) (by kernel_rfl) (fun _ _ _ h => h) (Or.inl ⟨by rfl, ?_⟩) (by assumption) ?_
  rotate_left
  · intro W hSw
    (try dsimp only at hSw)
    go_simp
    (try with_reducible rfl)
  (try simp only [Act.put, List.setIfInBounds_toArray, List.set_cons_zero, List.set_cons_succ])
  refine wpAnyH_take (i := 24) (oi := ⟨_, _, _, _, _, _⟩) (v := ?_) rfl (by kernel_rfl) (by kernel_rfl) (by kernel_rfl) (fun _ _ _ h => h) (Or.inl ⟨by rfl, ?_⟩) (by assumption) ?_
  rotate_left
  · intro W hSw
    (try dsimp only at hSw)
    go_simp
    (try with_reducible rfl)
  (try simp only [Act.put, List.setIfInBounds_toArray, List.set_cons_zero, List.set_cons_succ])
  refine wpAnyH_take (i := 25) (oi := ⟨_, _, _, _, _, _⟩) (v := ?_) rfl (by kernel_rfl) (by kernel_rfl) (by kernel_rfl) (fun _ _ _ h => h) (Or.inl ⟨by rfl, ?_⟩) (by assumption) ?_
  rotate_left
  · intro W hSw
    (try dsimp only at hSw)
    go_simp
    (try with_reducible rfl)
  (try simp only [Act.put, List.setIfInBounds_toArray, List.set_cons_zero, List.set_cons_succ])
  refine wpAnyH_take (i := 26) (oi := ⟨_, _, _, _, _, _⟩) (v := ?_) rfl (by kernel_rfl) (by kernel_rfl) (by kernel_rfl) (fun _ _ _ h => h) (Or.inl ⟨by rfl, ?_⟩) (by assumption) ?_
  rotate_left
  · intro W hSw
    (try dsimp only at hSw)
    go_simp
    (try with_reducible rfl)
  (try simp only [Act.put, List.setIfInBounds_toArray, List.set_cons_zero, List.set_cons_succ])
  refine wpAnyH_take (i := 27) (oi := ⟨_, _, _, _, _, _⟩) (v := ?_) rfl (by kernel_rfl) (by kernel_rfl) (by kernel_rfl) (fun _ _ _ h => h) (Or.inl ⟨by rfl, ?_⟩) (by assumption) ?_
  rotate_left
  · intro W hSw
    (try dsimp only at hSw)
    go_simp
    (try with_reducible rfl)
  (try simp only [Act.put, List.setIfInBounds_toArray, List.set_cons_zero, List.set_cons_succ])
  refine wpAnyH_take (i := 28) (oi := ⟨_, _, _, _, _, _⟩) (v := ?_) rfl (by kernel_rfl) (by kernel_rfl) (by kernel_rfl) (fun _ _ _ h => h) (Or.inl ⟨by rfl, ?_⟩) (by assumption) ?_
  rotate_left
  · intro W hSw
    (try dsimp only at hSw)
    go_simp
    (try with_reducible rfl)
  (try simp only [Act.put, List.setIfInBounds_toArray, List.set_cons_zero, List.set_cons_succ])
  refine wpAnyH_take (i := 29) (oi := ⟨_, _, _, _, _, _⟩) (v := ?_) rfl (by kernel_rfl) (by kernel_rfl) (by kernel_rfl) (fun _ _ _ h => h) (Or.inl ⟨by rfl, ?_⟩) (by assumption) ?_
  rotate_left
  · intro W hSw
    (try dsimp only at hSw)
    go_simp
    (try with_reducible rfl)
  (try simp only [Act.put, List.setIfInBounds_toArray, List.set_cons_zero, List.set_cons_succ])
  refine wpAnyH_take (i := 30) (oi := ⟨_, _, _, _, _, _⟩) (v := ?_) rfl (by kernel_rfl) (by kernel_rfl) (by kernel_rfl) (fun _ _ _ h => h) (Or.inl ⟨by rfl, ?_⟩) (by assumption) ?_
  rotate_left
  · intro W hSw
    (try dsimp only at hSw)
    go_simp
    (try with_reducible rfl)
  (try simp only [Act.put, List.setIfInBounds_toArray, List.set_cons_zero, List.set_cons_succ])
  refine wpAnyH_take (i := 31) (oi := ⟨_, _, _, _, _, _⟩) (v := ?_) rfl (by kernel_rfl) (by kernel_rfl) (by kernel_rfl) (fun _ _ _ h => h) (Or.inl ⟨by rfl, ?_⟩) (by assumption) ?_
  rotate_left
  · intro W hSw
    (try dsimp only at hSw)
    go_simp
    (try with_reducible rfl)
  (try simp only [Act.put, List.setIfInBounds_toArray, List.set_cons_zero, List.set_cons_succ])
  refine wpAnyH_take (i := 32) (oi := ⟨_, _, _, _, _, _⟩) (v := ?_) rfl (by kernel_rfl) (by kernel_rfl) (by kernel_rfl) (fun _ _ _ h => h) (Or.inl ⟨by rfl, ?_⟩) (by assumption) ?_
  rotate_left
  · intro W hSw
    (try dsimp only at hSw)
    go_simp
    (try with_reducible rfl)
  (try simp only [Act.put, List.setIfInBounds_toArray, List.set_cons_zero, List.set_cons_succ])
  refine wpAnyH_take (i := 33) (oi := ⟨_, _, _, _, _, _⟩) (v := ?_) rfl (by kernel_rfl) (by kernel_rfl) (by kernel_rfl) (fun _ _ _ h => h) (Or.inl ⟨by rfl, ?_⟩) (by assumption) ?_
  rotate_left
  · intro W hSw
    (try dsimp only at hSw)
    go_simp
    (try with_reducible rfl)
  (try simp only [Act.put, List.setIfInBounds_toArray, List.set_cons_zero, List.set_cons_succ])
  refine wpAnyH_take (i := 34) (oi := ⟨_, _, _, _, _, _⟩) (v := ?_) rfl (by kernel_rfl) (by kernel_rfl) (by kernel_rfl) (fun _ _ _ h => h) (Or.inl ⟨by rfl, ?_⟩) (by assumption) ?_
  rotate_left
  · intro W hSw
    (try dsimp only at hSw)
    go_simp
    (try with_reducible rfl)
  (try simp only [Act.put, List.setIfInBounds_toArray, List.set_cons_zero, List.set_cons_succ])
  refine wpAnyH_take (i := 35) (oi := ⟨_, _, _, _, _, _⟩) (v := ?_) rfl (by kernel_rfl) (by kernel_rfl) (by kernel_rfl) (fun _ _ _ h => h) (Or.inl ⟨by rfl, ?_⟩) (by assumption) ?_
  rotate_left
  · intro W hSw
    (try dsimp only at hSw)
    go_simp
    (try with_reducible rfl)
  (try simp only [Act.put, List.setIfInBounds_toArray, List.set_cons_zero, List.set_cons_succ])
  refine wpAnyH_done (by kernel_rfl) ?_ _
  refine NoPanic.normal ?_
  go_wp2
  go_ret
  refine ⟨rfl, ?_⟩
  rw [← HBB.out]
  exact hw5.out
end Go.Proofs.Ytepbmipddblkmaa
