/- The walk of 'CrcTurns'. -/
import Derived.Test.YtepbmipddblkmaaArgs
import Derived.Test.YtepbmipddblkmaaGives
namespace Go.Proofs.Ytepbmipddblkmaa
open Go.RowKit Go.CrcMath
set_option linter.unusedVariables false

theorem where_k (at' : Int) (len : Nat) (h : len ≤ 200) : ∃ k : Nat, (wrap64 (wrap64 (at'.tmod ((len : Int) + 4 - 3) + ((len : Int) + 4)) - 3)).tmod ((len : Int) + 4 - 3) = (k : Int) ∧ k ≤ len := by
  obtain ⟨m, hm⟩ : ∃ m : Int, m = (len : Int) + 4 - 3 := ⟨_, rfl⟩
  rw [← hm]
  have h1 : at'.tmod m < m := Int.tmod_lt_of_pos _ (by omega)
  have h2 : -m < at'.tmod m := by
    have := Int.tmod_lt_of_pos (-at') (b := m) (by omega)
    rw [Int.neg_tmod] at this
    omega
  obtain ⟨r, hr⟩ : ∃ r, r = at'.tmod m := ⟨_, rfl⟩
  rw [← hr] at h1 h2 ⊢
  rw [IntWalk.wrap64_in (r + ((len : Int) + 4)) (by omega), IntWalk.wrap64_in (r + ((len : Int) + 4) - 3) (by omega)]
  have e2 : r + ((len : Int) + 4) - 3 = r + m := by omega
  rw [e2, Int.tmod_eq_emod_of_nonneg (by omega)]
  have h3 := Int.emod_nonneg (r + m) (b := m) (by omega)
  have h4 := Int.emod_lt_of_pos (r + m) (b := m) (by omega)
  exact ⟨((r + m) % m).toNat, by omega, by omega⟩
theorem news_at {w : World} {a : Addr} {len cap : Nat} {r : List Nat} (h : Byt w (some a) len cap r) : ∀ j u, (vals r)[j]? = some u → w.cell? (a.add j) = some u := by
  intro j u hj
  have hjl : j < r.length := by
    have := (List.getElem?_eq_some_iff.1 hj).1
    rwa [length_vals] at this
  obtain ⟨a', ha', hs⟩ := h.source (by have := h.length; omega)
  obtain rfl := Option.some.inj ha'
  exact hs j u hj
/-- Cut at 200. -/
theorem run_upto (ad : Option Addr) (len cap : Nat) (h : 200 < len) (hc : len ≤ cap) (w : World) :
    (Instr.slice 22 (.slice ad len cap) none (some (.int .i64 200)) none).run Try.prog w = .ok (.slice ad 200 cap) w := by
  rw [run_slice_h _ _ _ _ _ elem22 _ _ (by omega) (by omega), sizeElem]
  simp only [Result.andThen, sliced]
  rw [show (200 : Int).toNat = 200 from rfl]
  rcases ad with _ | a
  · simp
  · simp [Addr.add]
/-- Four bytes, from place k on, turned by the bits of t. -/
def turnAt (X : List Nat) (k t : Nat) : List Nat :=
  (((X.set k (X.getD k 0 ^^^ t % 256)).set (k + 1) (X.getD (k + 1) 0 ^^^ t / 256 % 256)).set (k + 2) (X.getD (k + 2) 0 ^^^ t / 65536 % 256)).set (k + 3) (X.getD (k + 3) 0 ^^^ t / 16777216 % 256)
theorem turnAt_sum (X : List Nat) (k t : Nat) (h : k + 4 ≤ X.length) (ht : t < 4294967296) : ofB (turnAt X k t) = ofB X ↔ t = 0 := by
  obtain ⟨x0, x1, x2, x3, q, hq⟩ := four_of (bs := X.drop k) (by rw [List.length_drop]; omega)
  have hX : X = X.take k ++ (x0 :: x1 :: x2 :: x3 :: q) := by rw [← hq, List.take_append_drop]
  obtain ⟨p, hp⟩ : ∃ p, p = X.take k := ⟨_, rfl⟩
  have hpl : p.length = k := by rw [hp, List.length_take]; omega
  rw [← hp] at hX
  clear hp hq h
  subst hX
  subst hpl
  have e := burst p q x0 x1 x2 x3 t ht
  have e1 : p ++ [x0, x1, x2, x3] ++ q = p ++ (x0 :: x1 :: x2 :: x3 :: q) := by simp
  have e2 : turnAt (p ++ (x0 :: x1 :: x2 :: x3 :: q)) p.length t = p ++ [x0 ^^^ t % 256, x1 ^^^ t / 256 % 256, x2 ^^^ t / 65536 % 256, x3 ^^^ t / 16777216 % 256] ++ q := by
    simp [turnAt, List.getD_eq_getElem?_getD, List.set_append_right]
  rw [e2, ← e1]
  exact e
theorem length_turnAt (X : List Nat) (k t : Nat) : (turnAt X k t).length = X.length := by simp [turnAt]
theorem xor8 {a t : Nat} (ha : a < 256) (ht : t < 256) : a ^^^ t < 256 := Nat.xor_lt_two_pow (n := 8) ha ht
theorem turnAt_all {X : List Nat} (h : AllB X) (k t : Nat) : AllB (turnAt X k t) := by
  have hs : ∀ {Y : List Nat} (i y : Nat), AllB Y → y < 256 → AllB (Y.set i y) := by
    intro Y i y hY hy x hx
    rcases List.mem_or_eq_of_mem_set hx with h1 | h1
    · exact hY x h1
    · rw [h1]; exact hy
  exact hs _ _ (hs _ _ (hs _ _ (hs _ _ h (xor8 (getD_all h _) (by omega))) (xor8 (getD_all h _) (by omega))) (xor8 (getD_all h _) (by omega))) (xor8 (getD_all h _) (by omega))
/-- The world behind the four stores. -/
def turnW (w : World) (g k a0 a1 a2 a3 t : Nat) : World :=
  (((w.setCell ⟨g, 4 + k, none⟩ (.int .u8 (a0 ^^^ t % 256 : Nat))).setCell ⟨g, 4 + k + 1, none⟩ (.int .u8 (a1 ^^^ t / 256 % 256 : Nat))).setCell ⟨g, 4 + k + 2, none⟩ (.int .u8 (a2 ^^^ t / 65536 % 256 : Nat))).setCell ⟨g, 4 + k + 3, none⟩ (.int .u8 (a3 ^^^ t / 16777216 % 256 : Nat))
theorem turn_own {w : World} {g k t : Nat} {X : List Nat} (h : Own w g (sealB X)) : Own (turnW w g k (X.getD k 0) (X.getD (k + 1) 0) (X.getD (k + 2) 0) (X.getD (k + 3) 0) t) g (leB (ofB X) ++ turnAt X k t) := by
  have h4 := (((h.set (4 + k) (X.getD k 0 ^^^ t % 256)).set (4 + k + 1) (X.getD (k + 1) 0 ^^^ t / 256 % 256)).set (4 + k + 2) (X.getD (k + 2) 0 ^^^ t / 65536 % 256)).set (4 + k + 3) (X.getD (k + 3) 0 ^^^ t / 16777216 % 256)
  have hs : ∀ (Y : List Nat) (i y : Nat), (leB (ofB X) ++ Y).set (4 + i) y = leB (ofB X) ++ Y.set i y := by
    intro Y i y
    rw [List.set_append_right _ _ (by rw [length_leB]; omega), length_leB, Nat.add_sub_cancel_left]
  have e : ((((sealB X).set (4 + k) (X.getD k 0 ^^^ t % 256)).set (4 + k + 1) (X.getD (k + 1) 0 ^^^ t / 256 % 256)).set (4 + k + 2) (X.getD (k + 2) 0 ^^^ t / 65536 % 256)).set (4 + k + 3) (X.getD (k + 3) 0 ^^^ t / 16777216 % 256) = leB (ofB X) ++ turnAt X k t := by
    show (((((leB (ofB X) ++ X).set (4 + k) _).set (4 + (k + 1)) _).set (4 + (k + 2)) _).set (4 + (k + 3)) _) = _
    rw [hs, hs, hs, hs]; rfl
  rw [e] at h4
  exact h4
theorem turn_below {w0 w : World} {B g : Nat} (hb : Below B w0 w) (hg : B ≤ g) (k a0 a1 a2 a3 t : Nat) : Below B w0 (turnW w g k a0 a1 a2 a3 t) :=
  (((hb.setCell (p := ⟨g, _, none⟩) hg _).setCell (p := ⟨g, _, none⟩) hg _).setCell (p := ⟨g, _, none⟩) hg _).setCell (p := ⟨g, _, none⟩) hg _
theorem xor_u8 (a t : Nat) (ha : a < 256) (ht : t < 256) : bits .xor .u8 (a : Int) (t : Int) = ((a ^^^ t : Nat) : Int) := u8_xor_nat a t ha ht
theorem xor_0 (a t : Nat) (ha : a < 256) : bits .xor .u8 (a : Int) ((t : Int) % 256) = ((a ^^^ t % 256 : Nat) : Int) := xor_u8 a (t % 256) ha (by omega)
theorem xor_1 (a t : Nat) (ha : a < 256) : bits .xor .u8 (a : Int) ((t : Int) / 256 % 256) = ((a ^^^ t / 256 % 256 : Nat) : Int) := xor_u8 a (t / 256 % 256) ha (by omega)
theorem xor_2 (a t : Nat) (ha : a < 256) : bits .xor .u8 (a : Int) ((t : Int) / 65536 % 256) = ((a ^^^ t / 65536 % 256 : Nat) : Int) := xor_u8 a (t / 65536 % 256) ha (by omega)
theorem xor_3 (a t : Nat) (ha : a < 256) (ht : t < 4294967296) : bits .xor .u8 (a : Int) ((t : Int) / 16777216) = ((a ^^^ t / 16777216 % 256 : Nat) : Int) := by
  have e : (t : Int) / 16777216 = ((t / 16777216 % 256 : Nat) : Int) := by omega
  rw [e]; exact xor_u8 a _ ha (by omega)
set_option maxHeartbeats 1000000 in
theorem turns_none (w : World) (l cap : Nat) (bs : List Nat) (at' : Int) (turn : Nat) (h : Byt w none l cap bs) (hl0 : l = 0) (ht : turn < 4294967296) :
    Calls Try.prog 5 #[.slice none 0 0, .int .i64 at', .int .u32 turn] w fun e w' => e = .returned (.bool true) ∧ Below w.heap.size w w' := by
  obtain ⟨i0, hi, hz0, hz1, hz2⟩ := info_parts info5
  have HB := Lib.hid h
  have HL := Lib.hid h.length
  have HE : Hid (Below w.heap.size w (w.alloc (.cells #[] 5))) := (Below.refl _ _).alloc (Nat.le_refl _) _
  have HO : Hid ((w.alloc (.cells #[] 5)).ownsRow w.heap.size 5 1 (.slice (some ⟨w.heap.size, 0, none⟩) 0 0) 0 []) := World.ownsRow_lit (e := 5) (size := 1) w #[] 0 (Nat.le_refl _) (by decide) rfl
  have h2 : l ≤ 200 := by omega
  have HL0 := Lib.hid hl0
  clear h hl0
  go_enter Try.func5, Try.ntmps5
  have HBS : Hid (bs = []) := List.eq_nil_of_length_eq_zero (by rw [HL.out, HL0.out])
  go_wp2_with (first | (at_builtin; refine wpList_append_own_none rfl (.tmp 18) (.tmp 19) 22 rfl w.heap.size 5 i0 1 Try.underlying22 hi (.slice (some ⟨w.heap.size, 0, none⟩) l 0) 0 [] (by rw [HL0.out]; rfl) (by rw [HL0.out]; exact HO.out) rfl ?_; generalize hw1 : w.alloc (.cells #[] 5) = w1; have hb1 : Hid (Below w.heap.size w w1) := (by rw [← hw1]; exact HE.out); have ho1 : Hid (w1.ownsRow w.heap.size 5 1 (.slice (some ⟨w.heap.size, 0, none⟩) l 0) l (vals bs)) := (by rw [← hw1, HBS.out, HL0.out]; exact HO.out); clear hw1) | (at_builtin; refine wpList_append_own _ rfl (.tmp 20) (.tmp 21) 22 rfl w.heap.size 5 i0 (.int .u8 0) 1 1 Try.underlying22 hi hz0 hz1 hz2 rfl (by decide) _ l (vals bs) rfl (ho1.out.alloc _) ⟨w1.heap.size, 0, none⟩ 4 4 (vals [1, 2, 3, 4]) rfl (by rfl) (news_of ((own_new w1 [1, 2, 3, 4]).byt (all_small (by decide)) 4 (by decide))) (vals_one _) (by unfold maxLen; omega) (by omega) (hb1.out.alloc hb1.out.size _).size ?_))
  intro v2 w2 hown2 hgrow2 hn2
  have hb2 : Hid (Below w.heap.size w w2) := (hb1.out.alloc hb1.out.size _).grown hgrow2 (hb1.out.alloc hb1.out.size _).size (by
    intro k hk
    rcases ho1.out.2 with ⟨h, _⟩ | ⟨g, cp, cur, h, h1, _⟩
    · cases h
    · cases h; simp [Value.ownBlock] at hk; omega)
  obtain ⟨X, hX⟩ : ∃ X, X = bs ++ [1, 2, 3, 4] := ⟨_, rfl⟩
  have ho2 := Lib.hid (show w2.ownsRow w.heap.size 5 1 v2 (l + 4) (vals X) by rw [hX, vals_append]; simpa using hown2)
  obtain ⟨g2, cp2, rfl⟩ : ∃ g cp, v2 = .slice (some ⟨g, 0, none⟩) (l + 4) cp := by
    rcases ho2.out.2 with ⟨h, _⟩ | ⟨g, cp, cur, h, _⟩
    · exact absurd h hn2
    · exact ⟨g, cp, h⟩
  clear hown2 hgrow2 hn2
  obtain ⟨k, hk, hkl⟩ := where_k at' l h2
  have hXl : X.length = l + 4 := by rw [hX, List.length_append, HL.out]; rfl
  have hXa : AllB X := by
    rw [hX]
    intro x hx
    rcases List.mem_append.1 hx with h | h
    · exact HB.out.all x h
    · exact all_small (bs := [1, 2, 3, 4]) (by decide) x h
  have HX := Lib.hid hX
  have HXl := Lib.hid hXl
  have HXa := Lib.hid hXa
  clear hX hXl hXa
  have HY : Hid (Byt w2 (some ⟨g2, 0, none⟩) (l + 4) cp2 X) := by
    obtain ⟨h1, h2, h3, h4, h5⟩ := pre_owns ho2.out
    have := h1.byt HXa.out cp2 (by omega)
    rw [h2] at this
    exact this
  go_wp2_with fail
  refine (put_any w2 _ _ _ X HY.out (by omega)).mono ?_
  rintro e w3 ⟨g3, rfl, hg3, ho3, hb3⟩
  have HO3 := Lib.hid ho3
  have HB3 := Lib.hid hb3
  have f : ∀ i, w3.frozen? ⟨g3, i, none⟩ = false := fun i => ho3.free i
  clear ho3 hb3 hk
  have hlt : ∀ i, i < 4 → w3.cell? ⟨g3, 4 + k + i, none⟩ = some (.int .u8 (X.getD (k + i) 0 : Nat)) := fun i hi => by
    rw [HO3.out.cell (4 + k + i) (by rw [length_sealB, HXl.out]; omega)]
    have : (sealB X).getD (4 + k + i) 0 = X.getD (k + i) 0 := by
      have h0 : sealB X = leB (ofB X) ++ X := rfl
      rw [h0, List.getD_eq_getElem?_getD, List.getElem?_append_right (by rw [length_leB]; omega), length_leB, List.getD_eq_getElem?_getD]
      congr 2; omega
    rw [this]
  obtain ⟨a0, ha0⟩ : ∃ a, a = X.getD k 0 := ⟨_, rfl⟩
  obtain ⟨a1, ha1⟩ : ∃ a, a = X.getD (k + 1) 0 := ⟨_, rfl⟩
  obtain ⟨a2, ha2⟩ : ∃ a, a = X.getD (k + 2) 0 := ⟨_, rfl⟩
  obtain ⟨a3, ha3⟩ : ∃ a, a = X.getD (k + 3) 0 := ⟨_, rfl⟩
  have c0 : w3.cell? ⟨g3, 4 + k, none⟩ = some (.int .u8 (a0 : Nat)) := by rw [ha0]; exact hlt 0 (by omega)
  have c1 : w3.cell? ⟨g3, 4 + k + 1, none⟩ = some (.int .u8 (a1 : Nat)) := by rw [ha1]; exact hlt 1 (by omega)
  have c2 : w3.cell? ⟨g3, 4 + k + 2, none⟩ = some (.int .u8 (a2 : Nat)) := by rw [ha2]; exact hlt 2 (by omega)
  have c3 : w3.cell? ⟨g3, 4 + k + 3, none⟩ = some (.int .u8 (a3 : Nat)) := by rw [ha3]; exact hlt 3 (by omega)
  have l0 : a0 < 256 := by rw [ha0]; exact getD_all HXa.out _
  have l1 : a1 < 256 := by rw [ha1]; exact getD_all HXa.out _
  have l2 : a2 < 256 := by rw [ha2]; exact getD_all HXa.out _
  have l3 : a3 < 256 := by rw [ha3]; exact getD_all HXa.out _
  have e0 := xor_0 a0 turn l0
  have e1 := xor_1 a1 turn l1
  have e2 := xor_2 a2 turn l2
  have e3 := xor_3 a3 turn l3 ht
  have ho4 : Own (turnW w3 g3 k a0 a1 a2 a3 turn) g3 (leB (ofB X) ++ turnAt X k turn) := by rw [ha0, ha1, ha2, ha3]; exact turn_own HO3.out
  have HO4 := Lib.hid ho4
  have hb4 : Below w.heap.size w (turnW w3 g3 k a0 a1 a2 a3 turn) := turn_below (hb2.out.trans (HB3.out.mono hb2.out.size)) (Nat.le_trans hb2.out.size hg3) _ _ _ _ _ _
  have HB4 := Lib.hid hb4
  have HA4 : Hid (AllB (leB (ofB X) ++ turnAt X k turn)) := by
    show ∀ x ∈ _, _
    intro x hx
    rcases List.mem_append.1 hx with h | h
    · exact leB_all _ x h
    · exact turnAt_all HXa.out _ _ x h
  have HL4 : Hid ((leB (ofB X) ++ turnAt X k turn).length = l + 4 + 4) := by show _ = _; rw [List.length_append, length_leB, length_turnAt, HXl.out]; omega
  have HC : Hid (okB (leB (ofB X) ++ turnAt X k turn) = decide (ofB X = ofB (turnAt X k turn))) := okB_turned HXa.out
  have HY4 : Hid (Byt (turnW w3 g3 k a0 a1 a2 a3 turn) (some ⟨g3, 0, none⟩) (l + 4 + 4) (l + 4 + 4) (leB (ofB X) ++ turnAt X k turn)) := by
    have := HO4.out.byt HA4.out (l + 4 + 4) (by rw [HL4.out]; omega)
    rw [HL4.out] at this
    exact this
  have HT : Hid (ofB (turnAt X k turn) = ofB X ↔ turn = 0) := turnAt_sum X k turn (by rw [HXl.out]; omega) ht
  clear ha0 ha1 ha2 ha3 hlt ho4 hb4
  go_wp2
  refine wp_loop_rounds 5 ?_
  rw [rounds_succ]
  go_wp2
  rw [rounds_succ]
  go_wp2
  rw [rounds_succ]
  go_wp2
  rw [rounds_succ]
  go_wp2
  rw [rounds_succ]
  go_wp2_with fail
  refine (check_any _ _ _ _ _ HY4.out (by omega)).mono ?_
  rintro e w5 ⟨pa, pl, pc, rfl, hp5, hb5⟩
  rw [HC.out]
  have HB5 : Hid (Below w.heap.size w w5) := HB4.out.trans (hb5.out.mono HB4.out.size)
  have HS5 : Hid (Byt w5 (some ⟨g3, 4, none⟩) (l + 4) (l + 4) (turnAt X k turn)) := by
    refine ⟨by rw [length_turnAt, HXl.out], Nat.le_refl _, turnAt_all HXa.out _ _, .inr ⟨g3, 4, rfl, fun i hi => ?_⟩⟩
    have h1 := (HO4.out.keep hb5.out HO4.out.lt).cell (4 + i) (by rw [HL4.out]; omega)
    rw [h1]
    rw [List.getD_eq_getElem?_getD, List.getElem?_append_right (by rw [length_leB]; omega), length_leB, Nat.add_sub_cancel_left, ← List.getD_eq_getElem?_getD]
  have HX5 : Hid (Byt w5 (some ⟨g2, 0, none⟩) (l + 4) cp2 X) := HY.out.keep ((turn_below HB3.out hg3 k a0 a1 a2 a3 turn).trans (hb5.out.mono (turn_below HB3.out hg3 k a0 a1 a2 a3 turn).size)) (Nat.le_refl _)
  obtain ⟨u, hu⟩ : ∃ u, u = ofB (turnAt X k turn) := ⟨_, rfl⟩
  obtain ⟨v, hv⟩ : ∃ v, v = ofB X := ⟨_, rfl⟩
  rw [← hu, ← hv]
  have HU := Lib.hid hu
  have HV := Lib.hid hv
  have hT := HT.out
  rw [← hu, ← hv] at hT
  clear hu hv c0 c1 c2 c3 f e0 e1 e2 e3
  by_cases hz : turn = 0
  · have huv : u = v := hT.2 hz
    subst huv
    subst hz
    clear hT
    go_wp2_with fail
    refine (of_any w5 _ _ _ _ HS5.out (by omega)).mono ?_
    rw [← HU.out]
    rintro e w6 ⟨rfl, rfl⟩
    go_wp2_with fail
    refine (of_any _ _ _ _ _ HX5.out (by omega)).mono ?_
    rw [← HV.out]
    rintro e w7 ⟨rfl, rfl⟩
    go_wp2_with fail
    refine (known_any _).mono ?_
    rintro e w8 ⟨rfl, hb8⟩
    go_wp2
    go_ret
    exact ⟨rfl, HB5.out.trans (hb8.mono HB5.out.size)⟩
  · have huv : ¬ v = u := fun h => hz (hT.1 h.symm)
    have hb1' : ((turn : Int) == 0) = false := by simp; omega
    have hb2' : ((u : Int) == (v : Int)) = false := by simp; omega
    rw [decide_eq_false huv]
    clear hT huv hz
    go_wp2_with fail
    refine (of_any w5 _ _ _ _ HS5.out (by omega)).mono ?_
    rw [← HU.out]
    rintro e w6 ⟨rfl, rfl⟩
    go_wp2_with fail
    refine (of_any _ _ _ _ _ HX5.out (by omega)).mono ?_
    rw [← HV.out]
    rintro e w7 ⟨rfl, rfl⟩
    go_wp2_with fail
    refine (known_any _).mono ?_
    rintro e w8 ⟨rfl, hb8⟩
    go_wp2
    go_ret
    exact ⟨rfl, HB5.out.trans (hb8.mono HB5.out.size)⟩
set_option maxHeartbeats 1000000 in
theorem turns_small (w : World) (a : Addr) (l cap : Nat) (bs : List Nat) (at' : Int) (turn : Nat) (h : Byt w (some a) l cap bs) (h2 : l ≤ 200) (ht : turn < 4294967296) :
    Calls Try.prog 5 #[.slice (some a) l cap, .int .i64 at', .int .u32 turn] w fun e w' => e = .returned (.bool true) ∧ Below w.heap.size w w' := by
  obtain ⟨i0, hi, hz0, hz1, hz2⟩ := info_parts info5
  have HB := Lib.hid h
  have HL := Lib.hid h.length
  have HE : Hid (Below w.heap.size w (w.alloc (.cells #[] 5))) := (Below.refl _ _).alloc (Nat.le_refl _) _
  have HO : Hid ((w.alloc (.cells #[] 5)).ownsRow w.heap.size 5 1 (.slice (some ⟨w.heap.size, 0, none⟩) 0 0) 0 []) := World.ownsRow_lit (e := 5) (size := 1) w #[] 0 (Nat.le_refl _) (by decide) rfl
  clear h
  go_enter Try.func5, Try.ntmps5
  go_wp2_with (at_builtin; refine wpList_append_own _ rfl (.tmp 18) (.tmp 19) 22 rfl w.heap.size 5 i0 (.int .u8 0) 1 1 Try.underlying22 hi hz0 hz1 hz2 rfl (by decide) _ 0 [] rfl HO.out a l cap (vals bs) rfl (by rw [length_vals, HL.out]; simp) (news_at (HB.out.keep HE.out (Nat.le_refl _))) (vals_one bs) (by unfold maxLen; omega) (by omega) HE.out.size ?_)
  intro v1 w1 hown1 hgrow1 hn1
  have hb1 : Hid (Below w.heap.size w w1) := HE.out.grown hgrow1 HE.out.size (by intro k hk; simp [Value.ownBlock] at hk; omega)
  have ho1 := Lib.hid (show w1.ownsRow w.heap.size 5 1 v1 l (vals bs) by simpa using hown1)
  obtain ⟨g1, cp1, rfl⟩ : ∃ g cp, v1 = .slice (some ⟨g, 0, none⟩) l cp := by
    rcases ho1.out.2 with ⟨h, _⟩ | ⟨g, cp, cur, h, _⟩
    · exact absurd h hn1
    · exact ⟨g, cp, h⟩
  clear hown1 hgrow1 hn1
  go_wp2_with (at_builtin; refine wpList_append_own _ rfl (.tmp 20) (.tmp 21) 22 rfl w.heap.size 5 i0 (.int .u8 0) 1 1 Try.underlying22 hi hz0 hz1 hz2 rfl (by decide) _ l (vals bs) rfl (ho1.out.alloc _) ⟨w1.heap.size, 0, none⟩ 4 4 (vals [1, 2, 3, 4]) rfl (by rfl) (news_of ((own_new w1 [1, 2, 3, 4]).byt (all_small (by decide)) 4 (by decide))) (vals_one _) (by unfold maxLen; omega) (by omega) (hb1.out.alloc hb1.out.size _).size ?_)
  intro v2 w2 hown2 hgrow2 hn2
  have hb2 : Hid (Below w.heap.size w w2) := (hb1.out.alloc hb1.out.size _).grown hgrow2 (hb1.out.alloc hb1.out.size _).size (by
    intro k hk
    rcases ho1.out.2 with ⟨h, _⟩ | ⟨g, cp, cur, h, h1, _⟩
    · cases h
    · cases h; simp [Value.ownBlock] at hk; omega)
  obtain ⟨X, hX⟩ : ∃ X, X = bs ++ [1, 2, 3, 4] := ⟨_, rfl⟩
  have ho2 := Lib.hid (show w2.ownsRow w.heap.size 5 1 v2 (l + 4) (vals X) by rw [hX, vals_append]; simpa using hown2)
  obtain ⟨g2, cp2, rfl⟩ : ∃ g cp, v2 = .slice (some ⟨g, 0, none⟩) (l + 4) cp := by
    rcases ho2.out.2 with ⟨h, _⟩ | ⟨g, cp, cur, h, _⟩
    · exact absurd h hn2
    · exact ⟨g, cp, h⟩
  clear hown2 hgrow2 hn2
  obtain ⟨k, hk, hkl⟩ := where_k at' l h2
  have hXl : X.length = l + 4 := by rw [hX, List.length_append, HL.out]; rfl
  have hXa : AllB X := by
    rw [hX]
    intro x hx
    rcases List.mem_append.1 hx with h | h
    · exact HB.out.all x h
    · exact all_small (bs := [1, 2, 3, 4]) (by decide) x h
  have HX := Lib.hid hX
  have HXl := Lib.hid hXl
  have HXa := Lib.hid hXa
  clear hX hXl hXa
  have HY : Hid (Byt w2 (some ⟨g2, 0, none⟩) (l + 4) cp2 X) := by
    obtain ⟨h1, h2, h3, h4, h5⟩ := pre_owns ho2.out
    have := h1.byt HXa.out cp2 (by omega)
    rw [h2] at this
    exact this
  go_wp2_with fail
  refine (put_any w2 _ _ _ X HY.out (by omega)).mono ?_
  rintro e w3 ⟨g3, rfl, hg3, ho3, hb3⟩
  have HO3 := Lib.hid ho3
  have HB3 := Lib.hid hb3
  have f : ∀ i, w3.frozen? ⟨g3, i, none⟩ = false := fun i => ho3.free i
  clear ho3 hb3 hk
  have hlt : ∀ i, i < 4 → w3.cell? ⟨g3, 4 + k + i, none⟩ = some (.int .u8 (X.getD (k + i) 0 : Nat)) := fun i hi => by
    rw [HO3.out.cell (4 + k + i) (by rw [length_sealB, HXl.out]; omega)]
    have : (sealB X).getD (4 + k + i) 0 = X.getD (k + i) 0 := by
      have h0 : sealB X = leB (ofB X) ++ X := rfl
      rw [h0, List.getD_eq_getElem?_getD, List.getElem?_append_right (by rw [length_leB]; omega), length_leB, List.getD_eq_getElem?_getD]
      congr 2; omega
    rw [this]
  obtain ⟨a0, ha0⟩ : ∃ a, a = X.getD k 0 := ⟨_, rfl⟩
  obtain ⟨a1, ha1⟩ : ∃ a, a = X.getD (k + 1) 0 := ⟨_, rfl⟩
  obtain ⟨a2, ha2⟩ : ∃ a, a = X.getD (k + 2) 0 := ⟨_, rfl⟩
  obtain ⟨a3, ha3⟩ : ∃ a, a = X.getD (k + 3) 0 := ⟨_, rfl⟩
  have c0 : w3.cell? ⟨g3, 4 + k, none⟩ = some (.int .u8 (a0 : Nat)) := by rw [ha0]; exact hlt 0 (by omega)
  have c1 : w3.cell? ⟨g3, 4 + k + 1, none⟩ = some (.int .u8 (a1 : Nat)) := by rw [ha1]; exact hlt 1 (by omega)
  have c2 : w3.cell? ⟨g3, 4 + k + 2, none⟩ = some (.int .u8 (a2 : Nat)) := by rw [ha2]; exact hlt 2 (by omega)
  have c3 : w3.cell? ⟨g3, 4 + k + 3, none⟩ = some (.int .u8 (a3 : Nat)) := by rw [ha3]; exact hlt 3 (by omega)
  have l0 : a0 < 256 := by rw [ha0]; exact getD_all HXa.out _
  have l1 : a1 < 256 := by rw [ha1]; exact getD_all HXa.out _
  have l2 : a2 < 256 := by rw [ha2]; exact getD_all HXa.out _
  have l3 : a3 < 256 := by rw [ha3]; exact getD_all HXa.out _
  have e0 := xor_0 a0 turn l0
  have e1 := xor_1 a1 turn l1
  have e2 := xor_2 a2 turn l2
  have e3 := xor_3 a3 turn l3 ht
  have ho4 : Own (turnW w3 g3 k a0 a1 a2 a3 turn) g3 (leB (ofB X) ++ turnAt X k turn) := by rw [ha0, ha1, ha2, ha3]; exact turn_own HO3.out
  have HO4 := Lib.hid ho4
  have hb4 : Below w.heap.size w (turnW w3 g3 k a0 a1 a2 a3 turn) := turn_below (hb2.out.trans (HB3.out.mono hb2.out.size)) (Nat.le_trans hb2.out.size hg3) _ _ _ _ _ _
  have HB4 := Lib.hid hb4
  have HA4 : Hid (AllB (leB (ofB X) ++ turnAt X k turn)) := by
    show ∀ x ∈ _, _
    intro x hx
    rcases List.mem_append.1 hx with h | h
    · exact leB_all _ x h
    · exact turnAt_all HXa.out _ _ x h
  have HL4 : Hid ((leB (ofB X) ++ turnAt X k turn).length = l + 4 + 4) := by show _ = _; rw [List.length_append, length_leB, length_turnAt, HXl.out]; omega
  have HC : Hid (okB (leB (ofB X) ++ turnAt X k turn) = decide (ofB X = ofB (turnAt X k turn))) := okB_turned HXa.out
  have HY4 : Hid (Byt (turnW w3 g3 k a0 a1 a2 a3 turn) (some ⟨g3, 0, none⟩) (l + 4 + 4) (l + 4 + 4) (leB (ofB X) ++ turnAt X k turn)) := by
    have := HO4.out.byt HA4.out (l + 4 + 4) (by rw [HL4.out]; omega)
    rw [HL4.out] at this
    exact this
  have HT : Hid (ofB (turnAt X k turn) = ofB X ↔ turn = 0) := turnAt_sum X k turn (by rw [HXl.out]; omega) ht
  clear ha0 ha1 ha2 ha3 hlt ho4 hb4
  go_wp2
  refine wp_loop_rounds 5 ?_
  rw [rounds_succ]
  go_wp2
  rw [rounds_succ]
  go_wp2
  rw [rounds_succ]
  go_wp2
  rw [rounds_succ]
  go_wp2
  rw [rounds_succ]
  go_wp2_with fail
  refine (check_any _ _ _ _ _ HY4.out (by omega)).mono ?_
  rintro e w5 ⟨pa, pl, pc, rfl, hp5, hb5⟩
  rw [HC.out]
  have HB5 : Hid (Below w.heap.size w w5) := HB4.out.trans (hb5.out.mono HB4.out.size)
  have HS5 : Hid (Byt w5 (some ⟨g3, 4, none⟩) (l + 4) (l + 4) (turnAt X k turn)) := by
    refine ⟨by rw [length_turnAt, HXl.out], Nat.le_refl _, turnAt_all HXa.out _ _, .inr ⟨g3, 4, rfl, fun i hi => ?_⟩⟩
    have h1 := (HO4.out.keep hb5.out HO4.out.lt).cell (4 + i) (by rw [HL4.out]; omega)
    rw [h1]
    rw [List.getD_eq_getElem?_getD, List.getElem?_append_right (by rw [length_leB]; omega), length_leB, Nat.add_sub_cancel_left, ← List.getD_eq_getElem?_getD]
  have HX5 : Hid (Byt w5 (some ⟨g2, 0, none⟩) (l + 4) cp2 X) := HY.out.keep ((turn_below HB3.out hg3 k a0 a1 a2 a3 turn).trans (hb5.out.mono (turn_below HB3.out hg3 k a0 a1 a2 a3 turn).size)) (Nat.le_refl _)
  obtain ⟨u, hu⟩ : ∃ u, u = ofB (turnAt X k turn) := ⟨_, rfl⟩
  obtain ⟨v, hv⟩ : ∃ v, v = ofB X := ⟨_, rfl⟩
  rw [← hu, ← hv]
  have HU := Lib.hid hu
  have HV := Lib.hid hv
  have hT := HT.out
  rw [← hu, ← hv] at hT
  clear hu hv c0 c1 c2 c3 f e0 e1 e2 e3
  by_cases hz : turn = 0
  · have huv : u = v := hT.2 hz
    subst huv
    subst hz
    clear hT
    go_wp2_with fail
    refine (of_any w5 _ _ _ _ HS5.out (by omega)).mono ?_
    rw [← HU.out]
    rintro e w6 ⟨rfl, rfl⟩
    go_wp2_with fail
    refine (of_any _ _ _ _ _ HX5.out (by omega)).mono ?_
    rw [← HV.out]
    rintro e w7 ⟨rfl, rfl⟩
    go_wp2_with fail
    refine (known_any _).mono ?_
    rintro e w8 ⟨rfl, hb8⟩
    go_wp2
    go_ret
    exact ⟨rfl, HB5.out.trans (hb8.mono HB5.out.size)⟩
  · have huv : ¬ v = u := fun h => hz (hT.1 h.symm)
    have hb1' : ((turn : Int) == 0) = false := by simp; omega
    have hb2' : ((u : Int) == (v : Int)) = false := by simp; omega
    rw [decide_eq_false huv]
    clear hT huv hz
    go_wp2_with fail
    refine (of_any w5 _ _ _ _ HS5.out (by omega)).mono ?_
    rw [← HU.out]
    rintro e w6 ⟨rfl, rfl⟩
    go_wp2_with fail
    refine (of_any _ _ _ _ _ HX5.out (by omega)).mono ?_
    rw [← HV.out]
    rintro e w7 ⟨rfl, rfl⟩
    go_wp2_with fail
    refine (known_any _).mono ?_
    rintro e w8 ⟨rfl, hb8⟩
    go_wp2
    go_ret
    exact ⟨rfl, HB5.out.trans (hb8.mono HB5.out.size)⟩
set_option maxHeartbeats 1000000 in
theorem turns_big (w : World) (a : Addr) (len l cap : Nat) (bs : List Nat) (at' : Int) (turn : Nat) (h : Byt w (some a) l cap bs) (h2 : 200 < len) (hc : len ≤ cap) (hl : l = 200) (ht : turn < 4294967296) :
    Calls Try.prog 5 #[.slice (some a) len cap, .int .i64 at', .int .u32 turn] w fun e w' => e = .returned (.bool true) ∧ Below w.heap.size w w' := by
  obtain ⟨i0, hi, hz0, hz1, hz2⟩ := info_parts info5
  have HB := Lib.hid h
  have HL := Lib.hid h.length
  have HE : Hid (Below w.heap.size w (w.alloc (.cells #[] 5))) := (Below.refl _ _).alloc (Nat.le_refl _) _
  have HO : Hid ((w.alloc (.cells #[] 5)).ownsRow w.heap.size 5 1 (.slice (some ⟨w.heap.size, 0, none⟩) 0 0) 0 []) := World.ownsRow_lit (e := 5) (size := 1) w #[] 0 (Nat.le_refl _) (by decide) rfl
  have hsl : ∀ w, (Instr.slice 22 (.slice (some a) len cap) none (some (.int .i64 200)) none).run Try.prog w = .ok (.slice (some a) l cap) w := by
    rw [hl]; exact run_upto (some a) len cap h2 hc
  have hd : decide ((200 : Int) < (len : Int)) = true := by simp; omega
  have h20 : l ≤ 200 := by omega
  clear h hl h2
  have h2 := h20
  clear h20
  go_enter Try.func5, Try.ntmps5
  go_wp2_with (at_builtin; refine wpList_append_own _ rfl (.tmp 18) (.tmp 19) 22 rfl w.heap.size 5 i0 (.int .u8 0) 1 1 Try.underlying22 hi hz0 hz1 hz2 rfl (by decide) _ 0 [] rfl HO.out a l cap (vals bs) rfl (by rw [length_vals, HL.out]; simp) (news_at (HB.out.keep HE.out (Nat.le_refl _))) (vals_one bs) (by unfold maxLen; omega) (by omega) HE.out.size ?_)
  intro v1 w1 hown1 hgrow1 hn1
  have hb1 : Hid (Below w.heap.size w w1) := HE.out.grown hgrow1 HE.out.size (by intro k hk; simp [Value.ownBlock] at hk; omega)
  have ho1 := Lib.hid (show w1.ownsRow w.heap.size 5 1 v1 l (vals bs) by simpa using hown1)
  obtain ⟨g1, cp1, rfl⟩ : ∃ g cp, v1 = .slice (some ⟨g, 0, none⟩) l cp := by
    rcases ho1.out.2 with ⟨h, _⟩ | ⟨g, cp, cur, h, _⟩
    · exact absurd h hn1
    · exact ⟨g, cp, h⟩
  clear hown1 hgrow1 hn1
  go_wp2_with (at_builtin; refine wpList_append_own _ rfl (.tmp 20) (.tmp 21) 22 rfl w.heap.size 5 i0 (.int .u8 0) 1 1 Try.underlying22 hi hz0 hz1 hz2 rfl (by decide) _ l (vals bs) rfl (ho1.out.alloc _) ⟨w1.heap.size, 0, none⟩ 4 4 (vals [1, 2, 3, 4]) rfl (by rfl) (news_of ((own_new w1 [1, 2, 3, 4]).byt (all_small (by decide)) 4 (by decide))) (vals_one _) (by unfold maxLen; omega) (by omega) (hb1.out.alloc hb1.out.size _).size ?_)
  intro v2 w2 hown2 hgrow2 hn2
  have hb2 : Hid (Below w.heap.size w w2) := (hb1.out.alloc hb1.out.size _).grown hgrow2 (hb1.out.alloc hb1.out.size _).size (by
    intro k hk
    rcases ho1.out.2 with ⟨h, _⟩ | ⟨g, cp, cur, h, h1, _⟩
    · cases h
    · cases h; simp [Value.ownBlock] at hk; omega)
  obtain ⟨X, hX⟩ : ∃ X, X = bs ++ [1, 2, 3, 4] := ⟨_, rfl⟩
  have ho2 := Lib.hid (show w2.ownsRow w.heap.size 5 1 v2 (l + 4) (vals X) by rw [hX, vals_append]; simpa using hown2)
  obtain ⟨g2, cp2, rfl⟩ : ∃ g cp, v2 = .slice (some ⟨g, 0, none⟩) (l + 4) cp := by
    rcases ho2.out.2 with ⟨h, _⟩ | ⟨g, cp, cur, h, _⟩
    · exact absurd h hn2
    · exact ⟨g, cp, h⟩
  clear hown2 hgrow2 hn2
  obtain ⟨k, hk, hkl⟩ := where_k at' l h2
  have hXl : X.length = l + 4 := by rw [hX, List.length_append, HL.out]; rfl
  have hXa : AllB X := by
    rw [hX]
    intro x hx
    rcases List.mem_append.1 hx with h | h
    · exact HB.out.all x h
    · exact all_small (bs := [1, 2, 3, 4]) (by decide) x h
  have HX := Lib.hid hX
  have HXl := Lib.hid hXl
  have HXa := Lib.hid hXa
  clear hX hXl hXa
  have HY : Hid (Byt w2 (some ⟨g2, 0, none⟩) (l + 4) cp2 X) := by
    obtain ⟨h1, h2, h3, h4, h5⟩ := pre_owns ho2.out
    have := h1.byt HXa.out cp2 (by omega)
    rw [h2] at this
    exact this
  go_wp2_with fail
  refine (put_any w2 _ _ _ X HY.out (by omega)).mono ?_
  rintro e w3 ⟨g3, rfl, hg3, ho3, hb3⟩
  have HO3 := Lib.hid ho3
  have HB3 := Lib.hid hb3
  have f : ∀ i, w3.frozen? ⟨g3, i, none⟩ = false := fun i => ho3.free i
  clear ho3 hb3 hk
  have hlt : ∀ i, i < 4 → w3.cell? ⟨g3, 4 + k + i, none⟩ = some (.int .u8 (X.getD (k + i) 0 : Nat)) := fun i hi => by
    rw [HO3.out.cell (4 + k + i) (by rw [length_sealB, HXl.out]; omega)]
    have : (sealB X).getD (4 + k + i) 0 = X.getD (k + i) 0 := by
      have h0 : sealB X = leB (ofB X) ++ X := rfl
      rw [h0, List.getD_eq_getElem?_getD, List.getElem?_append_right (by rw [length_leB]; omega), length_leB, List.getD_eq_getElem?_getD]
      congr 2; omega
    rw [this]
  obtain ⟨a0, ha0⟩ : ∃ a, a = X.getD k 0 := ⟨_, rfl⟩
  obtain ⟨a1, ha1⟩ : ∃ a, a = X.getD (k + 1) 0 := ⟨_, rfl⟩
  obtain ⟨a2, ha2⟩ : ∃ a, a = X.getD (k + 2) 0 := ⟨_, rfl⟩
  obtain ⟨a3, ha3⟩ : ∃ a, a = X.getD (k + 3) 0 := ⟨_, rfl⟩
  have c0 : w3.cell? ⟨g3, 4 + k, none⟩ = some (.int .u8 (a0 : Nat)) := by rw [ha0]; exact hlt 0 (by omega)
  have c1 : w3.cell? ⟨g3, 4 + k + 1, none⟩ = some (.int .u8 (a1 : Nat)) := by rw [ha1]; exact hlt 1 (by omega)
  have c2 : w3.cell? ⟨g3, 4 + k + 2, none⟩ = some (.int .u8 (a2 : Nat)) := by rw [ha2]; exact hlt 2 (by omega)
  have c3 : w3.cell? ⟨g3, 4 + k + 3, none⟩ = some (.int .u8 (a3 : Nat)) := by rw [ha3]; exact hlt 3 (by omega)
  have l0 : a0 < 256 := by rw [ha0]; exact getD_all HXa.out _
  have l1 : a1 < 256 := by rw [ha1]; exact getD_all HXa.out _
  have l2 : a2 < 256 := by rw [ha2]; exact getD_all HXa.out _
  have l3 : a3 < 256 := by rw [ha3]; exact getD_all HXa.out _
  have e0 := xor_0 a0 turn l0
  have e1 := xor_1 a1 turn l1
  have e2 := xor_2 a2 turn l2
  have e3 := xor_3 a3 turn l3 ht
  have ho4 : Own (turnW w3 g3 k a0 a1 a2 a3 turn) g3 (leB (ofB X) ++ turnAt X k turn) := by rw [ha0, ha1, ha2, ha3]; exact turn_own HO3.out
  have HO4 := Lib.hid ho4
  have hb4 : Below w.heap.size w (turnW w3 g3 k a0 a1 a2 a3 turn) := turn_below (hb2.out.trans (HB3.out.mono hb2.out.size)) (Nat.le_trans hb2.out.size hg3) _ _ _ _ _ _
  have HB4 := Lib.hid hb4
  have HA4 : Hid (AllB (leB (ofB X) ++ turnAt X k turn)) := by
    show ∀ x ∈ _, _
    intro x hx
    rcases List.mem_append.1 hx with h | h
    · exact leB_all _ x h
    · exact turnAt_all HXa.out _ _ x h
  have HL4 : Hid ((leB (ofB X) ++ turnAt X k turn).length = l + 4 + 4) := by show _ = _; rw [List.length_append, length_leB, length_turnAt, HXl.out]; omega
  have HC : Hid (okB (leB (ofB X) ++ turnAt X k turn) = decide (ofB X = ofB (turnAt X k turn))) := okB_turned HXa.out
  have HY4 : Hid (Byt (turnW w3 g3 k a0 a1 a2 a3 turn) (some ⟨g3, 0, none⟩) (l + 4 + 4) (l + 4 + 4) (leB (ofB X) ++ turnAt X k turn)) := by
    have := HO4.out.byt HA4.out (l + 4 + 4) (by rw [HL4.out]; omega)
    rw [HL4.out] at this
    exact this
  have HT : Hid (ofB (turnAt X k turn) = ofB X ↔ turn = 0) := turnAt_sum X k turn (by rw [HXl.out]; omega) ht
  clear ha0 ha1 ha2 ha3 hlt ho4 hb4
  go_wp2
  refine wp_loop_rounds 5 ?_
  rw [rounds_succ]
  go_wp2
  rw [rounds_succ]
  go_wp2
  rw [rounds_succ]
  go_wp2
  rw [rounds_succ]
  go_wp2
  rw [rounds_succ]
  go_wp2_with fail
  refine (check_any _ _ _ _ _ HY4.out (by omega)).mono ?_
  rintro e w5 ⟨pa, pl, pc, rfl, hp5, hb5⟩
  rw [HC.out]
  have HB5 : Hid (Below w.heap.size w w5) := HB4.out.trans (hb5.out.mono HB4.out.size)
  have HS5 : Hid (Byt w5 (some ⟨g3, 4, none⟩) (l + 4) (l + 4) (turnAt X k turn)) := by
    refine ⟨by rw [length_turnAt, HXl.out], Nat.le_refl _, turnAt_all HXa.out _ _, .inr ⟨g3, 4, rfl, fun i hi => ?_⟩⟩
    have h1 := (HO4.out.keep hb5.out HO4.out.lt).cell (4 + i) (by rw [HL4.out]; omega)
    rw [h1]
    rw [List.getD_eq_getElem?_getD, List.getElem?_append_right (by rw [length_leB]; omega), length_leB, Nat.add_sub_cancel_left, ← List.getD_eq_getElem?_getD]
  have HX5 : Hid (Byt w5 (some ⟨g2, 0, none⟩) (l + 4) cp2 X) := HY.out.keep ((turn_below HB3.out hg3 k a0 a1 a2 a3 turn).trans (hb5.out.mono (turn_below HB3.out hg3 k a0 a1 a2 a3 turn).size)) (Nat.le_refl _)
  obtain ⟨u, hu⟩ : ∃ u, u = ofB (turnAt X k turn) := ⟨_, rfl⟩
  obtain ⟨v, hv⟩ : ∃ v, v = ofB X := ⟨_, rfl⟩
  rw [← hu, ← hv]
  have HU := Lib.hid hu
  have HV := Lib.hid hv
  have hT := HT.out
  rw [← hu, ← hv] at hT
  clear hu hv c0 c1 c2 c3 f e0 e1 e2 e3
  by_cases hz : turn = 0
  · have huv : u = v := hT.2 hz
    subst huv
    subst hz
    clear hT
    go_wp2_with fail
    refine (of_any w5 _ _ _ _ HS5.out (by omega)).mono ?_
    rw [← HU.out]
    rintro e w6 ⟨rfl, rfl⟩
    go_wp2_with fail
    refine (of_any _ _ _ _ _ HX5.out (by omega)).mono ?_
    rw [← HV.out]
    rintro e w7 ⟨rfl, rfl⟩
    go_wp2_with fail
    refine (known_any _).mono ?_
    rintro e w8 ⟨rfl, hb8⟩
    go_wp2
    go_ret
    exact ⟨rfl, HB5.out.trans (hb8.mono HB5.out.size)⟩
  · have huv : ¬ v = u := fun h => hz (hT.1 h.symm)
    have hb1' : ((turn : Int) == 0) = false := by simp; omega
    have hb2' : ((u : Int) == (v : Int)) = false := by simp; omega
    rw [decide_eq_false huv]
    clear hT huv hz
    go_wp2_with fail
    refine (of_any w5 _ _ _ _ HS5.out (by omega)).mono ?_
    rw [← HU.out]
    rintro e w6 ⟨rfl, rfl⟩
    go_wp2_with fail
    refine (of_any _ _ _ _ _ HX5.out (by omega)).mono ?_
    rw [← HV.out]
    rintro e w7 ⟨rfl, rfl⟩
    go_wp2_with fail
    refine (known_any _).mono ?_
    rintro e w8 ⟨rfl, hb8⟩
    go_wp2
    go_ret
    exact ⟨rfl, HB5.out.trans (hb8.mono HB5.out.size)⟩
end Go.Proofs.Ytepbmipddblkmaa
