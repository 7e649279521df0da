/- The walk of 'CrcNumbers'. No condition. -/
import Derived.Test.YtepbmipddblkmaaSame
import Derived.Test.YtepbmipddblkmaaParts
namespace Go.Proofs.Ytepbmipddblkmaa
open Go.RowKit Go.CrcMath
set_option linter.unusedVariables false

theorem owns_keep {w w' : World} {base e size n : Nat} {v : Value} {xs : List Value} (h : w.ownsRow base e size v n xs) {B : Nat} (hb : Below B w w') (hB : w.heap.size ≤ B) : w'.ownsRow base e size v n xs := by
  refine ⟨h.1, ?_⟩
  rcases h.2 with h0 | ⟨g, cap, cur, hv, hg, hh, r⟩
  · exact .inl h0
  · refine .inr ⟨g, cap, cur, hv, hg, ?_, r⟩
    rw [hb.block g (Nat.lt_of_lt_of_le (Array.getElem?_eq_some_iff.1 hh).1 hB)]
    exact hh
theorem owns_any {w : World} {base n : Nat} {v : Value} {bl : List Nat} (h : w.ownsRow base 5 1 v n (vals bl)) (ha : AllB bl) : ∃ ad cap, v = .slice ad n cap ∧ Row w ad n cap bl := by
  rcases h.2 with ⟨hv, hn⟩ | ⟨g, cap, cur, rfl, _⟩
  · subst hn
    have hl : bl = [] := by
      have := h.1
      rw [length_vals] at this
      exact List.eq_nil_of_length_eq_zero (by omega)
    subst hl
    exact ⟨none, 0, hv, Byt.nil w, fun _ => rfl⟩
  · exact ⟨_, _, rfl, owns_row h ha⟩
theorem xor_some (a b : Int) : ∃ z : Nat, z < 256 ∧ bits .xor .u8 a b = (z : Int) := by
  have h : ∀ n : Int, 0 ≤ IntKind.u8.wrap n ∧ IntKind.u8.wrap n < 256 := fun n => by rw [IntKind.wrap_u8]; omega
  obtain ⟨n, hn⟩ : ∃ n : Int, bits .xor .u8 a b = IntKind.u8.wrap n := ⟨_, rfl⟩
  have := h n
  exact ⟨(IntKind.u8.wrap n).toNat, by omega, by rw [hn]; omega⟩

/-- The same at whatever numbers fit. -/
theorem same_at (w : World) (ad : Option Addr) (len cap : Nat) (bs : List Nat) (c x : Int) (h : Row w ad len cap bs) (hL : len ≤ 140737488355296) (hc : 0 ≤ c ∧ c < 4294967296) (hx : 0 ≤ x ∧ x < 256) :
    Calls Try.prog 8 #[.slice ad len cap, .int .u32 c, .int .u8 x] w fun e w' => e = .returned (.bool true) ∧ Below w.heap.size w w' := by
  have e1 : c = ((c.toNat : Nat) : Int) := by omega
  have e2 : x = ((x.toNat : Nat) : Int) := by omega
  rw [e1, e2]
  exact same_any w ad len cap bs c.toNat x.toNat h.1 h.2 hL (by omega) (by omega)
theorem cut_row {w : World} {a : Addr} {len cap : Nat} {bs : List Nat} (h : Row w (some a) len cap bs) (l : Nat) (hl : l ≤ len) : Row w (some a) l cap (bs.take l) := by
  refine ⟨⟨by rw [List.length_take, h.1.length]; omega, Nat.le_trans hl h.1.fits, take_all h.all l, ?_⟩, fun h => by cases h⟩
  rcases h.1.cells with h0 | ⟨b, off, e, hc⟩
  · exact .inl (by omega)
  · refine .inr ⟨b, off, e, fun i hi => ?_⟩
    rw [hc i (by omega)]
    have : (bs.take l).getD i 0 = bs.getD i 0 := by rw [List.getD_eq_getElem?_getD, List.getElem?_take, if_pos hi, ← List.getD_eq_getElem?_getD]
    rw [this]

set_option maxRecDepth 100000 in
set_option maxHeartbeats 4000000 in
theorem numbers_any (w : World) : Calls Try.prog 3 #[] w fun e w' => e = .returned (.bool true) ∧ Below w.heap.size w w' := by
  obtain ⟨i0, hi, hz0, hz1, hz2⟩ := info_parts info5
  go_enter Try.func3, Try.ntmps3
  go_wp2
  go_loopw [1, 2] (fun v i wr => ∃ (k : Nat) (bl : List Nat), k ≤ 200 ∧ i = .int .i64 k ∧ AllB bl ∧ wr.ownsRow w.heap.size 5 1 v k (vals bl) ∧ Below w.heap.size w wr) (fun _ i _ => (200 - intOf i).toNat)
  case atStart => exact ⟨0, [], by omega, rfl, (fun x hx => by cases hx), World.ownsRow_nil _ _ _ _, Below.refl _ _⟩
  case round =>
    obtain ⟨k, bl, hk, rfl, hal, hown, hbel⟩ := hrel
    obtain ⟨ad, cap, rfl, hrow⟩ := owns_any hown hal
    have HA := Lib.hid hal
    have HO := Lib.hid hown
    have HW := Lib.hid hbel
    have HR := Lib.hid hrow
    clear hal hown hbel hrow
    by_cases hlt : k < 200
    · go_wp2_with fail
      refine (sealed_any wr ad k cap bl HR.out.1 HR.out.2 (by omega)).mono ?_
      rintro e w1 ⟨v, rfl, g, cp, rfl, hcp, hg, hpr, hb1⟩
      have hl : (sealB bl).length = k + 4 := by rw [length_sealB, HR.out.1.length]
      rw [hl] at hcp ⊢
      have HS1 : Hid (Row w1 (some ⟨g, 0, none⟩) (k + 4) cp (sealB bl)) := by
        have := hpr.byt (sealB_all HA.out) cp (by rw [hl]; exact hcp)
        rw [hl] at this
        exact ⟨this, fun h => by cases h⟩
      have HB1 := Lib.hid hb1
      have HL := Lib.hid hl
      clear hpr hb1 hl
      have HZ1 : Hid (Below w1.heap.size w1 (w1.alloc (.cells #[] 5))) := (Below.refl _ _).alloc (Nat.le_refl _) _
      go_wp2_with (at_builtin; refine append_row rfl (.tmp 11) (.tmp 12) rfl w1.heap.size 0 [] _ _ rfl (own_empty w1 _ (Nat.le_refl _)) (some_ne _ _ _) HZ1.out.size _ _ _ rfl (HS1.out.keep HZ1.out (Nat.le_refl _)) (by omega) w1 HZ1.out ?_)
      intro g2 cp2 w2 ho2 hz2'
      have HZ2 := Lib.hid hz2'
      have HO2 := Lib.hid (show w2.ownsRow w1.heap.size 5 1 (.slice (some ⟨g2, 0, none⟩) (k + 4) cp2) (k + 4) (vals (sealB bl)) by simpa using ho2)
      clear ho2 hz2'
      have hp2 := (pre_owns HO2.out).1
      have hc2 := hp2.cell k (by rw [HL.out]; omega)
      have hf2 := hp2.free k
      obtain ⟨y, hy⟩ : ∃ y, y = (sealB bl).getD k 0 := ⟨_, rfl⟩
      rw [← hy] at hc2
      have hmod : (k : Int) % ((k : Int) + 4) = (k : Int) := Int.emod_eq_of_lt (by omega) (by omega)
      have hpz0 := hp2
      clear hp2 hy
      obtain ⟨z, hz8, hxz⟩ := xor_some (y : Int) ((2 : Int) ^ (k % 8) % 256)
      have hpz := hpz0.set k z
      obtain ⟨T, hT⟩ : ∃ T, T = (sealB bl).set k z := ⟨_, rfl⟩
      have hTl : T.length = k + 4 := by rw [hT, List.length_set, HL.out]
      have hTa : AllB T := by
        rw [hT]
        intro x hx
        rcases List.mem_or_eq_of_mem_set hx with h1 | h1
        · exact sealB_all HA.out x h1
        · rw [h1]; exact hz8
      rw [← hT] at hpz
      have hcap2 : k + 4 ≤ cp2 := (pre_owns HO2.out).2.2.1
      have HT3 : Hid (Row (w2.setCell ⟨g2, k, none⟩ (.int .u8 (z : Nat))) (some ⟨g2, 0, none⟩) (k + 4) cp2 T) := by
        have := hpz.byt hTa cp2 (by rw [hTl]; exact hcap2)
        rw [hTl] at this
        exact ⟨this, fun h => by cases h⟩
      have HZ3 : Hid (Below w1.heap.size w1 (w2.setCell ⟨g2, k, none⟩ (.int .u8 (z : Nat)))) := HZ2.out.setCell (p := ⟨g2, k, none⟩) (pre_owns HO2.out).2.2.2.1 _
      clear hT hTl hTa hpz hcap2 hpz0
      go_wp2_with fail
      obtain ⟨w3, hw3⟩ : ∃ w3, w3 = w2.setCell ⟨g2, k, none⟩ (.int .u8 (z : Nat)) := ⟨_, rfl⟩
      rw [← hw3] at HT3 HZ3 ⊢
      clear hw3 hc2 hf2 hxz
      have HS3 := Lib.hid (HS1.out.keep HZ3.out (Nat.le_refl _))
      have HR3 := Lib.hid ((HR.out.keep HB1.out (Nat.le_refl _)).keep HZ3.out (Nat.le_refl _))
      have HO3 := Lib.hid (owns_keep (owns_keep HO.out HB1.out (Nat.le_refl _)) HZ3.out (Nat.le_refl _))
      have HW3 : Hid (Below w.heap.size w w3) := (HW.out.trans (HB1.out.mono HW.out.size)).trans (HZ3.out.mono (Nat.le_trans HW.out.size HB1.out.size))
      refine (same_at w3 _ _ _ bl _ _ HR3.out (by omega) (by omega) (by omega)).mono ?_
      rintro e w4 ⟨rfl, hb4⟩
      have HB4 := Lib.hid hb4
      clear hb4
      have hck := cplc k (by omega)
      have hcl := cpl_lt (c := k) (by omega)
      have hsg := usig
      go_wp2_with fail
      refine (same_at w4 _ _ _ (sealB bl) _ _ (HS3.out.keep HB4.out (Nat.le_refl _)) (by omega) (by omega) (by omega)).mono ?_
      rintro e w5 ⟨rfl, hb5⟩
      have HB5 := Lib.hid (HB4.out.trans (hb5.mono HB4.out.size))
      clear hb5 hck hcl
      go_wp2_with fail
      refine (same_at w5 _ _ _ T _ _ (HT3.out.keep HB5.out (Nat.le_refl _)) (by omega) (by omega) (by omega)).mono ?_
      rintro e w6 ⟨rfl, hb6⟩
      have HB6 := Lib.hid (HB5.out.trans (hb6.mono HB5.out.size))
      clear hb6
      go_wp2_with fail
      refine (same_at w6 _ _ _ _ _ _ (cut_row (HS3.out.keep HB6.out (Nat.le_refl _)) (k + 3) (by omega)) (by omega) (by omega) (by omega)).mono ?_
      rintro e w7 ⟨rfl, hb7⟩
      have HB7 := Lib.hid (HB6.out.trans (hb7.mono HB6.out.size))
      have HW7 : Hid (Below w.heap.size w w7) := HW3.out.trans (HB7.out.mono HW3.out.size)
      have HO7 := Lib.hid (owns_keep HO3.out HB7.out (Nat.le_refl _))
      clear hb7 hmod
      have hk2 : (0 : Int) ≤ (k : Int) * (k : Int) ∧ (k : Int) * (k : Int) ≤ 40000 := by
        have h1 : k * k ≤ 200 * 200 := Nat.mul_le_mul hk hk
        have h2 : ((k * k : Nat) : Int) = (k : Int) * (k : Int) := by simp
        omega
      obtain ⟨q0, q1⟩ := hk2
      obtain ⟨n, hn⟩ : ∃ n : Nat, ((k : Int) * (k : Int) + 3) % 256 = (n : Int) := ⟨(((k : Int) * (k : Int) + 3) % 256).toNat, by omega⟩
      have hn8 : n < 256 := by omega
      have HW8 : Hid (Below w.heap.size w (w7.alloc (.cells #[.int .u8 n] 5))) := HW7.out.alloc HW7.out.size _
      have HNW : Hid (∀ j u, (vals [n])[j]? = some u → (w7.alloc (.cells #[.int .u8 n] 5)).cell? ((⟨w7.heap.size, 0, none⟩ : Addr).add j) = some u) :=
        news_of ((own_new w7 [n]).byt (fun x hx => by simp at hx; omega) 1 (by simp))
      go_wp2_with (at_builtin; refine wpList_append_own _ rfl (.tmp 60) (.tmp 66) 22 rfl w.heap.size 5 i0 (.int .u8 0) 1 1 Try.underlying22 hi hz0 hz1 hz2 rfl (by decide) _ k (vals bl) rfl (HO7.out.alloc _) ⟨w7.heap.size, 0, none⟩ 1 1 (vals [n]) rfl (by rfl) HNW.out (vals_one _) (by unfold maxLen; omega) (by omega) HW8.out.size ?_)
      intro v' w8 hown8 hgrow8 hn8'
      have HO8 := Lib.hid (show w8.ownsRow w.heap.size 5 1 v' (k + 1) (vals (bl ++ [n])) by rw [vals_append]; exact hown8)
      have HW9 : Hid (Below w.heap.size w w8) := HW8.out.grown hgrow8 HW8.out.size (fun j hj => (HO7.out.lt j hj).1)
      have HA8 : Hid (AllB (bl ++ [n])) := all_append HA.out (fun x hx => by simp at hx; omega)
      clear hown8 hgrow8 hn8' hn q0 q1
      go_wp2
      go_roundw
      case rel => exact ⟨k + 1, bl ++ [n], by omega, by go_num, HA8.out, HO8.out, HW9.out⟩
      case measure => simp [intOf]; omega
    · go_wp2_with fail
      refine (known_any wr).mono ?_
      rintro e w7 ⟨rfl, hb7⟩
      go_wp2
      go_ret
      exact ⟨rfl, HW.out.trans (hb7.mono HW.out.size)⟩
end Go.Proofs.Ytepbmipddblkmaa
