/- The contract of the document's own 'Unseal'. -/
import Derived.Test.YtlpmfhccfihnfaaCrcSeal
import Derived.Test.YtlpmfhccfihnfaaCrcSealed
import Derived.Deep.RegionWith
namespace Go.Proofs.Ytlpmfhccfihnfaa
open Go.RowKit Go.CrcMath
set_option linter.unusedVariables false

theorem unseal_short (w : World) (ad : Option Addr) (len cap : Nat) (bs : List Nat) (h : Byt w ad len cap bs) (h4 : len < 4) :
    Calls Try.prog 51 #[.slice ad len cap] w fun e w' => e = .returned (.tuple #[.slice none 0 0, .bool false]) ∧ ∃ n, w' = w.drewN n := by
  have hd : decide ((len : Int) < 4) = true := by simp; omega
  go_enter Try.func51, Try.ntmps51
  go_wp2
  go_quiet (fail)
  go_wp2
  go_ret2
  exact ⟨rfl, _, rfl⟩

set_option maxRecDepth 100000 in
set_option maxHeartbeats 1000000 in
theorem unseal_long (w : World) (ad : Option Addr) (len cap : Nat) (bs : List Nat) (h : Byt w ad len cap bs) (h4 : 4 ≤ len) (hL : len ≤ 140737488355300) :
    Calls Try.prog 51 #[.slice ad len cap] w fun e w' => (okB bs = false → e = .returned (.tuple #[.slice none 0 0, .bool false]) ∧ Below w.heap.size w w') ∧
      (okB bs = true → ∃ v, e = .returned (.tuple #[v, .bool true]) ∧ Made w (bs.drop 4) v w') := by
  obtain ⟨i0, hi, hz0, hz1, hz2⟩ := info_parts info5
  have hBs := h
  obtain ⟨b, off, x0, x1, x2, x3, r, rfl, hbs, l0, l1, l2, l3, hr, c0, c1, c2, c3, hB⟩ := h.four h4
  have hd : decide ((len : Int) < 4) = false := by simp; omega
  obtain ⟨o4, ho4⟩ : ∃ o4, o4 = if cap = 4 then off else off + 4 := ⟨_, rfl⟩
  rw [← ho4] at hB
  have hsl := run_from4 b off len cap o4 h4 ho4
  obtain ⟨s1, hs1⟩ : ∃ s1, s1 = str (sealB r) := ⟨_, rfl⟩
  obtain ⟨s2, hs2⟩ : ∃ s2, s2 = str bs := ⟨_, rfl⟩
  have K7 : ∀ W, Below w.heap.size w W → Calls Try.prog 50 #[.slice (some ⟨b, o4, none⟩) (len - 4) (cap - 4)] W fun e w' => ∃ g cp, e = .returned (.slice (some ⟨g, 0, none⟩) len cp) ∧ Hid (Below w.heap.size w w') ∧
      (convert 34 9 (.slice (some ⟨g, 0, none⟩) len cp)).run Try.prog w' = .ok (.string s1) w' ∧ (convert 34 9 (.slice (some ⟨b, off, none⟩) len cap)).run Try.prog w' = .ok (.string s2) w' := by
    intro W hW
    refine (sealed_some W ⟨b, o4, none⟩ (len - 4) (cap - 4) r (hB.keep hW (Nat.le_refl _)) (by omega)).mono ?_
    rintro e w' ⟨v, rfl, g, cp, rfl, hcp, hg, hp, hb⟩
    have hl : (sealB r).length = len := by rw [length_sealB]; omega
    have hb2 : Below w.heap.size w w' := hW.trans (hb.mono hW.size)
    rw [hl] at hcp ⊢
    refine ⟨g, cp, rfl, hb2, run_str_at ?_ hs1, run_str_at (hBs.keep hb2 (Nat.le_refl _)) hs2⟩
    have := hp.byt (sealB_all hB.all) cp (by omega)
    rw [hl] at this
    exact this
  have HK := Lib.hid K7
  have hcv0 : (convert 34 9 (.slice (some ⟨b, off, none⟩) len cap)).run Try.prog w = .ok (.string s2) w := run_str_at hBs hs2
  have hcv1 : (convert 34 9 (.slice (some ⟨b, off, none⟩) len cap)).run Try.prog w.drew = .ok (.string s2) w.drew := run_str_at (hBs.keep ((Below.refl _ _).drew) (Nat.le_refl _)) hs2
  have HB := Lib.hid hB
  have HR := Lib.hid hr
  have HBs := Lib.hid hBs
  have H1 := Lib.hid hs1
  have H2 := Lib.hid hs2
  clear hB hBs ho4 h hs1 hs2 K7 c0 c1 c2 c3 hr
  cases hok : okB bs
  · have hne : (s1.toList == s2.toList) = false := by
      have h1 : sealB r ≠ bs := fun e => by
        have h3 := (sealB_drop (bs := bs) (by rw [HBs.out.length]; exact h4) HBs.out.all).1 (by rw [hbs]; rw [hbs] at e; exact e)
        rw [hok] at h3; cases h3
      have := str_differ (sealB_all HB.out.all) HBs.out.all h1
      rw [← H1.out, ← H2.out] at this
      exact this
    clear hok hbs
    go_enter Try.func51, Try.ntmps51
    go_wp2
    go_region_with (go_at_call 50; refine (HK.out _ ?_).mono ?_; exact (Below.refl _ _).drew; rintro e w1 ⟨g, cp, rfl, hb1, hca, hcb⟩)
    all_goals
      go_wp2
      go_ret2
      exact ⟨fun _ => ⟨rfl, hb1.out⟩, fun h => by cases h⟩
  · have heq : (s1.toList == s2.toList) = true := by
      have h1 : sealB r = bs := by
        have h3 := (sealB_drop (bs := bs) (by rw [HBs.out.length]; exact h4) HBs.out.all).2 hok
        rw [hbs] at h3 ⊢; exact h3
      rw [H1.out, H2.out, h1, str_same]
    have hdr : Hid (bs.drop 4 = r) := by show _ = _; rw [hbs]; rfl
    clear hok hbs
    go_enter Try.func51, Try.ntmps51
    go_wp2
    go_region_with (go_at_call 50; refine (HK.out _ ?_).mono ?_; exact (Below.refl _ _).drew; rintro e w1 ⟨g, cp, rfl, hb1, hca, hcb⟩)
    all_goals
      have hb2 : Below w.heap.size w (w1.alloc (.cells #[] 5)) := hb1.out.alloc hb1.out.size _
      have HB2 := Lib.hid hb2
      have HO : Hid ((w1.alloc (.cells #[] 5)).ownsRow w.heap.size 5 1 (.slice (some ⟨w1.heap.size, 0, none⟩) 0 0) 0 []) := World.ownsRow_lit (e := 5) (size := 1) w1 #[] 0 hb1.out.size (by decide) rfl
      clear hb2
      go_wp2_with (at_builtin; refine wpList_append_own _ rfl (.tmp 16) (.tmp 18) 34 rfl w.heap.size 5 i0 (.int .u8 0) 1 1 Try.underlying34 hi hz0 hz1 hz2 rfl (by decide) _ 0 [] rfl HO.out ⟨b, o4, none⟩ (len - 4) (cap - 4) (vals r) rfl (by rw [length_vals, HR.out]; simp) (news_of (HB.out.keep HB2.out (Nat.le_refl _))) (vals_one r) (by unfold maxLen; omega) (by omega) HB2.out.size ?_)
      intro v' w2 hown' hgrow hnn
      have R : Hid (Made w (bs.drop 4) v' w2) := by
        show Made _ _ _ _
        rw [hdr.out]
        refine made_some (by simpa [HR.out] using hown') hnn (HB2.out.grown hgrow HB2.out.size (by intro k hk; simp [Value.ownBlock] at hk; have := hb1.out.size; omega))
      clear hown' hgrow hnn
      go_wp2
      go_ret2
      exact ⟨(fun h => by cases h), fun _ => ⟨v', rfl, R.out⟩⟩
end Go.Proofs.Ytlpmfhccfihnfaa
