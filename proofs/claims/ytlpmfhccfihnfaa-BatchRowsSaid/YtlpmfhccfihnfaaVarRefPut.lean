/- The contracts of the document's own Put and Text. -/
import Derived.Test.YtlpmfhccfihnfaaVarPut
namespace Go.Proofs.Ytlpmfhccfihnfaa
open Go.RowKit
open Go.VarMath hiding AllB
set_option linter.unusedVariables false

theorem wrap_u8' (n : Int) : IntKind.u8.wrap n = n % 256 := by simp [IntKind.wrap, IntKind.bits, IntKind.signed]
theorem zigr_pos (n : Int) (h0 : 0 ≤ n) (h1 : n ≤ 9223372036854775807) (a b : Int) (ha : a = n * 2) (hb : b = 0) : bits .xor .u64 a b = ((zig n : Nat) : Int) := by
  have h2 := zig_nonneg h0
  have h4 : a = ((zig n : Nat) : Int) := by omega
  have h5 := zig_lt (n := n) (by omega) h1
  rw [hb, h4, u64_keep _ h5]
/-- The number that the document's own Put writes, whatever its spelling. -/
theorem zigr (n : Int) (h0 : -9223372036854775808 ≤ n) (h1 : n ≤ 9223372036854775807) (a b : Int) (ha : a = n * 2 % 18446744073709551616) (hb : b = n / 9223372036854775808 % 18446744073709551616) : bits .xor .u64 a b = ((zig n : Nat) : Int) := by
  by_cases h : 0 ≤ n
  · exact zigr_pos n h h1 a b (by omega) (by omega)
  · exact zig_minus n (by omega) h0 a b ha (by omega)
theorem own_empty' (W : World) (base : Nat) (h : base ≤ W.heap.size) : (W.alloc (.cells #[] 5)).ownsRow base 5 1 (.slice (some ⟨W.heap.size, 0, none⟩) 0 0) 0 (vals []) := own_empty W base h
set_option maxHeartbeats 400000 in
theorem refPut_any (w : World) (ad : Option Addr) (len cap : Nat) (bs : List Nat) (n : Int) (h : Row w ad len cap bs) (hL : len ≤ 140737488355300) (h0 : -9223372036854775808 ≤ n) (h1 : n ≤ 9223372036854775807) :
    Calls Try.prog 70 #[.slice ad len cap, .int .i64 n] w (GivesRow w (bs ++ encN n)) := by
  have HB := Lib.hid h
  have hu := zig_lt h0 h1
  clear h
  have HZ1 : Hid (Below w.heap.size w (w.alloc (.cells #[] 5))) := (Below.refl _ _).alloc (Nat.le_refl _) _
  go_enter Try.func70, Try.ntmps70
  go_wp2_with (at_builtin; refine append_row rfl (.tmp 7) (.tmp 8) rfl w.heap.size 0 [] _ _ rfl (own_empty w _ (Nat.le_refl _)) (some_ne _ _ _) HZ1.out.size _ _ _ rfl (HB.out.keep HZ1.out (Nat.le_refl _)) (by omega) w HZ1.out ?_)
  intro g cp w1 ho1 hb1
  have HO := Lib.hid (show w1.ownsRow w.heap.size 5 1 (.slice (some ⟨g, 0, none⟩) len cp) len (vals bs) by simpa using ho1)
  have HB1 := Lib.hid hb1
  clear ho1 hb1
  have hx : bits .xor .u64 (IntKind.u64.wrap (wrap64 (n * 2))) (IntKind.u64.wrap (n / 9223372036854775808)) = ((zig n : Nat) : Int) :=
    zigr n h0 h1 _ _ (by rw [wrap_u64']; unfold wrap64; omega) (by rw [wrap_u64'])
  obtain ⟨u, hue⟩ : ∃ u, u = zig n := ⟨_, rfl⟩
  rw [← hue] at hu hx
  have HU := Lib.hid hue
  clear hue
  go_wp2
  clear hx
  go_loopw [5, 6] (fun v5 v6 wr => PutAt w bs u v5 v6 wr) (fun _ v6 _ => (intOf v6).toNat)
  case atStart => exact putAt_start hu HB.out.len HO.out HB1.out
  case round =>
    obtain ⟨f, v, g, cap', k, pre, hu', hf, h2, h6, ha, hn, rfl, rfl, hown, hbel⟩ := hrel
    have HU' := Lib.hid hu'
    have HF := Lib.hid hf
    have HN := Lib.hid hn
    have HO' := Lib.hid hown
    have HW := Lib.hid hbel
    have HA := Lib.hid ha
    have H2 := Lib.hid h2
    have hk : k ≤ 140737488355320 := by have := HB.out.len; omega
    clear hu' hf hn hown hbel ha h2
    by_cases hv : 127 < v
    · obtain ⟨y, hy⟩ : ∃ y, y = v % 256 := ⟨_, rfl⟩
      have hwr : IntKind.u8.wrap (v : Int) = (y : Int) := by rw [wrap_u8']; omega
      have hor := hi7 y (by omega)
      have hy2 : y % 128 + 128 = v % 128 + 128 := by omega
      rw [hy2] at hor
      clear hy hy2
      obtain ⟨z, hz⟩ : ∃ z, z = v % 128 + 128 := ⟨_, rfl⟩
      rw [← hz] at hor
      have hz8 : z < 256 := by omega
      have HZ := Lib.hid hz
      clear hz
      have hge : decide ((128 : Int) ≤ (v : Int)) = true := by simp; omega
      have HW2 : Hid (Below w.heap.size w (wr.alloc (.cells #[.int .u8 (z : Int)] 5))) := HW.out.alloc HW.out.size _
      go_wp2_with (at_builtin; refine append_row rfl (.tmp 19) (.tmp 23) rfl w.heap.size k (bs ++ pre) [z] _ rfl (HO'.out.alloc _) (some_ne _ _ _) HW2.out.size _ _ _ rfl (row_byte wr z hz8) (by omega) w HW2.out ?_)
      intro g3 cp3 w3 ho3 hb3
      have HO3 := Lib.hid ho3
      have HB3 := Lib.hid hb3
      clear ho3 hb3
      go_wp2
      go_roundw
      case rel =>
        have h3 := HO3.out
        rw [HZ.out] at h3
        exact putAt_step HU'.out HF.out H2.out h6 HA.out HN.out hv h3 HB3.out
      case measure => simp [intOf]; omega
    · have hge : decide ((128 : Int) ≤ (v : Int)) = false := by simp; omega
      have hv8 : v < 256 := by omega
      have HW2 : Hid (Below w.heap.size w (wr.alloc (.cells #[.int .u8 (v : Int)] 5))) := HW.out.alloc HW.out.size _
      go_wp2_with (at_builtin; refine append_row rfl (.tmp 27) (.tmp 30) rfl w.heap.size k (bs ++ pre) [v] _ rfl (HO'.out.alloc _) (some_ne _ _ _) HW2.out.size _ _ _ rfl (row_byte wr v hv8) (by omega) w HW2.out ?_)
      intro g3 cp3 w3 ho3 hb3
      have HO3 := Lib.hid ho3
      have HB3 := Lib.hid hb3
      clear ho3 hb3
      go_wp2
      go_ret
      have h3 := HO3.out
      rw [put_end HU'.out hv, HU.out] at h3
      refine gives_row ?_ h3 HB3.out
      have := h3.1
      rw [length_vals] at this
      unfold encN; omega
set_option maxHeartbeats 400000 in
theorem refText_any (w : World) (ad : Option Addr) (len cap : Nat) (bs : List Nat) (s : ByteArray) (h : Row w ad len cap bs) (hL : len + s.size ≤ 140737488355300) :
    Calls Try.prog 49 #[.slice ad len cap, .string s] w (GivesRow w (bs ++ textB (bytesS s))) := by
  obtain ⟨i0, hi, hz0, hz1, hz2⟩ := info_parts info5
  have HB := Lib.hid h
  clear h
  go_enter Try.func49, Try.ntmps49
  go_wp2_with fail
  refine (refPut_any w ad len cap bs s.size HB.out (by omega) (by omega) (by omega)).mono ?_
  rintro e w1 ⟨g, cp, rfl, hown, hb1⟩
  have hel := enc_len (zig_lt (n := (s.size : Int)) (by omega) (by omega))
  have hl : (bs ++ encN (s.size : Int)).length ≤ len + 10 := by rw [List.length_append, HB.out.len]; unfold encN; omega
  obtain ⟨k, hk⟩ : ∃ k, k = (bs ++ encN (s.size : Int)).length := ⟨_, rfl⟩
  rw [← hk] at hown hl ⊢
  have HK := Lib.hid hk
  have HO := Lib.hid hown
  have HB1 := Lib.hid hb1
  clear hown hb1 hk hel
  go_wp2_with (at_builtin; refine Lib.wpList_append_own_string _ rfl (.tmp 8) (.tmp 9) 34 9 rfl w.heap.size 5 i0 Try.underlying34 Try.underlying9 hi hz0 hz1 hz2 _ k _ rfl HO.out s rfl (by unfold maxLen; omega) (by omega) HB1.out.size ?_)
  intro v2 w2 ho2 hgrow2 hn2
  have HB2 : Hid (Below w.heap.size w w2) := HB1.out.grown hgrow2 HB1.out.size (fun j hj => (HO.out.lt j hj).1)
  have hne : v2 ≠ .slice none 0 0 := hn2
  have HO2 : Hid (w2.ownsRow w.heap.size 5 1 v2 (k + s.size) (vals (bs ++ textB (bytesS s)))) := by
    have e : bs ++ textB (bytesS s) = (bs ++ encN (s.size : Int)) ++ bytesS s := by
      unfold textB encN
      rw [length_bytesS, zig_nat, List.append_assoc]
    rw [e, vals_append, ← strCells_vals]
    exact ho2
  clear ho2 hgrow2 hn2
  obtain ⟨g2, cp2, rfl⟩ : ∃ g cp, v2 = .slice (some ⟨g, 0, none⟩) (k + s.size) cp := by
    rcases HO2.out.2 with ⟨h, _⟩ | ⟨g, cp, cur, h, _⟩
    · exact absurd h hne
    · exact ⟨g, cp, h⟩
  clear hne
  go_wp2
  go_ret
  refine gives_row ?_ HO2.out HB2.out
  have := HO2.out.1
  rw [length_vals] at this
  omega
end Go.Proofs.Ytlpmfhccfihnfaa
