/- Chapter 8's runs. -/
import Derived.Test.YtelbignfecjjhaaIxPlay
namespace Go.Proofs.Ytelbignfecjjhaa
open Go.RowKit
open Go.IxMath
open Go.VarMath hiding AllB
set_option linter.unusedVariables false

def kb1 : List Ba := [⟨10, 0, 15⟩]
def kb2 : List Ba := [⟨10, 0, 15⟩, ⟨12, 15, 30⟩]
def kb3 : List Ba := [⟨10, 0, 15⟩, ⟨12, 15, 30⟩, ⟨13, 30, 35⟩]
theorem ka1 : addA 10 [] 10 0 15 = kb1 ∧ badA 10 [] 10 0 15 = false := ⟨by kernel_rfl, by kernel_rfl⟩
theorem ka2 : addA 10 kb1 12 15 15 = kb2 ∧ badA 10 kb1 12 15 15 = false := ⟨by kernel_rfl, by kernel_rfl⟩
theorem ka3 : addA 10 kb2 13 30 5 = kb3 ∧ badA 10 kb2 13 30 5 = false := ⟨by kernel_rfl, by kernel_rfl⟩
theorem ka4 : addA 10 kb3 13 40 5 = kb3 ∧ badA 10 kb3 13 40 5 = true := ⟨by kernel_rfl, by kernel_rfl⟩
theorem ke3 : ents 20 kb3 = [⟨10, 0⟩, ⟨13, 30⟩] := by kernel_rfl
theorem kf12 : findE [⟨10, 0⟩, ⟨13, 30⟩] 12 = 0 := by kernel_rfl
theorem kf99 : findE [⟨10, 0⟩, ⟨13, 30⟩] 99 = 30 := by kernel_rfl
theorem kf13 : findE [⟨10, 0⟩, ⟨13, 30⟩] 13 = 30 := by kernel_rfl
theorem ks1 : Small kb1 := ⟨by decide, fun b hb => by simp only [kb1, List.mem_cons, List.not_mem_nil, or_false] at hb; rcases hb with rfl; decide⟩
theorem ks2 : Small kb2 := ⟨by decide, fun b hb => by simp only [kb2, List.mem_cons, List.not_mem_nil, or_false] at hb; rcases hb with rfl | rfl <;> decide⟩
theorem ks3 : Small kb3 := ⟨by decide, fun b hb => by simp only [kb3, List.mem_cons, List.not_mem_nil, or_false] at hb; rcases hb with rfl | rfl | rfl <;> decide⟩
/-- One index of the call's own. -/
structure Own8 (W w : World) (k : Nat) (base every : Int) (bs : List Ba) : Prop where
  below : Below W.heap.size W w
  ex : ∃ F, IxOk w k F base every bs ∧ ∀ j, F j → W.heap.size ≤ j
section
variable {W w w' : World} {k : Nat} {base every : Int} {bs : List Ba}
theorem Own8.on (h : Own8 W w k base every bs) (hb : Below w.heap.size w w') : Own8 W w' k base every bs := by
  obtain ⟨F, h1, h2⟩ := h.ex
  exact ⟨h.below.trans (hb.mono h.below.size), F, h1.on hb, h2⟩
/-- What a call that adds to an index of the call's own gives. -/
def GivesOwn (W : World) (k : Nat) (base every : Int) (r : Bool) (bs' : List Ba) (e : Ending) (w' : World) : Prop := e = .returned (.bool r) ∧ Hid (Own8 W w' k base every bs')
theorem ix_add (h : Own8 W w k base every bs) (hs : Small bs) (off pos size : Int) (ho : I64 off) (hp : -9223372036854775808 ≤ pos ∧ pos ≤ 1099511627776) (hz : -9223372036854775808 ≤ size ∧ size ≤ 1099511627776) :
    Calls Try.prog 10 #[.pointer (some ⟨k, 0, none⟩), .int .i64 off, .int .i64 pos, .int .i64 size] w (GivesOwn W k base every (!badA base bs off pos size) (addA base bs off pos size)) := by
  obtain ⟨F, h1, h2⟩ := h.ex
  refine (ixAdd_any h1 hs off pos size ho hp hz).mono ?_
  rintro e w' ⟨he, F', h3, h4, h5⟩
  refine ⟨he, h.below.trans (h4.out.below h2 h.below.size), F', h3.out, fun j hj => ?_⟩
  rcases h5.out j hj with h6 | h6
  · exact h2 j h6
  · have := h.below.size; omega
theorem ix_new (W w : World) (hb0 : Below W.heap.size W w) (base every : Int) (hb : I64 base) (he : I64 every) (hn : badN base every = false) : Calls Try.prog 9 #[.int .i64 base, .int .i64 every] w fun e w' => ∃ k, e = .returned (.pointer (some ⟨k, 0, none⟩)) ∧ Hid (Own8 W w' k base every []) := by
  refine (ixNew_any w base every hb he).mono ?_
  rintro e w' ⟨h1, h2⟩
  rcases h2 with ⟨h3, _⟩ | ⟨_, k, F, rfl, h4, h5⟩
  · rw [hn] at h3; cases h3
  · exact ⟨k, rfl, hb0.trans (h1.out.mono hb0.size), F, h4.out, fun j hj => Nat.le_trans hb0.size (h5.out j hj)⟩
theorem ix_none (w : World) (base every : Int) (hb : I64 base) (he : I64 every) (hn : badN base every = true) : Calls Try.prog 9 #[.int .i64 base, .int .i64 every] w fun e w' => e = .returned (.pointer none) ∧ Hid (Below w.heap.size w w') := by
  refine (ixNew_any w base every hb he).mono ?_
  rintro e w' ⟨h1, h2⟩
  rcases h2 with ⟨_, rfl⟩ | ⟨h3, _⟩
  · exact ⟨rfl, h1⟩
  · rw [hn] at h3; cases h3
theorem ix_find (h : Own8 W w k base every bs) (hs : Small bs) (off : Int) (ho : I64 off) : Calls Try.prog 14 #[.pointer (some ⟨k, 0, none⟩), .int .i64 off] w fun e w' => e = .returned (.int .i64 (findE (ents every bs) off)) ∧ Hid (Below w.heap.size w w') := by
  obtain ⟨F, h1, _⟩ := h.ex
  exact ixFind_any h1 hs off ho
theorem ix_entries (h : Own8 W w k base every bs) (hs : Small bs) (n : Nat) (hn : (ents every bs).length = n) : Calls Try.prog 15 #[.pointer (some ⟨k, 0, none⟩)] w fun e w' => ∃ ad cap, e = .returned (.slice ad n cap) ∧ Hid (RowAt enK w' ad n cap (ents every bs)) ∧ Hid (Below w.heap.size w w') := by
  obtain ⟨F, h1, _⟩ := h.ex
  exact ixEntries_any h1 hs n hn
theorem ix_bytes (h : Own8 W w k base every bs) (hs : Small bs) (n : Nat) (hn : 16 * (ents every bs).length = n) : Calls Try.prog 11 #[.pointer (some ⟨k, 0, none⟩)] w fun e w' => ∃ ad cap, e = .returned (.slice ad n cap) ∧ Hid (Row w' ad n cap (bytesE base (ents every bs))) ∧ Hid (Below w.heap.size w w') := by
  obtain ⟨F, h1, _⟩ := h.ex
  exact ixBytes_any h1 hs n hn
theorem ix_made (h : Own8 W w k base every bs) : MadeI base bs ∧ 0 ≤ base ∧ 1 ≤ every := by
  obtain ⟨F, h1, _⟩ := h.ex
  exact ⟨h1.made, h1.base0.1, h1.base0.2.2⟩
/-- Bytes of an index that was made are read as one with the same entries. -/
theorem ix_read (W w : World) (hb0 : Below W.heap.size W w) (base every : Int) (hb : I64 base) (he : I64 every) (hn : badN base every = false) (ad : Option Addr) (len cap : Nat) (bs : List Ba) (hm : MadeI base bs) (h0 : 0 ≤ base) (hs : Small bs) (h : Row w ad len cap (bytesE base (ents every bs))) (hl : len ≤ 16000) :
    Calls Try.prog 18 #[.int .i64 base, .int .i64 every, .slice ad len cap] w fun e w' => ∃ k bs2, e = .returned (.tuple #[.pointer (some ⟨k, 0, none⟩), .bool true]) ∧ Hid (Below w.heap.size w w') ∧ Hid (Own8 W w' k base every bs2) ∧ Hid (Small bs2) ∧ Hid (ents every bs2 = ents every bs) := by
  refine (ixRead_any w base every hb he ad len cap _ h hl (.inr ⟨bs, hm, hs, _, List.take_length.symm⟩)).mono ?_
  rintro e w' ⟨h1, h2⟩
  rcases h2 with ⟨_, h3⟩ | ⟨_, k, F, bs2, rfl, h4, h5, h6, h7⟩
  · exact absurd rfl (h3.out hn bs hm hs)
  · exact ⟨k, bs2, rfl, h1, ⟨hb0.trans (h1.out.mono hb0.size), F, h4.out, fun j hj => Nat.le_trans hb0.size (h7.out j hj)⟩, h5, bytes_eq h4.out.made hm h0 h5.out hs h6.out.symm⟩
end
set_option maxRecDepth 100000 in
set_option maxHeartbeats 16000000 in
theorem ixKnown_any (W : World) : Calls Try.prog 16 #[] W fun e w' => e = .returned (.bool true) ∧ Below W.heap.size W w' := by
  go_enter Try.func16, Try.ntmps16
  go_wp2_with fail
  refine (ix_new W W (Below.refl _ W) 10 20 ⟨by decide, by decide⟩ ⟨by decide, by decide⟩ (by decide)).mono ?_
  rintro e w1 ⟨kx, rfl, H1⟩
  go_wp2_with fail
  refine (ix_none w1 (-1) 1 ⟨by decide, by decide⟩ ⟨by decide, by decide⟩ (by decide)).mono ?_
  rintro e w2 ⟨rfl, hb2⟩
  have H2 := Lib.hid (H1.out.on hb2.out)
  clear hb2 H1
  go_wp2_with fail
  refine (ix_none w2 0 0 ⟨by decide, by decide⟩ ⟨by decide, by decide⟩ (by decide)).mono ?_
  rintro e w3 ⟨rfl, hb3⟩
  have H3 := Lib.hid (H2.out.on hb3.out)
  clear hb3 H2
  go_wp2_with fail
  refine (ix_add H3.out small_nil 10 0 15 ⟨by decide, by decide⟩ ⟨by decide, by decide⟩ ⟨by decide, by decide⟩).mono ?_
  rintro e w4 ⟨rfl, H4⟩
  rw [ka1.1] at H4
  rw [ka1.2]
  clear H3
  go_wp2_with fail
  refine (ix_add H4.out ks1 12 15 15 ⟨by decide, by decide⟩ ⟨by decide, by decide⟩ ⟨by decide, by decide⟩).mono ?_
  rintro e w5 ⟨rfl, H5⟩
  rw [ka2.1] at H5
  rw [ka2.2]
  clear H4
  go_wp2_with fail
  refine (ix_add H5.out ks2 13 30 5 ⟨by decide, by decide⟩ ⟨by decide, by decide⟩ ⟨by decide, by decide⟩).mono ?_
  rintro e w6 ⟨rfl, H6⟩
  rw [ka3.1] at H6
  rw [ka3.2]
  clear H5
  go_wp2_with fail
  refine (ix_add H6.out ks3 13 40 5 ⟨by decide, by decide⟩ ⟨by decide, by decide⟩ ⟨by decide, by decide⟩).mono ?_
  rintro e w7 ⟨rfl, H7⟩
  rw [ka4.1] at H7
  rw [ka4.2]
  clear H6
  have HE : Hid (ents 20 kb3 = [⟨10, 0⟩, ⟨13, 30⟩]) := ke3
  go_wp2_with fail
  refine (ix_bytes H7.out ks3 32 (by rw [ke3]; rfl)).mono ?_
  rintro e w8 ⟨ad8, cap8, rfl, HR8, HB8⟩
  have H8 := Lib.hid (H7.out.on HB8.out)
  clear H7 HB8
  go_wp2_with fail
  refine (ix_read W w8 H8.out.below 10 20 ⟨by decide, by decide⟩ ⟨by decide, by decide⟩ (by decide) ad8 32 cap8 kb3 (ix_made H8.out).1 (by decide) ks3 HR8.out (by decide)).mono ?_
  rintro e w9 ⟨ky, bs2, rfl, HB9, HY9, HSY, HEY⟩
  have H9 := Lib.hid (H8.out.on HB9.out)
  clear H8 HB9 HR8
  go_wp2_with fail
  refine (ix_read W w9 H9.out.below 0 1 ⟨by decide, by decide⟩ ⟨by decide, by decide⟩ (by decide) none 0 0 [] MadeI.nil (by decide) small_nil ⟨⟨rfl, Nat.le_refl _, fun x hx => (by cases hx), .inl rfl⟩, fun _ => rfl⟩ (by decide)).mono ?_
  rintro e w10 ⟨kz, bs3, rfl, HB10, HZ10, _, _⟩
  have H10 := Lib.hid (H9.out.on HB10.out)
  have HY10 := Lib.hid (HY9.out.on HB10.out)
  clear H9 HY9 HB10 HZ10
  have hb11 : Below w10.heap.size w10 (w10.alloc (.cells #[.int .u8 1] 5)) := (Below.refl _ w10).alloc (Nat.le_refl _) _
  have HB11 := Lib.hid hb11
  clear hb11
  go_wp2_with fail
  refine (ixRead_any _ 0 1 ⟨by decide, by decide⟩ ⟨by decide, by decide⟩ (some ⟨w10.heap.size, 0, none⟩) 1 1 [1] (row_byte w10 1 (by decide)) (by decide) (.inl (by decide))).mono ?_
  rintro e w12 ⟨HB12, hc⟩
  have hb12 : Below w10.heap.size w10 w12 := HB11.out.trans (HB12.out.mono HB11.out.size)
  have H12 := Lib.hid (H10.out.on hb12)
  have HY12 := Lib.hid (HY10.out.on hb12)
  clear hb12 HB12 HB11 H10 HY10
  rcases hc with ⟨rfl, _⟩ | ⟨_, k0, F0, bs0, rfl, _, _, hbl, _⟩
  rotate_left
  · have h1 := congrArg List.length hbl.out
    rw [bytesE_len] at h1
    simp only [List.length_cons, List.length_nil] at h1
    omega
  go_wp2_with fail
  refine (ix_entries H12.out ks3 2 (by rw [ke3]; rfl)).mono ?_
  rintro e w13 ⟨ad13, cap13, rfl, HR13, HB13⟩
  have H13 := Lib.hid (H12.out.on HB13.out)
  have HY13 := Lib.hid (HY12.out.on HB13.out)
  rw [HE.out] at HR13
  clear H12 HY12 HB13
  obtain ⟨b, o, x, el, hbx, hx, c0, c1⟩ := en_get HR13.out (show 1 < 2 by decide)
  cases hx
  subst el
  simp only at c0 c1
  go_wp2_with fail
  refine (ix_find H13.out ks3 12 ⟨by decide, by decide⟩).mono ?_
  rintro e w14 ⟨rfl, HB14⟩
  have H14 := Lib.hid (H13.out.on HB14.out)
  have HY14 := Lib.hid (HY13.out.on HB14.out)
  rw [HE.out, kf12]
  clear H13 HY13 HB14
  go_wp2_with fail
  refine (ix_find H14.out ks3 99 ⟨by decide, by decide⟩).mono ?_
  rintro e w15 ⟨rfl, HB15⟩
  have H15 := Lib.hid (H14.out.on HB15.out)
  have HY15 := Lib.hid (HY14.out.on HB15.out)
  rw [HE.out, kf99]
  clear H14 HY14 HB15
  go_wp2_with fail
  refine (ix_find HY15.out HSY.out 13 ⟨by decide, by decide⟩).mono ?_
  rintro e w16 ⟨rfl, HB16⟩
  have H16 := Lib.hid (H15.out.on HB16.out)
  rw [HEY.out, HE.out, kf13]
  clear H15 HY15 HB16
  go_wp2
  go_ret
  exact ⟨rfl, H16.out.below⟩
end Go.Proofs.Ytelbignfecjjhaa
