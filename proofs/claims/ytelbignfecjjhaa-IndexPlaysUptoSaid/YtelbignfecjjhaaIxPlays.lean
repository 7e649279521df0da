/- IndexPlays: adds and finds made of numbers, and the asks as they came, played. -/
import Derived.Test.YtelbignfecjjhaaIxRow
namespace Go.Proofs.Ytelbignfecjjhaa
open Go.RowKit
open Go.IxMath
open Go.VarMath hiding AllB
set_option linter.unusedVariables false

theorem mask16' (a : Int) : bits .and .i64 a 65535 = a % 65536 := by
  have h1 : (BitVec.ofInt 64 65535).toNat = 2 ^ 16 - 1 := by decide
  have key : (BitVec.ofInt 64 a &&& BitVec.ofInt 64 65535).toNat = (a % ((2 ^ 64 : Nat) : Int)).toNat % 2 ^ 16 := by
    rw [BitVec.toNat_and, BitVec.toNat_ofInt, h1, Nat.and_two_pow_sub_one_eq_mod]
  show IntKind.i64.wrap ((BitVec.ofInt 64 a &&& BitVec.ofInt 64 65535).toNat : Nat) = _
  rw [key, IntKind.wrap_i64]
  omega
theorem mask7' (a : Int) : bits .and .i64 a 7 = a % 8 := by
  have h1 : (BitVec.ofInt 64 7).toNat = 2 ^ 3 - 1 := by decide
  have key : (BitVec.ofInt 64 a &&& BitVec.ofInt 64 7).toNat = (a % ((2 ^ 64 : Nat) : Int)).toNat % 2 ^ 3 := by
    rw [BitVec.toNat_and, BitVec.toNat_ofInt, h1, Nat.and_two_pow_sub_one_eq_mod]
  show IntKind.i64.wrap ((BitVec.ofInt 64 a &&& BitVec.ofInt 64 7).toNat : Nat) = _
  rw [key, IntKind.wrap_i64]
  omega
theorem aq_in {a b c d : Int} (h1 : -9223372036854775808 ≤ a ∧ a ≤ 9223372036854775807) (h2 : -9223372036854775808 ≤ b ∧ b ≤ 9223372036854775807) (h3 : -9223372036854775808 ≤ c ∧ c ≤ 9223372036854775807) (h4 : -9223372036854775808 ≤ d ∧ d ≤ 9223372036854775807) : AqIn ⟨a, b, c, d⟩ := ⟨h1, h2, h3, h4⟩
/-- The asks made so far. -/
structure So8 (W wr : World) (v : Value) (ls : List Aq) (m : Nat) : Prop where
  below : Below W.heap.size W wr
  own : OwnRow aqK wr W.heap.size v ls
  n : ls.length = m
  ins : ∀ x ∈ ls, AqIn x
theorem So8.put {W w w' : World} {v v' : Value} {ls l2 : List Aq} {m : Nat} (h : So8 W w v ls m) {o : Obj} (hap : Appended aqK (w.alloc o) W.heap.size v (ls ++ l2) v' w') (hx : ∀ x ∈ l2, AqIn x) : So8 W w' v' (ls ++ l2) (m + l2.length) :=
  ⟨(h.below.alloc h.below.size o).grown hap.2.1 (Nat.le_trans h.below.size (by simp)) fun k hk => ((h.own.alloc o).lt k hk).1, hap.1, by rw [List.length_append, h.n], fun x hm => (List.mem_append.1 hm).elim (h.ins x) (hx x)⟩
set_option maxRecDepth 100000 in
set_option maxHeartbeats 16000000 in
theorem ixPlays_any (W : World) (base every : Int) (hba : I64 base) (hev : I64 every) (lad : Option Addr) (llen lcap : Nat) (l : List Aq) (hl : RowAt aqK W lad llen lcap l) (hin : ∀ x ∈ l, AqIn x) (nad : Option Addr) (len cap : Nat) (zs : List Int) (hz : IsRow .i64 W nad len cap zs) (hn : len ≤ 1048576) :
    Calls Try.prog 4 #[.int .i64 base, .int .i64 every, .slice lad llen lcap, .slice nad len cap] W fun e w' => e = .returned (.bool true) ∧ Below W.heap.size W w' := by
  have HZ := Lib.hid hz
  have HL := Lib.hid hl
  have HI := Lib.hid hin
  have HBA := Lib.hid hba
  have HEV := Lib.hid hev
  clear hz hl hin hba hev
  obtain ⟨bm, hbm⟩ : ∃ z : Int, z = base % 65536 := ⟨_, rfl⟩
  have hmask : bits BinOp.and IntKind.i64 base 65535 = bm := by rw [hbm]; exact mask16' base
  have HBM : Hid (0 ≤ bm ∧ bm ≤ 65535) := by show _ ∧ _; omega
  clear hbm
  go_enter Try.func4, Try.ntmps4
  go_wp2_with fail
  have HST : Hid (So8 W W (.slice none 0 0) [] (2 * 0)) := ⟨Below.refl _ W, ownRow_nil aqK W _, rfl, fun x hx => by cases hx⟩
  go_loopw [9, 10, 11, 18] (fun v9 v10 v11 v18 wr => ∃ (i : Nat) (p o : Int) (ls : List Aq), v18 = .int .i64 (i : Int) ∧ i ≤ len ∧ v10 = .int .i64 p ∧ v11 = .int .i64 o ∧ (0 ≤ p ∧ p ≤ 61 * (i : Int)) ∧ (0 ≤ o ∧ o ≤ 65535 + 5 * (i : Int)) ∧ Hid (So8 W wr v9 ls (2 * i))) (fun _ _ _ v18 _ => len - (intOf v18).toNat)
  case atStart => exact ⟨0, 0, bm, [], rfl, by omega, rfl, rfl, by omega, by have := HBM.out; omega, HST.out⟩
  case round =>
    obtain ⟨i, p, o, ls, rfl, hil, rfl, rfl, hp, ho, HS⟩ := hrel
    obtain ⟨wo, hwo⟩ : ∃ wo : World, wo = wr := ⟨_, rfl⟩
    subst hwo
    clear HST
    by_cases hlt : i < len
    · have hd1 : decide (i < len) = true := decide_eq_true hlt
      have hij : (i : Int) < (len : Int) := by omega
      obtain ⟨bz, oz, z, el, hbz, hc, hzi⟩ := int_get HZ.out hlt
      have c0 : wo.cell? ⟨bz, oz + i, none⟩ = some (.int .i64 z) := (HS.out.below.cell (p := ⟨bz, oz + i, none⟩) hbz).trans hc
      subst el
      clear hc
      obtain ⟨vv, hvv⟩ : ∃ z, z = u9 := ⟨_, rfl⟩
      subst hvv
      go_wp2_with fail
      refine (within_any z 60 wo hzi (by omega)).mono ?_
      rintro e w3 ⟨n0, rfl, hn0, rfl⟩
      clear hzi hbz
      obtain ⟨nn, hnn⟩ : ∃ z : Int, z = 1 + (n0 : Int) := ⟨_, rfl⟩
      have HNN : Hid (1 ≤ nn ∧ nn ≤ 61) := by show _ ∧ _; omega
      go_upto_region 7 with fail
      rw [← hnn]
      clear hnn hn0
      obtain ⟨z7, hz7⟩ : ∃ y : Int, y = z % 8 := ⟨_, rfl⟩
      have hm7 : bits BinOp.and IntKind.i64 z 7 = z7 := by rw [hz7]; exact mask7' z
      have HZ7 : Hid (0 ≤ z7 ∧ z7 ≤ 7) := by show _ ∧ _; omega
      have hz70 := HZ7.out
      clear hz7
      have hb1 : -9223372036854775808 ≤ o + z7 ∧ o + z7 ≤ 9223372036854775807 := by omega
      have hb2 : -9223372036854775808 ≤ o + z7 - 3 ∧ o + z7 - 3 ≤ 9223372036854775807 := by omega
      obtain ⟨q, hq⟩ : ∃ y : Int, y = o + z7 - 3 := ⟨_, rfl⟩
      have HQ : Hid (I64 q) := by show I64 _; rw [hq]; exact hb2
      have HQE := Lib.hid hq
      clear hq
      have HX1 : Hid (AqIn ⟨0, p, nn, o⟩) := aq_in (by decide) (by omega) (by have := HNN.out; omega) (by omega)
      have HX2 : Hid (AqIn ⟨4, 0, 0, q⟩) := aq_in (by decide) (by decide) (by decide) HQ.out
      obtain ⟨r5, hr5⟩ : ∃ y : Int, y = nn % 5 := ⟨_, rfl⟩
      have hmod : nn % 5 = r5 := hr5.symm
      have hmodt : nn.tmod 5 = r5 := by rw [Int.tmod_eq_emod_of_nonneg (by have := HNN.out; omega)]; exact hr5.symm
      have hr51 : 0 ≤ r5 ∧ r5 ≤ 4 := by omega
      clear hr5
      have hsum1 : -9223372036854775808 ≤ p + nn ∧ p + nn ≤ 9223372036854775807 := by have := HNN.out; omega
      have hsum2 : -9223372036854775808 ≤ o + r5 ∧ o + r5 ≤ 9223372036854775807 := by omega
      have hsum3 : -9223372036854775808 ≤ o + r5 + 1 ∧ o + r5 + 1 ≤ 9223372036854775807 := by omega
      have HBW : Hid (W.heap.size ≤ (wo.alloc (.cells #[.int .i64 0, .int .i64 p, .int .i64 nn, .int .i64 o, .int .i64 4, .int .i64 0, .int .i64 0, .int .i64 q] 24)).heap.size) := Nat.le_trans HS.out.below.size (by simp)
      have HRX : Hid (RowAt aqK (wo.alloc (.cells #[.int .i64 0, .int .i64 p, .int .i64 nn, .int .i64 o, .int .i64 4, .int .i64 0, .int .i64 0, .int .i64 q] 24)) (some ⟨wo.heap.size, 0, none⟩) 2 2 [⟨0, p, nn, o⟩, ⟨4, 0, 0, q⟩]) := rowAt_lit aqK_ok wo [⟨0, p, nn, o⟩, ⟨4, 0, 0, q⟩] (by simp) _ rfl 2 rfl
      have hqe : o + z7 - 3 = q := HQE.out.symm
      go_wp2_with (at_builtin; refine list_row (by rfl) aqK_ok (.tmp 27) (.tmp 41) rfl W.heap.size ls [⟨0, p, nn, o⟩, ⟨4, 0, 0, q⟩] _ rfl (HS.out.own.alloc _) HBW.out (some ⟨wo.heap.size, 0, none⟩) 2 2 rfl HRX.out (by have := HS.out.n; omega) ?_)
      intro v5 w5 hap
      have HSN := Lib.hid (HS.out.put hap (fun x hx => by
        simp only [List.mem_cons, List.not_mem_nil, or_false] at hx
        rcases hx with rfl | rfl
        · exact HX1.out
        · exact HX2.out))
      clear hap HRX HBW HX1 HX2 hqe HS c0 hm7 hb1 hb2
      go_wp2_with fail
      go_roundw
      case rel => exact ⟨i + 1, p + nn, o + r5 + 1, _, by go_num, by omega, rfl, rfl, ⟨by have := HNN.out; omega, by have := HNN.out; omega⟩, ⟨by omega, by omega⟩, HSN.out⟩
      case measure => simp [intOf]; omega
    · have hd1 : decide (i < len) = false := decide_eq_false hlt
      obtain ⟨vv, hvv⟩ : ∃ z, z = u9 := ⟨_, rfl⟩
      subst hvv
      obtain ⟨sad, scap, hv, hrow, hfar⟩ := OwnRow.row aqK_ok HS.out.own HS.out.n
      subst hv
      have HRS := Lib.hid hrow
      have HBL := Lib.hid HS.out.below
      have HIS := Lib.hid HS.out.ins
      clear hrow hfar HS
      go_wp2_with fail
      refine (within_any every 100 wo HEV.out (by omega)).mono ?_
      rintro e w1 ⟨k0, rfl, hk0, rfl⟩
      have hk1 : (1 : Int) + (k0 : Int) ≤ 101 := by omega
      go_wp2_with fail
      refine (ixPlay_any wo bm (1 + (k0 : Int)) ⟨by have := HBM.out; omega, by have := HBM.out; omega⟩ ⟨by omega, by omega⟩ sad (2 * i) scap ls HRS.out HIS.out).mono ?_
      rintro e w2 ⟨rfl, hb2⟩
      have HB2 : Hid (Below W.heap.size W w2) := HBL.out.trans (hb2.mono HBL.out.size)
      clear hb2
      go_wp2_with fail
      refine (ixPlay_any w2 base every HBA.out HEV.out lad llen lcap l (HL.out.keep HB2.out) HI.out).mono ?_
      rintro e w3 ⟨rfl, hb3⟩
      have HB3 : Hid (Below W.heap.size W w3) := HB2.out.trans (hb3.mono HB2.out.size)
      clear hb3
      go_wp2_with fail
      refine (ixPlay_any w3 0 1 ⟨by decide, by decide⟩ ⟨by decide, by decide⟩ lad llen lcap l (HL.out.keep HB3.out) HI.out).mono ?_
      rintro e w4 ⟨rfl, hb4⟩
      have HB4 : Hid (Below W.heap.size W w4) := HB3.out.trans (hb4.mono HB3.out.size)
      clear hb4
      go_wp2_with fail
      refine (ixKnown_any w4).mono ?_
      rintro e w5 ⟨rfl, hb5⟩
      have HB5 : Hid (Below W.heap.size W w5) := HB4.out.trans (hb5.mono HB4.out.size)
      clear hb5
      go_wp2
      go_ret
      exact ⟨rfl, HB5.out⟩
end Go.Proofs.Ytelbignfecjjhaa
