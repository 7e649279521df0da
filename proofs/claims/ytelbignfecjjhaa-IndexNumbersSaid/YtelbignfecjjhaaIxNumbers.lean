/- IndexNumbers: rows of batches of each few sizes, played; bytes cut off at each place; a cut. -/
import Derived.Test.YtelbignfecjjhaaIxPlays
import Derived.Test.YtelbignfecjjhaaIxReads
namespace Go.Proofs.Ytelbignfecjjhaa
open Go.RowKit
open Go.IxMath
open Go.VarMath hiding AllB
set_option linter.unusedVariables false

def nb (i : Nat) : List Ba := (List.range i).map fun (j : Nat) => ⟨7 + (j : Int), 10 * (j : Int), 10 * (j : Int) + 10⟩
theorem nb_add {i : Nat} (h : i < 5) : addA 7 (nb i) (7 + (i : Int)) (10 * (i : Int)) 10 = nb (i + 1) := by
  exact match i, h with
  | 0, _ => (by kernel_rfl)
  | 1, _ => (by kernel_rfl)
  | 2, _ => (by kernel_rfl)
  | 3, _ => (by kernel_rfl)
  | 4, _ => (by kernel_rfl)
theorem nb_small {i : Nat} (h : i ≤ 5) : Small (nb i) := by
  refine ⟨by unfold nb; rw [List.length_map, List.length_range]; omega, fun b hb => ?_⟩
  obtain ⟨j, hj, rfl⟩ := List.mem_map.1 hb
  have := List.mem_range.1 hj
  exact ⟨by show 7 + (j : Int) ≤ _; omega, by show 10 * (j : Int) + 10 ≤ _; omega⟩
theorem nb_len : (ents 1 (nb 5)).length = 5 := by kernel_rfl
theorem nb_cut : cutA (nb 5) 20 = nb 2 := by kernel_rfl
theorem nb_find : findE (ents 1 (nb 2)) 99 = 10 := by kernel_rfl
theorem nb_two : (ents 1 (nb 2)).length = 2 := by kernel_rfl
theorem nb_last : badA 7 (nb 2) 9 20 5 = false := by kernel_rfl
theorem row_take {w : World} {ad : Option Addr} {len cap : Nat} {bl : List Nat} (h : Row w ad len cap bl) (i : Nat) (hi : i ≤ len) : Row w ad i cap (bl.take i) :=
  ⟨byt_of ((row_bytes h).take i hi) (fun x hx => h.all x (List.mem_of_mem_take hx)), h.2⟩
theorem ix_cut {W w : World} {k : Nat} {base every : Int} {bs : List Ba} (h : Own8 W w k base every bs) (hs : Small bs) (p : Int) (hp : I64 p) : Calls Try.prog 13 #[.pointer (some ⟨k, 0, none⟩), .int .i64 p] w fun e w' => e = .returned (.tuple #[]) ∧ Hid (Own8 W w' k base every (cutA bs p)) := by
  obtain ⟨F, h1, h2⟩ := h.ex
  refine (ixCut_any h1 hs p hp).mono ?_
  rintro e w' ⟨he, F', h3, h4, h5⟩
  refine ⟨he, h.below.trans (h4.out.below h2 h.below.size), F', h3.out, fun j hj => ?_⟩
  rcases h5.out j hj with h6 | h6
  · exact h2 j h6
  · have := h.below.size; omega
set_option maxRecDepth 100000 in
set_option maxHeartbeats 16000000 in
theorem ixNumbers_any (W : World) : Calls Try.prog 3 #[] W fun e w' => e = .returned (.bool true) ∧ Below W.heap.size W w' := by
  go_enter Try.func3, Try.ntmps3
  go_wp2_with fail
  have HST : Hid (Below W.heap.size W W) := Below.refl _ W
  go_loopw [1] (fun v1 wr => ∃ k : Nat, v1 = .int .i64 (k : Int) ∧ 1 ≤ k ∧ k ≤ 30 ∧ Hid (Below W.heap.size W wr)) (fun v1 _ => 30 - (intOf v1).toNat)
  case atStart => exact ⟨1, rfl, by omega, by omega, HST.out⟩
  case round =>
    obtain ⟨k, rfl, hk1, hk30, HB⟩ := hrel
    obtain ⟨wk, hwk⟩ : ∃ wk : World, wk = wr := ⟨_, rfl⟩
    subst hwk
    clear HST
    by_cases hkl : k < 30
    · have hdk : decide ((k : Int) < 30) = true := decide_eq_true (by omega)
      go_wp2_with fail
      have HST : Hid (So8 W wk (.slice none 0 0) [] 0) := ⟨HB.out, ownRow_nil aqK wk _, rfl, fun x hx => by cases hx⟩
      go_loopw [2, 3, 4] (fun v2 v3 v4 wr => ∃ (i : Nat) (p : Int) (ls : List Aq), v4 = .int .i64 (i : Int) ∧ i ≤ 60 ∧ v3 = .int .i64 p ∧ (0 ≤ p ∧ p ≤ 23 * (i : Int)) ∧ Hid (So8 W wr v2 ls i)) (fun _ _ v4 _ => 60 - (intOf v4).toNat)
      case atStart => exact ⟨0, 0, [], rfl, by omega, rfl, by omega, HST.out⟩
      case round =>
        obtain ⟨i, p, ls, rfl, hil, rfl, hp, HS⟩ := hrel
        obtain ⟨wo, hwo⟩ : ∃ wo : World, wo = wr := ⟨_, rfl⟩
        subst hwo
        clear HST
        obtain ⟨vv, hvv⟩ : ∃ z, z = u2 := ⟨_, rfl⟩
        subst hvv
        by_cases hlt : i < 60
        · have hd1 : decide (i < 60) = true := decide_eq_true hlt
          obtain ⟨x, hx⟩ : ∃ x : Nat, x = i * k := ⟨_, rfl⟩
          have hx1 : x ≤ 1800 := by rw [hx]; exact Nat.le_trans (Nat.mul_le_mul (show i ≤ 60 by omega) (show k ≤ 30 by omega)) (by decide)
          have e1 : (i : Int) * (k : Int) = (x : Int) := by rw [hx]; exact (Int.natCast_mul i k).symm
          have e2 : (k : Int) * (i : Int) = (x : Int) := by rw [Int.mul_comm]; exact e1
          obtain ⟨r6, h6⟩ : ∃ y : Nat, y = i % 6 := ⟨_, rfl⟩
          obtain ⟨r7, h7⟩ : ∃ y : Nat, y = x % 7 := ⟨_, rfl⟩
          obtain ⟨r23, h23⟩ : ∃ y : Nat, y = x % 23 := ⟨_, rfl⟩
          have m6 : (i : Int) % 6 = (r6 : Int) := by omega
          have m7 : (x : Int) % 7 = (r7 : Int) := by omega
          have m23 : (x : Int) % 23 = (r23 : Int) := by omega
          have b6 : r6 < 6 := by omega
          have b7 : r7 < 7 := by omega
          have b23 : r23 < 23 := by omega
          clear hx h6 h7 h23
          have HX1 : Hid (AqIn ⟨(r6 : Int), p, (r23 : Int), 5 + (r7 : Int) + (i : Int)⟩) := aq_in (by omega) (by omega) (by omega) (by omega)
          have HBW : Hid (W.heap.size ≤ (wo.alloc (.cells #[.int .i64 (r6 : Int), .int .i64 p, .int .i64 (r23 : Int), .int .i64 (5 + (r7 : Int) + (i : Int))] 24)).heap.size) := Nat.le_trans HS.out.below.size (by simp)
          have HRX : Hid (RowAt aqK (wo.alloc (.cells #[.int .i64 (r6 : Int), .int .i64 p, .int .i64 (r23 : Int), .int .i64 (5 + (r7 : Int) + (i : Int))] 24)) (some ⟨wo.heap.size, 0, none⟩) 1 1 [⟨(r6 : Int), p, (r23 : Int), 5 + (r7 : Int) + (i : Int)⟩]) := rowAt_lit aqK_ok wo [⟨(r6 : Int), p, (r23 : Int), 5 + (r7 : Int) + (i : Int)⟩] (by simp) _ rfl 1 rfl
          go_wp2_with (at_builtin; refine list_row (by rfl) aqK_ok (.tmp 17) (.tmp 33) rfl W.heap.size ls [⟨(r6 : Int), p, (r23 : Int), 5 + (r7 : Int) + (i : Int)⟩] _ rfl (HS.out.own.alloc _) HBW.out (some ⟨wo.heap.size, 0, none⟩) 1 1 rfl HRX.out (by have := HS.out.n; omega) ?_)
          intro v5 w5 hap
          have HSN := Lib.hid (HS.out.put hap (fun y hy => by
            rw [List.mem_singleton.1 hy]
            exact HX1.out))
          clear hap HRX HBW HX1 HS
          go_wp2_with fail
          go_roundw
          case rel => exact ⟨i + 1, p + (r23 : Int), _, by go_num, by omega, rfl, ⟨by omega, by omega⟩, HSN.out⟩
          case measure => simp [intOf]; omega
        · have hd1 : decide (i < 60) = false := decide_eq_false hlt
          obtain ⟨sad, scap, hv, hrow, hfar⟩ := OwnRow.row aqK_ok HS.out.own HS.out.n
          subst hv
          have HRS := Lib.hid hrow
          have HBL := Lib.hid HS.out.below
          have HIS := Lib.hid HS.out.ins
          clear hrow hfar HS
          obtain ⟨r4, h4⟩ : ∃ y : Nat, y = k % 4 := ⟨_, rfl⟩
          have m4 : (k : Int) % 4 = (r4 : Int) := by omega
          have b4 : r4 < 4 := by omega
          clear h4
          go_wp2_with fail
          refine (ixPlay_any wo 5 (1 + (k : Int) * 3) ⟨by decide, by decide⟩ ⟨by omega, by omega⟩ sad i scap ls HRS.out HIS.out).mono ?_
          rintro e w2 ⟨rfl, hb2⟩
          have HB2 : Hid (Below W.heap.size W w2) := HBL.out.trans (hb2.mono HBL.out.size)
          have HRS2 := Lib.hid (HRS.out.keep hb2)
          clear hb2
          go_wp2_with fail
          refine (ixPlay_any w2 ((k : Int) - 3) (r4 : Int) ⟨by omega, by omega⟩ ⟨by omega, by omega⟩ sad i scap ls HRS2.out HIS.out).mono ?_
          rintro e w3 ⟨rfl, hb3⟩
          have HB3 : Hid (Below W.heap.size W w3) := HB2.out.trans (hb3.mono HB2.out.size)
          clear hb3
          go_wp2_with fail
          go_roundw
          case rel => exact ⟨k + 1, by go_num, by omega, by omega, HB3.out⟩
          case measure => simp [intOf]; omega
    · have hdk : decide (k < 30) = false := decide_eq_false hkl
      go_wp2_with fail
      refine (ix_new W wk HB.out 7 1 ⟨by decide, by decide⟩ ⟨by decide, by decide⟩ (by decide)).mono ?_
      rintro e w2 ⟨kx, rfl, H2⟩
      have H2 : Hid (Own8 W w2 kx 7 1 (nb 0)) := H2
      go_wp2_with fail
      go_loopw [6] (fun v6 wr => ∃ i : Nat, v6 = .int .i64 (i : Int) ∧ i ≤ 5 ∧ Hid (Own8 W wr kx 7 1 (nb i))) (fun v6 _ => 5 - (intOf v6).toNat)
      case atStart => exact ⟨0, rfl, by omega, H2.out⟩
      case round =>
        obtain ⟨i, rfl, hil, HO⟩ := hrel
        obtain ⟨wo, hwo⟩ : ∃ wo : World, wo = wr := ⟨_, rfl⟩
        subst hwo
        clear H2
        by_cases hlt : i < 5
        · have hd1 : decide (i < 5) = true := decide_eq_true hlt
          go_wp2_with fail
          refine (ix_add HO.out (nb_small hil) (7 + (i : Int)) (10 * (i : Int)) 10 ⟨by omega, by omega⟩ ⟨by omega, by omega⟩ ⟨by omega, by omega⟩).mono ?_
          rintro e w3 ⟨rfl, HO3⟩
          rw [nb_add hlt] at HO3
          clear HO
          go_wp2_with fail
          go_roundw
          case rel => exact ⟨i + 1, by go_num, by omega, HO3.out⟩
          case measure => simp [intOf]; omega
        · have hd1 : decide (i < 5) = false := decide_eq_false hlt
          have HI5 : Hid (i = 5) := by show i = 5; omega
          rw [HI5.out] at HO
          clear HI5
          go_wp2_with fail
          refine (ix_bytes HO.out (nb_small (by decide)) 80 (by rw [nb_len])).mono ?_
          rintro e w4 ⟨bad, bcap, rfl, HR4, HB4⟩
          have HO4 := Lib.hid (HO.out.on HB4.out)
          obtain ⟨bl, hbl⟩ : ∃ b, b = bytesE 7 (ents 1 (nb 5)) := ⟨_, rfl⟩
          have HBLE := Lib.hid hbl
          rw [← hbl] at HR4
          clear HO HB4 hbl
          have HST : Hid (Below w4.heap.size w4 w4) := Below.refl _ w4
          go_wp2_with fail
          go_loopw [8] (fun v8 wr => ∃ j : Nat, v8 = .int .i64 (j : Int) ∧ j ≤ 81 ∧ Hid (Below w4.heap.size w4 wr)) (fun v8 _ => 81 - (intOf v8).toNat)
          case atStart => exact ⟨0, rfl, by omega, HST.out⟩
          case round =>
            obtain ⟨j, rfl, hj81, HBJ⟩ := hrel
            obtain ⟨wj, hwj⟩ : ∃ wj : World, wj = wr := ⟨_, rfl⟩
            subst hwj
            clear HST
            have HRJ := Lib.hid (HR4.out.keep HBJ.out (Nat.le_refl _))
            by_cases hlj : j ≤ 80
            · have hdj : decide (j ≤ 80) = true := decide_eq_true hlj
              have hup : ∀ V, (Instr.slice 29 (.slice bad 80 bcap) none (some (.int .i64 (j : Int))) none).run Try.prog V = .ok (.slice bad j bcap) V := row_upto byteK_ok bad 80 bcap j (by have := HRJ.out.1.fits; omega)
              go_wp2_with fail
              refine (ixReads_any wj 7 1 ⟨by decide, by decide⟩ ⟨by decide, by decide⟩ bad j bcap _ (row_take HRJ.out j hlj) (by omega) (.inr ⟨nb 5, (ix_made HO4.out).1, nb_small (by decide), j, by rw [← HBLE.out]⟩)).mono ?_
              rintro e w5 ⟨rfl, hb5⟩
              have HB5 : Hid (Below w4.heap.size w4 w5) := HBJ.out.trans (hb5.mono HBJ.out.size)
              clear hb5 hup
              go_wp2_with fail
              go_roundw
              case rel => exact ⟨j + 1, by go_num, by omega, HB5.out⟩
              case measure => simp [intOf]; omega
            · have hdj : decide (j ≤ 80) = false := decide_eq_false hlj
              have HOJ := Lib.hid (HO4.out.on HBJ.out)
              clear HO4 HBJ HRJ HR4
              go_wp2_with fail
              refine (ix_cut HOJ.out (nb_small (by decide)) 20 ⟨by decide, by decide⟩).mono ?_
              rintro e w5 ⟨rfl, HO5⟩
              rw [nb_cut] at HO5
              clear HOJ
              go_wp2_with fail
              refine (ix_find HO5.out (nb_small (by decide)) 99 ⟨by decide, by decide⟩).mono ?_
              rintro e w6 ⟨rfl, HB6⟩
              rw [nb_find]
              have HO6 := Lib.hid (HO5.out.on HB6.out)
              clear HO5 HB6
              go_wp2_with fail
              refine (ix_entries HO6.out (nb_small (by decide)) 2 nb_two).mono ?_
              rintro e w7 ⟨ad7, cap7, rfl, _, HB7⟩
              have HO7 := Lib.hid (HO6.out.on HB7.out)
              clear HO6 HB7
              go_wp2_with fail
              refine (ix_add HO7.out (nb_small (by decide)) 9 20 5 ⟨by decide, by decide⟩ ⟨by decide, by decide⟩ ⟨by decide, by decide⟩).mono ?_
              rintro e w8 ⟨rfl, HO8⟩
              rw [nb_last]
              have HB8 := Lib.hid HO8.out.below
              clear HO7 HO8
              go_wp2_with fail
              refine (ixKnown_any w8).mono ?_
              rintro e w9 ⟨rfl, hb9⟩
              have HB9 : Hid (Below W.heap.size W w9) := HB8.out.trans (hb9.mono HB8.out.size)
              clear hb9
              go_wp2
              go_ret
              exact ⟨rfl, HB9.out⟩
end Go.Proofs.Ytelbignfecjjhaa
