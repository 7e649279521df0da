/- The statements' own 'tape' of chapter 6: a row of four hundred numbers. -/
import Derived.Test.YtlpmfhccfihnfaaRows2
import Derived.Test.YtlpmfhccfihnfaaVarUse
import Derived.Test.YtlpmfhccfihnfaaTape
namespace Go.Proofs.Ytlpmfhccfihnfaa
open Go.RowKit
set_option linter.unusedVariables false

theorem infoInt : (Try.prog.info? 3).map (fun i => (i.zero, i.size, i.bytes)) = some (some (.int .i64 0), 1, 8) := by kernel_rfl
def intK : Kind Int := ⟨fun n => [.int .i64 n], 1, 3, 26⟩
theorem intK_ok : intK.Ok 8 where
  und := Try.underlying26
  info := by
    obtain ⟨i, hi, hz, hs, hb⟩ := info_parts infoInt
    exact ⟨i, _, hi, hz, hs, hb, rfl⟩
  len := fun _ => rfl
  pos := by decide
  one := fun r u hu => by
    obtain rfl := List.mem_singleton.1 hu
    rfl
  few := by decide
theorem nums_of {w : World} {ad : Option Addr} {len cap : Nat} {l : List Int} (h : RowAt intK w ad len cap l) (ha : ∀ n ∈ l, In64 n) : Nums w ad len l := by
  refine ⟨h.length, ha, ?_⟩
  rcases h.cells with h0 | ⟨b, off, e, _, hc⟩
  · exact .inl h0
  · refine .inr ⟨b, off, e, fun i hi => ?_⟩
    have hl := h.length
    have hx : l[i]? = some (l[i]'(by omega)) := List.getElem?_eq_getElem (by omega)
    have := hc i _ hx 0 (.int .i64 (l[i]'(by omega))) rfl
    rw [List.getD_eq_getElem?_getD, hx]
    show w.cell? ⟨b, off + i, none⟩ = _
    have e2 : off + (i * intK.size + 0) = off + i := by show off + (i * 1 + 0) = _; omega
    rw [e2] at this
    exact this
def TapeLoop (w : World) (v3 v4 : Value) (wr : World) : Prop :=
  ∃ (zs : List Int) (i : Nat) (u : Value), u = v3 ∧ v4 = .int .i64 (i : Int) ∧ i ≤ 400 ∧ zs.length = i ∧ (∀ z ∈ zs, In64 z) ∧ OwnRow intK wr w.heap.size u zs ∧ Below w.heap.size w wr
theorem tmod_in (x m z : Int) (hm : 0 < m ∧ m < 1000000) (h : x.tmod m = z) : In64 z := by
  have h1 : z < m := by rw [← h]; exact Int.tmod_lt_of_pos x hm.1
  have h2 : -z < m := by rw [← h, ← Int.neg_tmod]; exact Int.tmod_lt_of_pos (-x) hm.1
  exact ⟨by omega, by omega⟩
set_option maxRecDepth 100000 in
theorem lawTape_any (w : World) (k : Nat) (hk : k ≤ 60) :
    Calls Try.prog 8 #[.int .i64 (k : Int)] w fun e w' => ∃ ad cap zs, e = .returned (.slice ad 400 cap) ∧ Hid (Nums w' ad 400 zs) ∧ Hid (Below w.heap.size w w') := by
  go_enter Try.func8, Try.ntmps8
  go_wp2
  go_loopw [3, 4] (fun v3 v4 wr => TapeLoop w v3 v4 wr) (fun _ v4 _ => (400 - intOf v4).toNat)
  case atStart => exact ⟨[], 0, _, rfl, rfl, by omega, rfl, (fun z hz => by cases hz), ownRow_nil _ _ _, Below.refl _ _⟩
  case round =>
    obtain ⟨zs, i, u, rfl, rfl, hi, hl, ha, hown, hbel⟩ := hrel
    have HL := Lib.hid hl
    have HA := Lib.hid ha
    have HO := Lib.hid hown
    have HB := Lib.hid hbel
    clear hl ha hown hbel
    by_cases hlt : i < 400
    · have hd : decide ((i : Int) < 400) = true := by simp; omega
      obtain ⟨x, hx⟩ : ∃ x, wrap64 (wrap64 (wrap64 (wrap64 ((i : Int) * i) * 7) + (k : Int) * 23) + wrap64 ((i : Int) * k)) = x := ⟨_, rfl⟩
      obtain ⟨z, hz⟩ : ∃ z, x.tmod 211 = z := ⟨_, rfl⟩
      have hz64 := tmod_in x 211 z (by omega) hz
      obtain ⟨wo, rfl⟩ : ∃ wo : World, wo = wr := ⟨_, rfl⟩
      have HBA : Hid (Below w.heap.size w (wo.alloc (.cells #[.int .i64 z] 3))) := HB.out.alloc HB.out.size _
      have HRW : Hid (RowAt intK (wo.alloc (.cells #[.int .i64 z] 3)) (some ⟨wo.heap.size, 0, none⟩) 1 1 [z]) := rowAt_lit intK_ok wo [z] (by simp) _ rfl 1 rfl
      go_wp2_with (at_builtin; refine list_row (by rfl) intK_ok (.tmp 9) (.tmp 22) rfl w.heap.size zs [z] _ rfl (HO.out.alloc _) HBA.out.size (some ⟨wo.heap.size, 0, none⟩) 1 1 rfl HRW.out (by have := HL.out; omega) ?_)
      intro v' w' hap
      have HO2 := Lib.hid hap.1
      have HB2 : Hid (Below w.heap.size w w') := HBA.out.grown hap.2.1 HBA.out.size fun q hq => (HO.out.lt q hq).1
      have HL2 : Hid ((zs ++ [z]).length = i + 1) := by show _ = _; rw [List.length_append, HL.out]; rfl
      have HA2 : Hid (∀ y ∈ zs ++ [z], In64 y) := by
        intro y hy
        rcases List.mem_append.1 hy with hy | hy
        · exact HA.out y hy
        · rw [List.mem_singleton.1 hy]; exact hz64
      clear hap hx hz
      go_wp2
      go_roundw
      case rel => exact ⟨zs ++ [z], i + 1, _, rfl, by go_num, by omega, HL2.out, HA2.out, HO2.out, HB2.out⟩
      case measure => simp [intOf]; omega
    · have hd : decide ((i : Int) < 400) = false := by simp; omega
      go_wp2
      go_ret
      obtain ⟨ad, cap, rfl, hr, _⟩ := HO.out.at intK_ok
      have hl := HL.out
      obtain rfl : i = 400 := by omega
      rw [hl] at hr
      rw [hl]
      exact ⟨ad, cap, zs, rfl, nums_of hr HA.out, HB.out⟩
end Go.Proofs.Ytlpmfhccfihnfaa
