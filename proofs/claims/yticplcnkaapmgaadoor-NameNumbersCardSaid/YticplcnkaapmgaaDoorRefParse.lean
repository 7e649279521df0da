/- The contract of the document's own Parse. -/
import Derived.Test.YticplcnkaapmgaaDoorParse
namespace Go.Proofs.YticplcnkaapmgaaDoor
open Go.RowKit
open Go.RuneMath
set_option linter.unusedVariables false

theorem parse_long {l : List UInt8} (h : parseK l = true) : 22 ≤ l.length := by
  obtain ⟨h1, h2⟩ := parse_is h
  have h3 := (ok_nat h1).2.1
  have hk : 1 ≤ (l.drop 21).length := by
    have := runes_len (l.drop 21)
    unfold rightB rightR at h3
    simp only [Bool.and_eq_true, decide_eq_true_eq] at h3
    omega
  rw [List.length_drop] at hk
  omega
theorem parse_at {l : List UInt8} {i : Nat} {c : UInt8} (h : parseK l = true) (hi : i < 20) (hc : l[i]? = some c) : 48 ≤ c.toNat ∧ c.toNat ≤ 57 ∧ valD (l.take i) ≤ 1099511627776 := by
  obtain ⟨h1, h2⟩ := parse_is h
  obtain ⟨n, hn⟩ : ∃ n, n = valD (l.take 20) := ⟨_, rfl⟩
  obtain ⟨k, hk⟩ : ∃ k, k = l.drop 21 := ⟨_, rfl⟩
  rw [← hn, ← hk] at h1 h2
  clear hn hk
  subst h2
  refine ⟨?_, ?_, valD_take_file (ok_nat h1).1 (by omega)⟩
  all_goals
    unfold fileL at hc
    rw [List.getElem?_append_left (by rw [dig_len]; exact hi)] at hc
    have := dig_all n 20 c (List.mem_of_getElem? hc)
    omega
theorem val_next (s : ByteArray) (i : Nat) (h : i < s.size) {c : UInt8} (hc : s[i]'h = c) : valD (s.data.toList.take (i + 1)) = 10 * valD (s.data.toList.take i) + (c.toNat - 48) := by
  rw [take_more s i h, valD_snoc, hc]
theorem get_opt (s : ByteArray) (i : Nat) (h : i < s.size) {c : UInt8} (hc : s[i]'h = c) : s.data.toList[i]? = some c := by
  rw [← hc]
  rw [List.getElem?_eq_getElem (by rw [← Lib.size_eq]; exact h)]
  rfl
/-- What the loop keeps. -/
def PVal (s : ByteArray) (i n : Nat) : Prop := n = valD (s.data.toList.take i)
set_option maxHeartbeats 400000 in
set_option maxRecDepth 100000 in
theorem ref_parse_any (w : World) (s : ByteArray) (hs : s.size ≤ 1073741824) : Calls Tryd.prog 17 #[.string s] w (Parses s w) := by
  by_cases h22 : s.size < 22
  · have HF : Hid (parseK s.data.toList = false) := by
      show _ = _
      cases hp : parseK s.data.toList
      · rfl
      · have := parse_long hp
        rw [← Lib.size_eq] at this
        omega
    go_enter Tryd.func17, Tryd.ntmps17
    go_wp2
    go_ret3
    exact parses_no HF.out (Below.refl _ _)
  · have h22' : 22 ≤ s.size := by omega
    clear h22
    go_enter Tryd.func17, Tryd.ntmps17
    go_wp2
    go_loop [5, 6] (fun v5 v6 => ∃ i n : Nat, i ≤ 20 ∧ v6 = .int .i64 i ∧ v5 = .int .i64 n ∧ n ≤ 10995116277769 ∧ PVal s i n) (fun _ v6 => 20 - (intOf v6).toNat)
    case atStart => exact ⟨0, 0, by omega, rfl, rfl, by omega, by unfold PVal; simp [valD]⟩
    case round =>
      obtain ⟨i, n, hi, rfl, rfl, hn, hv⟩ := hrel
      have HV := Lib.hid hv
      clear hv
      by_cases h20 : i < 20
      · have hlt : i < s.size := by omega
        obtain ⟨c, hce⟩ : ∃ c, c = s[i]'hlt := ⟨_, rfl⟩
        have hix : s[i]'hlt = c := hce.symm
        have HVN := Lib.hid (val_next s i hlt hix)
        have HGO := Lib.hid (get_opt s i hlt hix)
        have hc8 := c.toNat_lt
        clear hce
        by_cases hdig : 48 ≤ c.toNat ∧ c.toNat ≤ 57
        · obtain ⟨h48, h57⟩ := hdig
          by_cases hbig : 1099511627776 < n
          · have HF : Hid (parseK s.data.toList = false) := by
              show _ = _
              cases hp : parseK s.data.toList
              · rfl
              · have := (parse_at hp h20 HGO.out).2.2
                rw [← show n = valD (s.data.toList.take i) from HV.out] at this
                omega
            go_wp2
            all_goals first
              | (exfalso; omega)
              | (go_ret3; exact parses_no HF.out (Below.refl _ _))
          · obtain ⟨d, hd⟩ : ∃ d, d = c.toNat - 48 := ⟨_, rfl⟩
            have hd9 : d ≤ 9 := by omega
            have hsub : (c.toNat : Int) - 48 = (d : Int) := by omega
            obtain ⟨m, hm⟩ : ∃ m, m = 10 * n + d := ⟨_, rfl⟩
            have hmz : (n : Int) * 10 + (d : Int) = (m : Int) := by omega
            have hmb : m ≤ 10995116277769 := by omega
            have HN : Hid (PVal s (i + 1) m) := by
              show m = _
              rw [HVN.out, ← hd, ← show n = valD (s.data.toList.take i) from HV.out]
              exact hm
            clear hm hd
            go_wp2
            all_goals first
              | (exfalso; omega)
              | (go_round
                 case rel => exact ⟨i + 1, m, by omega, by go_num, by go_num, hmb, HN.out⟩
                 case measure => simp [intOf]; omega)
        · have HF : Hid (parseK s.data.toList = false) := by
            show _ = _
            cases hp : parseK s.data.toList
            · rfl
            · have h := parse_at hp h20 HGO.out
              exact absurd ⟨h.1, h.2.1⟩ hdig
          have HD := Lib.hid hdig
          clear hdig
          go_wp2
          all_goals first
            | (exfalso; have := HD.out; omega)
            | (go_ret3; exact parses_no HF.out (Below.refl _ _))
      · obtain rfl : i = 20 := by omega
        have hKz : (s.extract 21 s.size).size ≤ 1073741824 := by
          rw [bs_drop, bs_size, List.length_drop, ← Lib.size_eq]
          omega
        obtain ⟨K, hK⟩ : ∃ K, K = s.extract 21 s.size := ⟨_, rfl⟩
        rw [← hK] at hKz
        have CF0 := fun W => ref_file_any W (n : Int) K hKz
        unfold Files at CF0
        obtain ⟨S, hS⟩ : ∃ S, S = fileV (n : Int) K := ⟨_, rfl⟩
        obtain ⟨o, ho⟩ : ∃ o, o = fileO (n : Int) K := ⟨_, rfl⟩
        have PA : Hid (parseK s.data.toList = true → o = true ∧ S = s) := by
          intro h
          obtain ⟨h1, h2⟩ := parse_is h
          rw [ho, hS, hK, bs_drop, show n = valD (s.data.toList.take 20) from HV.out]
          refine ⟨h1, ?_⟩
          unfold fileV
          rw [bs_list, file_ok_val h1, h2, bs_self]
        rw [← hS, ← ho] at CF0
        rw [hK] at CF0
        have HS := Lib.hid hS
        have HO := Lib.hid ho
        have CF := Lib.hid CF0
        have HK := Lib.hid hK
        clear CF0 hS ho hKz hK
        cases o
        · have HF := Lib.hid (no_of (fun h => (PA.out h).1) rfl)
          go_wp2_with fail
          refine (CF.out _).mono ?_
          rintro e w3 ⟨rfl, hb3⟩
          have HB3 := Lib.hid hb3
          clear hb3
          go_wp2
          go_ret3
          exact parses_no HF.out HB3.out
        · by_cases hSs : S = s
          · have HF := Lib.hid (parse_these HS.out HO.out.symm (by rw [hSs, bs_self]))
            rw [HK.out] at HF
            rw [hSs] at CF
            clear PA HS hSs
            go_wp2_with fail
            refine (CF.out _).mono ?_
            rintro e w3 ⟨rfl, hb3⟩
            have HB3 := Lib.hid hb3
            clear hb3
            go_wp2
            go_quiet (fail)
            go_wp2
            go_ret3
            exact parses_yes HF.out (step HB3.out (below_drewN _ _))
          · have HF : Hid (parseK s.data.toList = false) := by
              show _ = _
              cases hp : parseK s.data.toList
              · rfl
              · exact absurd (PA.out hp).2 hSs
            have hne : (S.toList == s.toList) = false := by
              simp only [beq_eq_false_iff_ne, ne_eq]
              rw [Lib.toList_data, Lib.toList_data]
              intro e
              apply hSs
              rw [← bs_self S, ← bs_self s, e]
            clear hSs
            go_wp2_with fail
            refine (CF.out _).mono ?_
            rintro e w3 ⟨rfl, hb3⟩
            have HB3 := Lib.hid hb3
            clear hb3
            go_wp2
            go_ret3
            exact parses_no HF.out HB3.out
end Go.Proofs.YticplcnkaapmgaaDoor
