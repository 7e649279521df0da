/- The walk of 'VarintRows' itself. Condition: the list takes no more than one that is read may. -/
import Derived.Test.YtnahagcjieckeaaRowsWalk
namespace Go.Proofs.Ytnahagcjieckeaa
open Go.RowKit
open Go.VarMath hiding AllB
set_option linter.unusedVariables false

theorem get_is (W : World) (ad : Option Addr) (len cap : Nat) (bs : List Nat) (h : Byt W ad len cap bs) (hL : len ≤ 140737488355328) (n : Int) (k : Nat) (hg : getB bs = (n, k)) :
    Calls Try.prog 15 #[.slice ad len cap] W fun e w' => e = .returned (.tuple #[.int .i64 n, .int .i64 (k : Int)]) ∧ W = w' := by
  refine (get_any W ad len cap _ h hL).mono ?_
  rintro e w' ⟨rfl, rfl⟩
  rw [hg]
  exact ⟨rfl, rfl⟩
theorem byt_upto {w : World} {ad : Option Addr} {len cap : Nat} {bs : List Nat} (h : Byt w ad len cap bs) (l : Nat) (hl : l ≤ len) : Byt w ad l cap (bs.take l) := by
  refine ⟨by rw [List.length_take, h.length]; omega, Nat.le_trans hl h.fits, take_all h.all l, ?_⟩
  rcases h.cells with h0 | ⟨b, off, e, hc⟩
  · exact .inl (by omega)
  · refine .inr ⟨b, off, e, fun i hi => ?_⟩
    rw [hc i (by omega)]
    have : (bs.take l).getD i 0 = bs.getD i 0 := by rw [List.getD_eq_getElem?_getD, List.getElem?_take, if_pos hi, ← List.getD_eq_getElem?_getD]
    rw [this]
theorem byt_from {w : World} {b off len cap : Nat} {bs : List Nat} (h : Byt w (some ⟨b, off, none⟩) len cap bs) (l : Nat) (hl : l ≤ len) : Byt w (some ⟨b, if cap = l then off else off + l, none⟩) (len - l) (cap - l) (bs.drop l) := by
  refine ⟨by rw [List.length_drop, h.length], by have := h.fits; omega, fun x hx => h.all x (List.mem_of_mem_drop hx), ?_⟩
  by_cases hm : len - l = 0
  · exact .inl hm
  · rcases h.cells with h0 | ⟨b', off', e, hc⟩
    · omega
    · cases e
      have hf := h.fits
      refine .inr ⟨b, off + l, by rw [if_neg (by omega)], fun i hi => ?_⟩
      rw [Nat.add_assoc, hc (l + i) (by omega)]
      congr 3
      rw [List.getD_eq_getElem?_getD, List.getD_eq_getElem?_getD, List.getElem?_drop]
/-- What stands before round j of the first loop: j numbers are written. -/
def RowsAt (w : World) (L : List Int) (k : Nat) (v5 v7 : Value) (wr : World) : Prop :=
  ∃ (j : Nat) (a : Option Addr) (l c : Nat), j ≤ k ∧ v7 = .int .i64 j ∧ v5 = .slice a l c ∧ Row wr a l c (encs (L.take j)) ∧ Below w.heap.size w wr
theorem rows_start (w : World) (L : List Int) (k : Nat) : RowsAt w L k (.slice none 0 0) (.int .i64 0) w :=
  ⟨0, none, 0, 0, by omega, rfl, rfl, ⟨by simpa [encs] using Byt.nil w, fun _ => rfl⟩, Below.refl _ _⟩
set_option maxRecDepth 100000 in
set_option maxHeartbeats 4000000 in
theorem vrows_any (w : World) (ad : Option Addr) (len cap : Nat) (zs : List Int) (cut : Int) (h : Nums w ad len zs) (hc : len ≤ cap) (hL : len ≤ 140737488351232) (hcut : -9223372036854775808 ≤ cut ∧ cut ≤ 9223372036854775807) :
    Calls Try.prog 6 #[.slice ad len cap, .int .i64 cut] w fun e w' => e = .returned (.bool true) ∧ Below w.heap.size w w' := by
  obtain ⟨k, hk⟩ : ∃ k, k = min len 20 := ⟨_, rfl⟩
  have hk1 : k ≤ len := by omega
  have hk20 : k ≤ 20 := by omega
  have hmin : min (len : Int) 20 = (k : Int) := by omega
  have HMIN := Lib.hid hmin
  obtain ⟨L, hLe⟩ : ∃ L, L = zs.take k := ⟨_, rfl⟩
  have hLl : L.length = k := by rw [hLe, List.length_take, h.length]; omega
  have hLa : ∀ n ∈ L, In64 n := by rw [hLe]; exact fun n hn => h.all n (List.mem_of_mem_take hn)
  have hLg : ∀ i, i < k → zs.getD i 0 = L.getD i 0 := by
    intro i hi
    rw [hLe, List.getD_eq_getElem?_getD, List.getD_eq_getElem?_getD, List.getElem?_take, if_pos hi]
  have HN := Lib.hid h
  have HLl := Lib.hid hLl
  have HLa := Lib.hid hLa
  have HLg := Lib.hid hLg
  have HK := Lib.hid hk
  clear h hLl hLa hLg hLe hk hmin
  go_enter Try.func6, Try.ntmps6
  go_wp2_with fail
  all_goals
    have hkk := HK.out
    first
      | (have e : (20 : Int) = (k : Int) := by omega
         rw [e]
         clear e)
      | (have e : (len : Int) = (k : Int) := by omega
         rw [e]
         clear e)
    clear hkk
    go_loopw [5, 7] (fun v5 v7 wr => RowsAt w L k v5 v7 wr) (fun _ v7 _ => (20 - intOf v7).toNat)
    case atStart => exact rows_start w L k
    case round =>
      obtain ⟨j, a5, l5, c5, hj, rfl, rfl, hrow, hbel⟩ := hrel
      have HROW := Lib.hid hrow
      have HBEL := Lib.hid hbel
      have hl5 : l5 ≤ 200 := by
        have h1 := encs_len (l := L.take j) (fun n hn => HLa.out n (List.mem_of_mem_take hn))
        rw [hrow.len, List.length_take] at h1
        omega
      clear hrow hbel
      by_cases hlt : j < k
      · obtain ⟨b0, off0, rfl, hcell⟩ : ∃ b off, ad = some ⟨b, off, none⟩ ∧ ∀ i, i < len → wr.cell? ⟨b, off + i, none⟩ = some (.int .i64 (zs.getD i 0)) := by
          rcases (HN.out.keep HBEL.out (Nat.le_refl _)).cells with h0 | h0
          · omega
          · exact h0
        have hcj := hcell j (by omega)
        rw [HLg.out j hlt] at hcj
        have hin : In64 (L.getD j 0) := by
          have hjl : j < L.length := by rw [HLl.out]; exact hlt
          rw [List.getD_eq_getElem?_getD, List.getElem?_eq_getElem hjl]
          exact HLa.out _ (List.getElem_mem hjl)
        have hsn := encs_snoc L j (by rw [HLl.out]; exact hlt)
        obtain ⟨n, hn⟩ : ∃ n, n = L.getD j 0 := ⟨_, rfl⟩
        rw [← hn] at hcj hin hsn
        have HSN := Lib.hid hsn
        obtain ⟨hin0, hin1⟩ := hin
        clear hcell hn hsn
        go_wp2_with fail
        refine (put_any wr a5 l5 c5 _ n HROW.out (by omega) hin0 hin1).mono ?_
        rintro e w1 ⟨g, cp, rfl, ho, hb⟩
        rw [← HSN.out] at ho ⊢
        have HR1 := Lib.hid (owns_row ho (encs_all (fun n hn => HLa.out n (List.mem_of_mem_take hn))))
        have HB1 := Lib.hid (HBEL.out.trans (hb.mono HBEL.out.size))
        clear ho hb
        go_wp2
        go_roundw
        case rel => exact ⟨j + 1, _, _, _, by omega, by go_num, rfl, HR1.out, HB1.out⟩
        case measure => simp [intOf]; omega
      · obtain rfl : k = j := by omega
        have hlt20 : L.take k = L := by rw [List.take_of_length_le (by rw [HLl.out]; exact Nat.le_refl _)]
        rw [hlt20] at HROW
        have HLEN : Hid ((encs L).length = l5) := HROW.out.len
        clear hlt hlt20
        go_wp2
        go_loop [8, 9] (fun v8 v9 => ∃ j p : Nat, j ≤ k ∧ v9 = .int .i64 j ∧ v8 = .int .i64 p ∧ Hid (p = (encs (L.take j)).length)) (fun _ v9 => (20 - intOf v9).toNat)
        case atStart => exact ⟨0, 0, by omega, rfl, rfl, rfl⟩
        case round =>
          obtain ⟨j, p, hj, rfl, rfl, HP⟩ := hrel
          by_cases hlt : j < k
          · obtain ⟨b0, off0, rfl, hcell⟩ : ∃ b off, ad = some ⟨b, off, none⟩ ∧ ∀ i, i < len → wr.cell? ⟨b, off + i, none⟩ = some (.int .i64 (zs.getD i 0)) := by
              rcases (HN.out.keep HBEL.out (Nat.le_refl _)).cells with h0 | h0
              · omega
              · exact h0
            have hcj := hcell j (by omega)
            rw [HLg.out j hlt] at hcj
            have hjl : j < L.length := by rw [HLl.out]; exact hlt
            have hin : In64 (L.getD j 0) := by
              rw [List.getD_eq_getElem?_getD, List.getElem?_eq_getElem hjl]
              exact HLa.out _ (List.getElem_mem hjl)
            have hdr := encs_drop L j hjl
            have hsn := encs_snoc L j hjl
            rw [← HP.out] at hdr
            obtain ⟨n, hn⟩ : ∃ n, n = L.getD j 0 := ⟨_, rfl⟩
            rw [← hn] at hcj hin hdr hsn
            obtain ⟨hin0, hin1⟩ := hin
            obtain ⟨kn, hkn⟩ : ∃ kn, kn = (encN n).length := ⟨_, rfl⟩
            have hk1 := encN_len hin0 hin1
            have hone := encN_one (n := n)
            rw [← hkn] at hk1 hone
            have hpl : p + kn ≤ l5 := by
              have h1 := congrArg List.length hdr
              rw [List.length_drop, List.length_append, HLEN.out, ← hkn] at h1
              omega
            have HPN : Hid (p + kn = (encs (L.take (j + 1))).length) := by
              show _ = _
              rw [hsn, List.length_append, ← HP.out, ← hkn]
            obtain ⟨b5, off5, rfl⟩ : ∃ b off, a5 = some ⟨b, off, none⟩ := by
              rcases HROW.out.1.cells with h0 | ⟨b, off, e, _⟩
              · omega
              · exact ⟨b, off, e⟩
            have hby := byt_from HROW.out.1 p (by omega)
            rw [hdr] at hby
            have hsl := fun W => run_from b5 off5 l5 c5 p (by omega) W
            obtain ⟨o, ho⟩ : ∃ o, o = if c5 = p then off5 else off5 + p := ⟨_, rfl⟩
            rw [← ho] at hby hsl
            have HG : Hid (getB (encN n ++ encs (L.drop (j + 1))) = (n, kn)) := by show _ = _; rw [getB_encN hin0 hin1, hkn]
            have HBY := Lib.hid hby
            clear hcell hn hdr hsn hkn ho hby hjl
            have hfin : ∀ x : Int, x = (p : Int) + (kn : Int) → x = ((p + kn : Nat) : Int) := by intro x hx; omega
            have HFIN := Lib.hid hfin
            clear hfin
            by_cases hs : kn = 1
            · obtain ⟨hs1, hs2⟩ := hone.1 hs
              have hb1 : ((kn : Int) == 1) = true := by simp; omega
              clear hone hs
              go_wp2_with (go_at_call 15; refine (get_is wr _ _ _ _ HBY.out (by omega) n kn HG.out).mono ?_; rintro e w' ⟨rfl, rfl⟩)
              all_goals first
                | (exfalso; omega)
                | (go_round
                   case rel => exact ⟨j + 1, p + kn, by omega, by go_num, by go_num, HPN.out⟩
                   case measure => simp [intOf]; omega)
            · have hb1 : ((kn : Int) == 1) = false := by simp; omega
              have hs2 : ¬ (-64 ≤ n ∧ n < 64) := fun e => hs (hone.2 e)
              clear hone
              go_wp2_with (go_at_call 15; refine (get_is wr _ _ _ _ HBY.out (by omega) n kn HG.out).mono ?_; rintro e w' ⟨rfl, rfl⟩)
              all_goals first
                | (exfalso; omega)
                | (go_round
                   case rel => exact ⟨j + 1, p + kn, by omega, by go_num, by go_num, HPN.out⟩
                   case measure => simp [intOf]; omega)
          · obtain rfl : k = j := by omega
            have hpl : p = l5 := by
              have h1 := HP.out
              rw [List.take_of_length_le (by rw [HLl.out]; exact Nat.le_refl _), HLEN.out] at h1
              exact h1
            subst hpl
            go_wp2_with fail
            refine (within_any cut (p : Int) wr hcut (by omega)).mono ?_
            rintro e w' ⟨c, rfl, hc5, rfl⟩
            have hby := byt_upto HROW.out.1 c (by omega)
            have hsl := run_upto a5 p c5 c (by have := HROW.out.1.fits; omega)
            have HBY := Lib.hid hby
            clear hby
            rcases getB_encs L HLa.out c with hg | ⟨hl0, j', hj', hg⟩
            · have HG := Lib.hid hg
              clear hg
              go_wp2_with fail
              refine (get_is wr _ _ _ _ HBY.out (by omega) 0 0 HG.out).mono ?_
              rintro e w' ⟨rfl, rfl⟩
              go_wp2_with fail
              refine (known_any wr).mono ?_
              rintro e w2 ⟨rfl, hb2⟩
              go_wp2
              go_ret
              exact ⟨rfl, HBEL.out.trans (hb2.mono HBEL.out.size)⟩
            · have HG := Lib.hid hg
              have hjz : ((j' : Int) == 0) = false := by simp; omega
              rw [HLl.out] at hl0
              obtain ⟨b0, off0, rfl, hcell⟩ : ∃ b off, ad = some ⟨b, off, none⟩ ∧ ∀ i, i < len → wr.cell? ⟨b, off + i, none⟩ = some (.int .i64 (zs.getD i 0)) := by
                rcases (HN.out.keep HBEL.out (Nat.le_refl _)).cells with h0 | h0
                · omega
                · exact h0
              have hcj := hcell 0 (by omega)
              rw [HLg.out 0 hl0, Nat.add_zero] at hcj
              obtain ⟨n, hn⟩ : ∃ n, n = L.getD 0 0 := ⟨_, rfl⟩
              rw [← hn] at hcj
              have HGN : Hid (getB ((encs L).take c) = (n, j')) := by show _ = _; rw [HG.out, hn]
              clear hg hcell hn HG hj'
              go_wp2_with fail
              refine (get_is wr _ _ _ _ HBY.out (by omega) n j' HGN.out).mono ?_
              rintro e w' ⟨rfl, rfl⟩
              go_wp2_with fail
              refine (known_any wr).mono ?_
              rintro e w2 ⟨rfl, hb2⟩
              go_wp2
              go_ret
              exact ⟨rfl, HBEL.out.trans (hb2.mono HBEL.out.size)⟩
end Go.Proofs.Ytnahagcjieckeaa
