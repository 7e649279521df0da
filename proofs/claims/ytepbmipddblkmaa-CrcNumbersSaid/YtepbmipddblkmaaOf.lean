/- What is said of a slice of bytes ('Byt'), and the contracts of a row's sum in the code and in the document's own answer: both give 'ofB'. -/
import Derived.Test.YtepbmipddblkmaaNext
namespace Go.Proofs.Ytepbmipddblkmaa
open Go.RowKit Go.CrcMath
set_option linter.unusedVariables false

/-- A slice of bytes reads as bs: it is empty, or its cells lie in one block, one behind the other. -/
structure Byt (w : World) (ad : Option Addr) (len cap : Nat) (bs : List Nat) : Prop where
  length : bs.length = len
  fits : len ≤ cap
  all : AllB bs
  cells : len = 0 ∨ ∃ b off, ad = some ⟨b, off, none⟩ ∧ ∀ i, i < len → w.cell? ⟨b, off + i, none⟩ = some (.int .u8 (bs.getD i 0 : Nat))

theorem cplc (c : Nat) (h : c < 4294967296) : bits .xor .u32 IntKind.u32.max (c : Int) = ((cpl c : Nat) : Int) := by
  have e : IntKind.u32.max = ((full : Nat) : Int) := by decide
  rw [e, u32_xor_nat full c full_lt h, cpl_eq]
theorem usig : IntKind.u32.signed = false := rfl
theorem xor00 : bits .xor .u32 IntKind.u32.max 4294967295 = 0 := by decide
theorem getD_all {bs : List Nat} (h : AllB bs) (k : Nat) : bs.getD k 0 < 256 := by
  rw [List.getD_eq_getElem?_getD]
  rcases hk : bs[k]? with _ | x
  · decide
  · exact h x (List.mem_of_getElem? hk)
theorem run_next (c : Nat) (bs : List Nat) (k : Nat) (h : k < bs.length) : run c (bs.take (k + 1)) = nxt (run c (bs.take k)) (bs.getD k 0) := by
  rw [List.take_succ_eq_append_getElem h, run_snoc, List.getD_eq_getElem?_getD, List.getElem?_eq_getElem h]; rfl
theorem take_all {bs : List Nat} (h : AllB bs) (k : Nat) : AllB (bs.take k) := fun x hx => h x (List.mem_of_mem_take hx)

set_option maxHeartbeats 400000 in
theorem of_any (w : World) (ad : Option Addr) (len cap : Nat) (bs : List Nat) (h : Byt w ad len cap bs) (hL : len ≤ 140737488355328) :
    Calls Try.prog 13 #[.slice ad len cap] w fun e w' => e = .returned (.int .u32 (ofB bs : Nat)) ∧ w = w' := by
  obtain ⟨hlen, hfit, hall, hcs⟩ := h
  rcases hcs with h0 | ⟨b, off, rfl, hcell⟩
  · subst h0
    obtain rfl : bs = [] := by simpa using hlen
    have E : Hid (ofB [] = 0) := by show _ = _; decide
    clear hlen hfit hall
    have hcp := xor00
    have hsg := usig
    go_enter Try.func13, Try.ntmps13
    go_wp2
    refine wp_loop_rounds 1 ?_
    rw [rounds_succ]
    go_wp2
    go_ret
    exact ⟨ret_u32 (by rw [E.out]; rfl), rfl⟩
  · have hmx : ∀ k, run full (bs.take k) < 4294967296 := fun k => run_lt _ _ full_lt (take_all hall k)
    have HM := Lib.hid hmx
    have HC := Lib.hid hcell
    have HA := Lib.hid hall
    have HL := Lib.hid hlen
    clear hmx hcell hall hlen
    go_enter Try.func13, Try.ntmps13
    go_wp2
    go_loop [3, 8] (fun s i => ∃ k : Nat, k ≤ len ∧ i = .int .i64 k ∧ s = .int .u32 (run full (bs.take k) : Nat)) (fun _ i => len - (intOf i).toNat)
    case atStart => exact ⟨0, by omega, rfl, rfl⟩
    case round =>
      obtain ⟨k, hk, rfl, rfl⟩ := hrel
      have hl := HM.out k
      obtain ⟨d, hd⟩ : ∃ d, d = run full (bs.take k) := ⟨_, rfl⟩
      rw [← hd] at hl ⊢
      have HD : Hid (d = run full (bs.take k)) := hd
      clear hd
      by_cases hlt : k < len
      · have hc := HC.out k hlt
        have hx8 := getD_all HA.out k
        obtain ⟨x, hx⟩ : ∃ x, x = bs.getD k 0 := ⟨_, rfl⟩
        rw [← hx] at hc hx8
        have S : Hid (run full (bs.take (k + 1)) = nxt d x) := by
          show _ = _
          rw [run_next _ _ _ (by rw [HL.out]; exact hlt), ← HD.out, ← hx]
        clear hx
        go_wp2_with (go_at_call 14; refine (next_any _ _ _ hl hx8).mono ?_; rintro e w' ⟨rfl, rfl⟩)
        go_round
        case rel => exact ⟨k + 1, by omega, by go_num, by rw [S.out]⟩
        case measure => simp [intOf]; omega
      · have hcp := cplc d hl
        have hsg := usig
        have E : Hid (cpl d = ofB bs) := by
          show _ = _
          rw [HD.out, List.take_of_length_le (by rw [HL.out]; omega)]; rfl
        go_wp2
        go_ret
        exact ⟨ret_u32 (by rw [E.out]), rfl⟩
set_option maxHeartbeats 400000 in
theorem refCrc_any (w : World) (ad : Option Addr) (len cap : Nat) (bs : List Nat) (h : Byt w ad len cap bs) (hL : len ≤ 140737488355328) :
    Calls Try.prog 15 #[.slice ad len cap] w fun e w' => e = .returned (.int .u32 (ofB bs : Nat)) ∧ w = w' := by
  obtain ⟨hlen, hfit, hall, hcs⟩ := h
  rcases hcs with h0 | ⟨b, off, rfl, hcell⟩
  · subst h0
    obtain rfl : bs = [] := by simpa using hlen
    have E : Hid (ofB [] = 0) := by show _ = _; decide
    clear hlen hfit hall
    have hcp := xor00
    have hsg := usig
    go_enter Try.func15, Try.ntmps15
    go_wp2
    refine wp_loop_rounds 1 ?_
    rw [rounds_succ]
    go_wp2
    go_ret
    exact ⟨ret_u32 (by rw [E.out]; rfl), rfl⟩
  · have hmx : ∀ k, run full (bs.take k) < 4294967296 := fun k => run_lt _ _ full_lt (take_all hall k)
    have HM := Lib.hid hmx
    have HC := Lib.hid hcell
    have HA := Lib.hid hall
    have HL := Lib.hid hlen
    clear hmx hcell hall hlen
    go_enter Try.func15, Try.ntmps15
    go_wp2
    go_loop [3, 4] (fun s i => ∃ k : Nat, k ≤ len ∧ i = .int .i64 k ∧ s = .int .u32 (run full (bs.take k) : Nat)) (fun _ i => len - (intOf i).toNat)
    case atStart => exact ⟨0, by omega, rfl, rfl⟩
    case round =>
      obtain ⟨k, hk, rfl, rfl⟩ := hrel
      have hl := HM.out k
      obtain ⟨d, hd⟩ : ∃ d, d = run full (bs.take k) := ⟨_, rfl⟩
      rw [← hd] at hl ⊢
      have HD : Hid (d = run full (bs.take k)) := hd
      clear hd
      by_cases hlt : k < len
      · have hc := HC.out k hlt
        have hx8 := getD_all HA.out k
        obtain ⟨x, hx⟩ : ∃ x, x = bs.getD k 0 := ⟨_, rfl⟩
        rw [← hx] at hc hx8
        have S : Hid (run full (bs.take (k + 1)) = nxt d x) := by
          show _ = _
          rw [run_next _ _ _ (by rw [HL.out]; exact hlt), ← HD.out, ← hx]
        clear hx
        go_wp2_with (go_at_call 17; refine (refNext_any _ _ _ hl hx8).mono ?_; rintro e w' ⟨rfl, rfl⟩)
        go_round
        case rel => exact ⟨k + 1, by omega, by go_num, by rw [S.out]⟩
        case measure => simp [intOf]; omega
      · have hcp := cplc d hl
        have hsg := usig
        have E : Hid (cpl d = ofB bs) := by
          show _ = _
          rw [HD.out, List.take_of_length_le (by rw [HL.out]; omega)]; rfl
        go_wp2
        go_ret
        exact ⟨ret_u32 (by rw [E.out]), rfl⟩
end Go.Proofs.Ytepbmipddblkmaa
