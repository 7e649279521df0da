/- What the contracts of chapter 1's sums share. The contracts of the document's own Next and Crc. The contract of the document's own Sealed. The contracts of the code's Next and Of. The contracts of the code's stored, Put and Check. The contract of the document's own 'Unseal'. -/
import Derived.Test.YtlcnpeodhfdhlaaBytes
import Derived.Test.YtlcnpeodhfdhlaaGPlain
import Derived.Outline
import Derived.Deep.QuietTactic
import Derived.BigQuiet
import Derived.Deep.RegionWith
/-! What the contracts of chapter 1's sums share. -/
namespace Go.Proofs.Ytlcnpeodhfdhlaa
open Go.RowKit
open Go.CrcMath hiding AllB
set_option linter.unusedVariables false

theorem xorc (c b : Nat) (hc : c < 4294967296) (hb : b < 256) : bits .xor .u32 (c : Int) (b : Int) = ((c ^^^ b : Nat) : Int) := u32_xor_nat c b hc (by omega)
theorem and1 (d : Nat) (h : d < 4294967296) : bits .and .u32 (d : Int) 1 = ((d % 2 : Nat) : Int) := by
  have := u32_and_nat d 1 h (by omega)
  rw [nat_mask1] at this
  exact this
theorem xorp (d : Nat) (h : d < 4294967296) : bits .xor .u32 ((d : Int) / 2) 2197175160 = ((d / 2 ^^^ poly : Nat) : Int) := by
  have := u32_xor_nat (d / 2) 2197175160 (by omega) (by omega)
  exact this
theorem bstep_odd (d : Nat) (h : d % 2 = 1) : bstep d = d / 2 ^^^ poly := if_pos h
theorem bstep_even (d : Nat) (h : ¬ d % 2 = 1) : bstep d = d / 2 := if_neg h
theorem u32_eq {a b : Int} (h : a = b) : Value.int .u32 a = Value.int .u32 b := by rw [h]
theorem ret_u32 {a b : Int} (h : a = b) : Ending.returned (.int .u32 a) = .returned (.int .u32 b) := by rw [h]


theorem cplc (c : Nat) (h : c < 4294967296) : bits .xor .u32 IntKind.u32.max (c : Int) = ((cpl c : Nat) : Int) := by
  have e : IntKind.u32.max = ((full : Nat) : Int) := by decide
  rw [e, u32_xor_nat full c full_lt h, cpl_eq]
theorem usig : IntKind.u32.signed = false := rfl
theorem xor00 : bits .xor .u32 IntKind.u32.max 4294967295 = 0 := by decide
theorem run_next (c : Nat) (bs : List Nat) (k : Nat) (h : k < bs.length) : run c (bs.take (k + 1)) = nxt (run c (bs.take k)) (bs.getD k 0) := by
  rw [List.take_succ_eq_append_getElem h, run_snoc, List.getD_eq_getElem?_getD, List.getElem?_eq_getElem h]; rfl
end Go.Proofs.Ytlcnpeodhfdhlaa

/-! The contracts of the document's own Next and Crc. -/
namespace Go.Proofs.Ytlcnpeodhfdhlaa
open Go.RowKit
open Go.CrcMath hiding AllB
set_option linter.unusedVariables false
set_option maxHeartbeats 400000 in
theorem refNext_any (c b : Nat) (w : World) (hc : c < 4294967296) (hb : b < 256) :
    Calls Try.prog 88 #[.int .u32 c, .int .u8 b] w fun e w' => e = .returned (.int .u32 (nxt c b : Nat)) ∧ w = w' := by
  have hx := xorc c b hc hb
  obtain ⟨x, hxe⟩ : ∃ x, x = c ^^^ b := ⟨_, rfl⟩
  have hxl : x < 4294967296 := by rw [hxe]; exact xor_lt hc (by omega)
  rw [← hxe] at hx
  have HX : Hid (x = c ^^^ b) := hxe
  clear hxe
  go_enter Try.func88, Try.ntmps88
  go_wp2
  go_loop [0, 5] (fun s i => ∃ k : Nat, k ≤ 8 ∧ i = .int .i64 k ∧ s = .int .u32 (bsteps k x : Nat)) (fun _ i => (8 - intOf i).toNat)
  case atStart => exact ⟨0, by omega, rfl, rfl⟩
  case round =>
    obtain ⟨k, hk, rfl, rfl⟩ := hrel
    have hl := bsteps_lt hxl k
    obtain ⟨d, hd⟩ : ∃ d, d = bsteps k x := ⟨_, rfl⟩
    rw [← hd] at hl ⊢
    have HD : Hid (d = bsteps k x) := hd
    clear hd hx
    have h1 := and1 d hl
    have h2 := xorp d hl
    by_cases hlt : k < 8
    · by_cases ho : d % 2 = 1
      · have hb1 : (((d % 2 : Nat) : Int) == 1) = true := by simp; omega
        have S : Hid (bsteps (k + 1) x = d / 2 ^^^ poly) := by show bstep (bsteps k x) = _; rw [← HD.out]; exact bstep_odd d ho
        clear ho
        go_wp2
        go_round
        case rel => exact ⟨k + 1, by omega, by go_num, by rw [S.out]⟩
        case measure => simp [intOf]; omega
      · have hb1 : (((d % 2 : Nat) : Int) == 1) = false := by simp; omega
        have S : Hid (bsteps (k + 1) x = d / 2) := by show bstep (bsteps k x) = _; rw [← HD.out]; exact bstep_even d ho
        clear ho
        go_wp2
        go_round
        case rel => exact ⟨k + 1, by omega, by go_num, by rw [S.out]; exact u32_eq (by omega)⟩
        case measure => simp [intOf]; omega
    · have E : Hid (d = nxt c b) := by
        have : k = 8 := by omega
        subst this
        show d = bsteps 8 (c ^^^ b)
        rw [HD.out, HX.out]
      go_wp2
      go_ret
      exact ⟨ret_u32 (by rw [E.out]), rfl⟩
set_option maxHeartbeats 400000 in
theorem refCrc_any (w : World) (ad : Option Addr) (len cap : Nat) (bs : List Nat) (h : Byt w ad len cap bs) (hL : len ≤ 140737488355328) :
    Calls Try.prog 74 #[.slice ad len cap] w fun e w' => e = .returned (.int .u32 (ofB bs : Nat)) ∧ w = w' := by
  obtain ⟨hlen, hfit, hall, hcs⟩ := h
  rcases hcs with h0 | ⟨b, off, rfl, hcell⟩
  · subst h0
    obtain rfl : bs = [] := by simpa using hlen
    have E : Hid (ofB [] = 0) := by show _ = _; decide
    clear hlen hfit hall
    have hcp := xor00
    have hsg := usig
    go_enter Try.func74, Try.ntmps74
    go_wp2
    refine wp_loop_rounds 1 ?_
    rw [rounds_succ]
    go_wp2
    go_ret
    exact ⟨ret_u32 (by rw [E.out]; rfl), rfl⟩
  · have hmx : ∀ k, run full (bs.take k) < 4294967296 := fun k => run_lt _ _ full_lt (take_all hall k)
    have HM := Lib.hid hmx
    have HC := Lib.hid hcell
    have HA := Lib.hid hall
    have HL := Lib.hid hlen
    clear hmx hcell hall hlen
    go_enter Try.func74, Try.ntmps74
    go_wp2
    go_loop [3, 4] (fun s i => ∃ k : Nat, k ≤ len ∧ i = .int .i64 k ∧ s = .int .u32 (run full (bs.take k) : Nat)) (fun _ i => len - (intOf i).toNat)
    case atStart => exact ⟨0, by omega, rfl, rfl⟩
    case round =>
      obtain ⟨k, hk, rfl, rfl⟩ := hrel
      have hl := HM.out k
      obtain ⟨d, hd⟩ : ∃ d, d = run full (bs.take k) := ⟨_, rfl⟩
      rw [← hd] at hl ⊢
      have HD : Hid (d = run full (bs.take k)) := hd
      clear hd
      by_cases hlt : k < len
      · have hc := HC.out k hlt
        have hx8 := getD_all HA.out k
        obtain ⟨x, hx⟩ : ∃ x, x = bs.getD k 0 := ⟨_, rfl⟩
        rw [← hx] at hc hx8
        have S : Hid (run full (bs.take (k + 1)) = nxt d x) := by
          show _ = _
          rw [run_next _ _ _ (by rw [HL.out]; exact hlt), ← HD.out, ← hx]
        clear hx
        go_wp2_with (go_at_call 88; refine (refNext_any _ _ _ hl hx8).mono ?_; rintro e w' ⟨rfl, rfl⟩)
        go_round
        case rel => exact ⟨k + 1, by omega, by go_num, by rw [S.out]⟩
        case measure => simp [intOf]; omega
      · have hcp := cplc d hl
        have hsg := usig
        have E : Hid (cpl d = ofB bs) := by
          show _ = _
          rw [HD.out, List.take_of_length_le (by rw [HL.out]; omega)]; rfl
        go_wp2
        go_ret
        exact ⟨ret_u32 (by rw [E.out]), rfl⟩
end Go.Proofs.Ytlcnpeodhfdhlaa

/-! The contract of the document's own Sealed. -/
namespace Go.Proofs.Ytlcnpeodhfdhlaa
open Go.RowKit
open Go.CrcMath hiding AllB
set_option linter.unusedVariables false
theorem lit4 (w : World) (c : Nat) (hc : c < 4294967296) : (w.alloc (.cells #[.int .u8 ((c : Int) % 256), .int .u8 ((c : Int) / 256 % 256), .int .u8 ((c : Int) / 65536 % 256), .int .u8 ((c : Int) / 16777216)] 5)).ownsRow w.heap.size 5 1 (.slice (some ⟨w.heap.size, 0, none⟩) 4 4) 4 (vals (leB c)) := by
  have h := World.ownsRow_lit (e := 5) (size := 1) (base := w.heap.size) w (vals (leB c)).toArray 4 (Nat.le_refl _) (by decide) rfl
  have e3 : (((c / 16777216 % 256 : Nat)) : Int) = (c : Int) / 16777216 := by omega
  have e : (vals (leB c)).toArray = #[.int .u8 ((c : Int) % 256), .int .u8 ((c : Int) / 256 % 256), .int .u8 ((c : Int) / 65536 % 256), .int .u8 ((c : Int) / 16777216)] := by
    show #[byte _, byte _, byte _, byte _] = _
    unfold byte
    rw [e3]; rfl
  rw [e] at h
  have e2 : (vals (leB c)) = [.int .u8 ((c : Int) % 256), .int .u8 ((c : Int) / 256 % 256), .int .u8 ((c : Int) / 65536 % 256), .int .u8 ((c : Int) / 16777216)] := congrArg Array.toList e
  rw [e2]
  exact h
set_option maxHeartbeats 400000 in
theorem sealed_some (w : World) (a : Addr) (len cap : Nat) (bs : List Nat) (h : Byt w (some a) len cap bs) (hL : len ≤ 140737488355300) :
    Calls Try.prog 57 #[.slice (some a) len cap] w (GivesMade w (sealB bs)) := by
  obtain ⟨i0, hi, hz0, hz1, hz2⟩ := info_parts info5
  have HB := Lib.hid h
  clear h
  go_enter Try.func57, Try.ntmps57
  go_wp2_with fail
  refine (refCrc_any _ _ _ _ _ HB.out (by omega)).mono ?_
  rintro e w' ⟨rfl, rfl⟩
  have hsl := ofB_lt HB.out.all
  obtain ⟨c, hc⟩ : ∃ c, c = ofB bs := ⟨_, rfl⟩
  rw [← hc] at hsl ⊢
  have HCC := Lib.hid hc
  clear hc
  have HX := Lib.hid (lit4 w c hsl)
  have HB1 : Hid (Below w.heap.size w (w.alloc (.cells #[.int .u8 ((c : Int) % 256), .int .u8 ((c : Int) / 256 % 256), .int .u8 ((c : Int) / 65536 % 256), .int .u8 ((c : Int) / 16777216)] 5))) := (Below.refl _ _).alloc (Nat.le_refl _) _
  go_wp2_with (at_builtin; refine wpList_append_own _ rfl (.tmp 17) (.tmp 18) 26 rfl w.heap.size 5 i0 (.int .u8 0) 1 1 Try.underlying26 hi hz0 hz1 hz2 rfl (by decide) _ 4 (vals (leB c)) rfl HX.out a len cap (vals bs) rfl ?c1 ?c2 (vals_one bs) ?c3 ?c4 ?c5 ?_)
  case c1 => rw [length_vals, HB.out.length]; simp
  case c2 =>
    intro j u hj
    have hjl : j < bs.length := by
      have := (List.getElem?_eq_some_iff.1 hj).1
      rwa [length_vals] at this
    obtain ⟨a', ha', hs⟩ := HB.out.source (by have := HB.out.length; omega)
    obtain rfl := Option.some.inj ha'
    have h1 := hs j u hj
    rw [HB1.out.cell (World.block_lt_of_cell? w _ h1)]
    exact h1
  case c3 => unfold maxLen; omega
  case c4 => omega
  case c5 => simp
  · intro v' w1 hown' hgrow _
    have hlen := HB.out.length
    have R : Hid (Made w (sealB bs) v' w1) := by
      refine made_of ?_ (by rw [length_sealB]; omega) (HB1.out.grown hgrow (by simp) (by intro k hk; simp [Value.ownBlock] at hk; omega))
      have e : sealB bs = leB c ++ bs := by rw [HCC.out]; rfl
      rw [length_sealB, hlen, e, vals_append, Nat.add_comm len 4]
      exact hown'
    clear hown' hgrow hlen
    go_wp2
    go_ret
    exact ⟨_, rfl, R.out⟩
set_option maxHeartbeats 400000 in
theorem sealed_none (w : World) : Calls Try.prog 57 #[.slice none 0 0] w (GivesMade w (sealB [])) := by
  obtain ⟨i0, hi, hz0, hz1, hz2⟩ := info_parts info5
  have HB : Hid (Byt w none 0 0 []) := ⟨rfl, Nat.le_refl _, (fun x hx => by cases hx), .inl rfl⟩
  go_enter Try.func57, Try.ntmps57
  go_wp2_with fail
  refine (refCrc_any _ _ _ _ _ HB.out (by omega)).mono ?_
  rintro e w' ⟨rfl, rfl⟩
  have hsl := ofB_lt HB.out.all
  obtain ⟨c, hc⟩ : ∃ c, c = ofB [] := ⟨_, rfl⟩
  rw [← hc] at hsl ⊢
  have HCC := Lib.hid hc
  clear hc
  have HX := Lib.hid (lit4 w c hsl)
  have HB1 : Hid (Below w.heap.size w (w.alloc (.cells #[.int .u8 ((c : Int) % 256), .int .u8 ((c : Int) / 256 % 256), .int .u8 ((c : Int) / 65536 % 256), .int .u8 ((c : Int) / 16777216)] 5))) := (Below.refl _ _).alloc (Nat.le_refl _) _
  go_wp2_with (at_builtin; refine wpList_append_own_none rfl (.tmp 17) (.tmp 18) 26 rfl w.heap.size 5 i0 1 Try.underlying26 hi _ 4 (vals (leB c)) rfl HX.out rfl ?_)
  go_ret
  have R : Made w (sealB []) _ _ := made_of (by
    have e : sealB [] = leB c := by rw [HCC.out]; rfl
    rw [e]; exact HX.out) (by rw [length_sealB]; omega) HB1.out
  exact ⟨_, rfl, R⟩
theorem sealed_any (w : World) (ad : Option Addr) (len cap : Nat) (bs : List Nat) (h : Byt w ad len cap bs) (hn : ad = none → cap = 0) (hL : len ≤ 140737488355300) :
    Calls Try.prog 57 #[.slice ad len cap] w (GivesMade w (sealB bs)) := by
  rcases ad with _ | a
  · obtain rfl := hn rfl
    have hf := h.fits
    have hl := h.length
    obtain rfl : len = 0 := by omega
    obtain rfl : bs = [] := List.eq_nil_of_length_eq_zero hl
    exact sealed_none w
  · exact sealed_some w a len cap bs h hL
end Go.Proofs.Ytlcnpeodhfdhlaa

/-! The contracts of the code's Next and Of. -/
namespace Go.Proofs.Ytlcnpeodhfdhlaa
open Go.RowKit
open Go.CrcMath hiding AllB
set_option linter.unusedVariables false
set_option maxHeartbeats 400000 in
theorem next_any (c b : Nat) (w : World) (hc : c < 4294967296) (hb : b < 256) :
    Calls Try.prog 96 #[.int .u32 c, .int .u8 b] w fun e w' => e = .returned (.int .u32 (nxt c b : Nat)) ∧ w = w' := by
  have hx := xorc c b hc hb
  obtain ⟨x, hxe⟩ : ∃ x, x = c ^^^ b := ⟨_, rfl⟩
  have hxl : x < 4294967296 := by rw [hxe]; exact xor_lt hc (by omega)
  rw [← hxe] at hx
  have HX : Hid (x = c ^^^ b) := hxe
  clear hxe
  go_enter Try.func96, Try.ntmps96
  go_wp2
  go_loop [0, 10] (fun s i => ∃ k : Nat, k ≤ 8 ∧ i = .int .i64 k ∧ s = .int .u32 (bsteps k x : Nat)) (fun _ i => (8 - intOf i).toNat)
  case atStart => exact ⟨0, by omega, rfl, rfl⟩
  case round =>
    obtain ⟨k, hk, rfl, rfl⟩ := hrel
    have hl := bsteps_lt hxl k
    obtain ⟨d, hd⟩ : ∃ d, d = bsteps k x := ⟨_, rfl⟩
    rw [← hd] at hl ⊢
    have HD : Hid (d = bsteps k x) := hd
    clear hd hx
    have h1 := and1 d hl
    have h2 := xorp d hl
    by_cases hlt : k < 8
    · by_cases ho : d % 2 = 1
      · have hb1 : (((d % 2 : Nat) : Int) == 1) = true := by simp; omega
        have S : Hid (bsteps (k + 1) x = d / 2 ^^^ poly) := by show bstep (bsteps k x) = _; rw [← HD.out]; exact bstep_odd d ho
        clear ho
        go_wp2
        go_round
        case rel => exact ⟨k + 1, by omega, by go_num, by rw [S.out]⟩
        case measure => simp [intOf]; omega
      · have hb1 : (((d % 2 : Nat) : Int) == 1) = false := by simp; omega
        have S : Hid (bsteps (k + 1) x = d / 2) := by show bstep (bsteps k x) = _; rw [← HD.out]; exact bstep_even d ho
        clear ho
        go_wp2
        go_round
        case rel => exact ⟨k + 1, by omega, by go_num, by rw [S.out]; exact u32_eq (by omega)⟩
        case measure => simp [intOf]; omega
    · have E : Hid (d = nxt c b) := by
        have : k = 8 := by omega
        subst this
        show d = bsteps 8 (c ^^^ b)
        rw [HD.out, HX.out]
      go_wp2
      go_ret
      exact ⟨ret_u32 (by rw [E.out]), rfl⟩
set_option maxHeartbeats 400000 in
theorem of_any (w : World) (ad : Option Addr) (len cap : Nat) (bs : List Nat) (h : Byt w ad len cap bs) (hL : len ≤ 140737488355328) :
    Calls Try.prog 91 #[.slice ad len cap] w fun e w' => e = .returned (.int .u32 (ofB bs : Nat)) ∧ w = w' := by
  obtain ⟨hlen, hfit, hall, hcs⟩ := h
  rcases hcs with h0 | ⟨b, off, rfl, hcell⟩
  · subst h0
    obtain rfl : bs = [] := by simpa using hlen
    have E : Hid (ofB [] = 0) := by show _ = _; decide
    clear hlen hfit hall
    have hcp := xor00
    have hsg := usig
    go_enter Try.func91, Try.ntmps91
    go_wp2
    refine wp_loop_rounds 1 ?_
    rw [rounds_succ]
    go_wp2
    go_ret
    exact ⟨ret_u32 (by rw [E.out]; rfl), rfl⟩
  · have hmx : ∀ k, run full (bs.take k) < 4294967296 := fun k => run_lt _ _ full_lt (take_all hall k)
    have HM := Lib.hid hmx
    have HC := Lib.hid hcell
    have HA := Lib.hid hall
    have HL := Lib.hid hlen
    clear hmx hcell hall hlen
    go_enter Try.func91, Try.ntmps91
    go_wp2
    go_loop [3, 8] (fun s i => ∃ k : Nat, k ≤ len ∧ i = .int .i64 k ∧ s = .int .u32 (run full (bs.take k) : Nat)) (fun _ i => len - (intOf i).toNat)
    case atStart => exact ⟨0, by omega, rfl, rfl⟩
    case round =>
      obtain ⟨k, hk, rfl, rfl⟩ := hrel
      have hl := HM.out k
      obtain ⟨d, hd⟩ : ∃ d, d = run full (bs.take k) := ⟨_, rfl⟩
      rw [← hd] at hl ⊢
      have HD : Hid (d = run full (bs.take k)) := hd
      clear hd
      by_cases hlt : k < len
      · have hc := HC.out k hlt
        have hx8 := getD_all HA.out k
        obtain ⟨x, hx⟩ : ∃ x, x = bs.getD k 0 := ⟨_, rfl⟩
        rw [← hx] at hc hx8
        have S : Hid (run full (bs.take (k + 1)) = nxt d x) := by
          show _ = _
          rw [run_next _ _ _ (by rw [HL.out]; exact hlt), ← HD.out, ← hx]
        clear hx
        go_wp2_with (go_at_call 96; refine (next_any _ _ _ hl hx8).mono ?_; rintro e w' ⟨rfl, rfl⟩)
        go_round
        case rel => exact ⟨k + 1, by omega, by go_num, by rw [S.out]⟩
        case measure => simp [intOf]; omega
      · have hcp := cplc d hl
        have hsg := usig
        have E : Hid (cpl d = ofB bs) := by
          show _ = _
          rw [HD.out, List.take_of_length_le (by rw [HL.out]; omega)]; rfl
        go_wp2
        go_ret
        exact ⟨ret_u32 (by rw [E.out]), rfl⟩
end Go.Proofs.Ytlcnpeodhfdhlaa

/-! The contracts of the code's stored, Put and Check. -/
namespace Go.Proofs.Ytlcnpeodhfdhlaa
open Go.RowKit
open Go.CrcMath hiding AllB
set_option linter.unusedVariables false

theorem or_join (i d e : Nat) (hd : d < 2 ^ i) (h : e * 2 ^ i + d < 4294967296) : bits .or .u32 (d : Int) ((e * 2 ^ i : Nat) : Int) = ((d + e * 2 ^ i : Nat) : Int) := by
  rw [u32_or_nat d (e * 2 ^ i) (by omega) (by omega), Nat.or_comm, nat_join i (e * 2 ^ i) d (Nat.mul_mod_left _ _) hd, Nat.add_comm]
theorem or0 (x : Nat) (h : x < 256) : bits .or .u32 0 (x : Int) = (x : Int) := by
  have := u32_or_nat 0 x (by omega) (by omega)
  rw [Nat.zero_or] at this
  exact this
theorem or8 (d e : Nat) (hd : d < 256) (he : e < 256) : bits .or .u32 (d : Int) ((e : Int) * 256) = ((d + e * 256 : Nat) : Int) := or_join 8 d e hd (by omega)
theorem or16 (d e : Nat) (hd : d < 65536) (he : e < 256) : bits .or .u32 (d : Int) ((e : Int) * 65536) = ((d + e * 65536 : Nat) : Int) := or_join 16 d e hd (by omega)
theorem or24 (d e : Nat) (hd : d < 16777216) (he : e < 256) : bits .or .u32 (d : Int) ((e : Int) * 16777216) = ((d + e * 16777216 : Nat) : Int) := or_join 24 d e hd (by omega)
set_option maxHeartbeats 400000 in
theorem stored_any (w : World) (b off len cap : Nat) (x0 x1 x2 x3 : Nat) (h4 : 4 ≤ len) (hL : len ≤ 140737488355328)
    (c0 : w.cell? ⟨b, off, none⟩ = some (.int .u8 x0)) (c1 : w.cell? ⟨b, off + 1, none⟩ = some (.int .u8 x1)) (c2 : w.cell? ⟨b, off + 2, none⟩ = some (.int .u8 x2)) (c3 : w.cell? ⟨b, off + 3, none⟩ = some (.int .u8 x3))
    (h0 : x0 < 256) (h1 : x1 < 256) (h2 : x2 < 256) (h3 : x3 < 256) :
    Calls Try.prog 90 #[.slice (some ⟨b, off, none⟩) len cap] w fun e w' => e = .returned (.int .u32 (unl [x0, x1, x2, x3] : Nat)) ∧ w = w' := by
  go_enter Try.func90, Try.ntmps90
  go_wp2
  refine wp_loop_rounds 5 ?_
  rw [rounds_succ]
  go_wp2
  rw [rounds_succ]
  go_wp2
  rw [rounds_succ]
  go_wp2
  rw [rounds_succ]
  go_wp2
  rw [rounds_succ]
  go_wp2
  go_ret
  refine ⟨ret_u32 ?_, rfl⟩
  rw [or0 x0 h0, or8 x0 x1 h0 h1, or16 _ x2 (by omega) h2, or24 _ x3 (by omega) h3]
  simp only [unl]
  omega
theorem check_short (w : World) (ad : Option Addr) (len cap : Nat) (bs : List Nat) (h : Byt w ad len cap bs) (h4 : len < 4) :
    Calls Try.prog 76 #[.slice ad len cap] w fun e w' => e = .returned (.tuple #[.slice none 0 0, .bool false]) ∧ ∃ n, w' = w.drewN n := by
  have hd : decide ((len : Int) < 4) = true := by simp; omega
  go_enter Try.func76, Try.ntmps76
  go_wp2
  go_quiet (fail)
  go_wp2
  go_ret2
  exact ⟨rfl, _, rfl⟩

theorem Byt.four {w : World} {ad : Option Addr} {len cap : Nat} {bs : List Nat} (h : Byt w ad len cap bs) (h4 : 4 ≤ len) :
    ∃ b off x0 x1 x2 x3 r, ad = some ⟨b, off, none⟩ ∧ bs = x0 :: x1 :: x2 :: x3 :: r ∧ x0 < 256 ∧ x1 < 256 ∧ x2 < 256 ∧ x3 < 256 ∧ r.length = len - 4 ∧
      w.cell? ⟨b, off, none⟩ = some (.int .u8 x0) ∧ w.cell? ⟨b, off + 1, none⟩ = some (.int .u8 x1) ∧ w.cell? ⟨b, off + 2, none⟩ = some (.int .u8 x2) ∧ w.cell? ⟨b, off + 3, none⟩ = some (.int .u8 x3) ∧
      Byt w (some ⟨b, if cap = 4 then off else off + 4, none⟩) (len - 4) (cap - 4) r := by
  have hl := h.length
  have hf := h.fits
  obtain ⟨x0, x1, x2, x3, r, rfl⟩ := four_of (bs := bs) (by omega)
  simp only [List.length_cons] at hl
  rcases h.cells with h0 | ⟨b, off, rfl, hc⟩
  · omega
  have ha := h.all
  refine ⟨b, off, x0, x1, x2, x3, r, rfl, rfl, ha _ (by simp), ha _ (by simp), ha _ (by simp), ha _ (by simp), by omega, ?_, ?_, ?_, ?_, ?_⟩
  · simpa using hc 0 (by omega)
  · simpa using hc 1 (by omega)
  · simpa using hc 2 (by omega)
  · simpa using hc 3 (by omega)
  · refine ⟨by omega, by omega, fun x hx => ha x (by simp [hx]), ?_⟩
    by_cases h5 : len - 4 = 0
    · exact .inl h5
    · refine .inr ⟨b, off + 4, by rw [if_neg (by omega)], fun i hi => ?_⟩
      have := hc (4 + i) (by omega)
      rw [Nat.add_assoc, this]
      rw [Nat.add_comm 4 i]
      rfl
theorem run_from4 (b off len cap o4 : Nat) (h : 4 ≤ len) (ho : o4 = if cap = 4 then off else off + 4) (w : World) :
    (Instr.slice 26 (.slice (some ⟨b, off, none⟩) len cap) (some (.int .i64 4)) none none).run Try.prog w = .ok (.slice (some ⟨b, o4, none⟩) (len - 4) (cap - 4)) w := by
  rw [ho]; exact run_from b off len cap 4 h w
theorem splice_zero (n : Nat) (bs : List Nat) (h : bs.length = n) : splice (vals (List.replicate n 0)) 0 (vals bs) = vals bs := by
  subst h
  rw [splice, List.take_zero, List.drop_eq_nil_of_le (by simp [vals]), List.append_nil, List.nil_append]
set_option maxHeartbeats 400000 in
theorem check_long (w : World) (ad : Option Addr) (len cap : Nat) (bs : List Nat) (h : Byt w ad len cap bs) (h4 : 4 ≤ len) (hL : len ≤ 140737488355328) :
    Calls Try.prog 76 #[.slice ad len cap] w fun e w' => (okB bs = false → e = .returned (.tuple #[.slice none 0 0, .bool false]) ∧ Below w.heap.size w w') ∧
      (okB bs = true → ∃ g, e = .returned (.tuple #[.slice (some ⟨g, 0, none⟩) (len - 4) (len - 4), .bool true]) ∧ w.heap.size ≤ g ∧ Own w' g (bs.drop 4) ∧ Below w.heap.size w w') := by
  obtain ⟨i0, hi, hz0, hz1, hz2⟩ := info_parts info5
  obtain ⟨b, off, x0, x1, x2, x3, r, rfl, rfl, l0, l1, l2, l3, hr, c0, c1, c2, c3, hB⟩ := h.four h4
  have hd : decide ((len : Int) < 4) = false := by simp; omega
  obtain ⟨o4, ho4⟩ : ∃ o4, o4 = if cap = 4 then off else off + 4 := ⟨_, rfl⟩
  rw [← ho4] at hB
  have hsl := run_from4 b off len cap o4 h4 ho4
  have hok : okB (x0 :: x1 :: x2 :: x3 :: r) = decide (unl [x0, x1, x2, x3] = ofB r) := by rw [okB_long (by simp)]; rfl
  rw [hok]
  have HU : ∃ u, u = unl [x0, x1, x2, x3] := ⟨_, rfl⟩
  obtain ⟨u, hu⟩ := HU
  have HV : ∃ v, v = ofB r := ⟨_, rfl⟩
  obtain ⟨v, hv⟩ := HV
  rw [← hu, ← hv]
  have K18 : ∀ n, Calls Try.prog 90 #[.slice (some ⟨b, off, none⟩) len cap] (w.drewN n) fun e w' => e = .returned (.int .u32 u) ∧ w' = w.drewN n := fun n => by
    rw [hu]
    exact (stored_any _ _ _ _ _ x0 x1 x2 x3 h4 hL (by simpa using c0) (by simpa using c1) (by simpa using c2) (by simpa using c3) l0 l1 l2 l3).mono fun e w' ⟨h1, h2⟩ => ⟨h1, h2.symm⟩
  have K13 : ∀ n, Calls Try.prog 91 #[.slice (some ⟨b, o4, none⟩) (len - 4) (cap - 4)] (w.drewN n) fun e w' => e = .returned (.int .u32 v) ∧ w' = w.drewN n := fun n => by
    rw [hv]
    exact (of_any _ _ _ _ r (hB.drewN _) (by omega)).mono fun e w' ⟨h1, h2⟩ => ⟨h1, h2.symm⟩
  have HK18 := Lib.hid K18
  have HK13 := Lib.hid K13
  have HB := Lib.hid hB
  have HR := Lib.hid hr
  clear hB ho4 h hok hu hv K18 K13 c0 c1 c2 c3 hr
  by_cases hc : u = v
  · subst hc
    go_enter Try.func76, Try.ntmps76
    go_wp2
    go_quiet (first | (go_at_call 90; exact Calls.quiet_of_same (HK18.out _)) | (go_at_call 91; exact Calls.quiet_of_same (HK13.out _)))
    go_wp2_with (first | (at_make; refine wpList_make_full _ rfl _ _ 26 rfl w.heap.size 5 i0 (.int .u8 0) 1 Try.underlying26 hi hz0 hz1 .i64 .i64 _ _ (len - 4) rfl rfl (by omega) (by omega) (by rw [hz2]; omega) (by unfold maxLen; omega) (Nat.le_refl _) ?_; intro w0 hown0 hgrow0) | (with_reducible refine wpList_copy_splice rfl (.tmp 20) (.tmp 22) 26 26 rfl 5 Try.underlying26 size5 _ _ _ _ _ _ rfl rfl w.heap.size 0 (vals (List.replicate (len - 4) 0)) 5 ?_ (vals r) ?_ ?_ ?_ (vals_one r) w.heap.size w ?_ (Nat.le_refl _) ?_))
    · exact own_zero (own_made hown0)
    · rw [length_vals, HR.out]; simp
    · intro hp
      rw [length_vals, HR.out] at hp
      have hb0 : Below w.heap.size w w0 := (below_drewN (Below.refl _ _) nq).grown hgrow0 (Nat.le_refl _) (by simp)
      exact source_at ((HB.out.keep hb0 (Nat.le_refl _)).source hp)
    · rw [length_vals, length_vals, HR.out]; simp
    · exact (below_drewN (Below.refl _ _) nq).grown hgrow0 (Nat.le_refl _) (by simp)
    · intro w2 HG2 hB2
      have R : Hid (Own w2 w.heap.size r) := by
        have h1 := HG2.out
        rw [splice_zero _ _ HR.out] at h1
        exact h1
      clear HG2
      go_wp2
      go_ret2
      exact ⟨fun h => absurd h (by simp), fun _ => ⟨w.heap.size, rfl, Nat.le_refl _, R.out, hB2⟩⟩
  · have hne : ((u : Int) != (v : Int)) = true := by simp; omega
    go_enter Try.func76, Try.ntmps76
    go_wp2
    go_quiet (first | (go_at_call 90; exact Calls.quiet_of_same (HK18.out _)) | (go_at_call 91; exact Calls.quiet_of_same (HK13.out _)))
    go_wp2
    go_ret2
    exact ⟨fun _ => ⟨rfl, below_drewN (Below.refl _ _) _⟩, fun h => absurd (of_decide_eq_true h) hc⟩
end Go.Proofs.Ytlcnpeodhfdhlaa

/-! The contract of the document's own 'Unseal'. -/
namespace Go.Proofs.Ytlcnpeodhfdhlaa
open Go.RowKit Go.CrcMath
set_option linter.unusedVariables false

theorem unseal_short (w : World) (ad : Option Addr) (len cap : Nat) (bs : List Nat) (h : Byt w ad len cap bs) (h4 : len < 4) :
    Calls Try.prog 58 #[.slice ad len cap] w fun e w' => e = .returned (.tuple #[.slice none 0 0, .bool false]) ∧ ∃ n, w' = w.drewN n := by
  have hd : decide ((len : Int) < 4) = true := by simp; omega
  go_enter Try.func58, Try.ntmps58
  go_wp2
  go_quiet (fail)
  go_wp2
  go_ret2
  exact ⟨rfl, _, rfl⟩

set_option maxRecDepth 100000 in
set_option maxHeartbeats 1000000 in
theorem unseal_long (w : World) (ad : Option Addr) (len cap : Nat) (bs : List Nat) (h : Byt w ad len cap bs) (h4 : 4 ≤ len) (hL : len ≤ 140737488355300) :
    Calls Try.prog 58 #[.slice ad len cap] w fun e w' => (okB bs = false → e = .returned (.tuple #[.slice none 0 0, .bool false]) ∧ Below w.heap.size w w') ∧
      (okB bs = true → ∃ v, e = .returned (.tuple #[v, .bool true]) ∧ Made w (bs.drop 4) v w') := by
  obtain ⟨i0, hi, hz0, hz1, hz2⟩ := info_parts info5
  have hBs := h
  obtain ⟨b, off, x0, x1, x2, x3, r, rfl, hbs, l0, l1, l2, l3, hr, c0, c1, c2, c3, hB⟩ := h.four h4
  have hd : decide ((len : Int) < 4) = false := by simp; omega
  obtain ⟨o4, ho4⟩ : ∃ o4, o4 = if cap = 4 then off else off + 4 := ⟨_, rfl⟩
  rw [← ho4] at hB
  have hsl := run_from4 b off len cap o4 h4 ho4
  obtain ⟨s1, hs1⟩ : ∃ s1, s1 = str (sealB r) := ⟨_, rfl⟩
  obtain ⟨s2, hs2⟩ : ∃ s2, s2 = str bs := ⟨_, rfl⟩
  have K7 : ∀ W, Below w.heap.size w W → Calls Try.prog 57 #[.slice (some ⟨b, o4, none⟩) (len - 4) (cap - 4)] W fun e w' => ∃ g cp, e = .returned (.slice (some ⟨g, 0, none⟩) len cp) ∧ Hid (Below w.heap.size w w') ∧
      (convert 26 9 (.slice (some ⟨g, 0, none⟩) len cp)).run Try.prog w' = .ok (.string s1) w' ∧ (convert 26 9 (.slice (some ⟨b, off, none⟩) len cap)).run Try.prog w' = .ok (.string s2) w' := by
    intro W hW
    refine (sealed_some W ⟨b, o4, none⟩ (len - 4) (cap - 4) r (hB.keep hW (Nat.le_refl _)) (by omega)).mono ?_
    rintro e w' ⟨v, rfl, g, cp, rfl, hcp, hg, hp, hb⟩
    have hl : (sealB r).length = len := by rw [length_sealB]; omega
    have hb2 : Below w.heap.size w w' := hW.trans (hb.mono hW.size)
    rw [hl] at hcp ⊢
    refine ⟨g, cp, rfl, hb2, run_str_at ?_ hs1, run_str_at (hBs.keep hb2 (Nat.le_refl _)) hs2⟩
    have := hp.byt (sealB_all hB.all) cp (by omega)
    rw [hl] at this
    exact this
  have HK := Lib.hid K7
  have hcv0 : (convert 26 9 (.slice (some ⟨b, off, none⟩) len cap)).run Try.prog w = .ok (.string s2) w := run_str_at hBs hs2
  have hcv1 : (convert 26 9 (.slice (some ⟨b, off, none⟩) len cap)).run Try.prog w.drew = .ok (.string s2) w.drew := run_str_at (hBs.keep ((Below.refl _ _).drew) (Nat.le_refl _)) hs2
  have HB := Lib.hid hB
  have HR := Lib.hid hr
  have HBs := Lib.hid hBs
  have H1 := Lib.hid hs1
  have H2 := Lib.hid hs2
  clear hB hBs ho4 h hs1 hs2 K7 c0 c1 c2 c3 hr
  cases hok : okB bs
  · have hne : (s1.toList == s2.toList) = false := by
      have h1 : sealB r ≠ bs := fun e => by
        have h3 := (sealB_drop (bs := bs) (by rw [HBs.out.length]; exact h4) HBs.out.all).1 (by rw [hbs]; rw [hbs] at e; exact e)
        rw [hok] at h3; cases h3
      have := str_differ (sealB_all HB.out.all) HBs.out.all h1
      rw [← H1.out, ← H2.out] at this
      exact this
    clear hok hbs
    go_enter Try.func58, Try.ntmps58
    go_wp2
    go_region_with (go_at_call 57; refine (HK.out _ ?_).mono ?_; exact (Below.refl _ _).drew; rintro e w1 ⟨g, cp, rfl, hb1, hca, hcb⟩)
    all_goals
      go_wp2
      go_ret2
      exact ⟨fun _ => ⟨rfl, hb1.out⟩, fun h => by cases h⟩
  · have heq : (s1.toList == s2.toList) = true := by
      have h1 : sealB r = bs := by
        have h3 := (sealB_drop (bs := bs) (by rw [HBs.out.length]; exact h4) HBs.out.all).2 hok
        rw [hbs] at h3 ⊢; exact h3
      rw [H1.out, H2.out, h1, str_same]
    have hdr : Hid (bs.drop 4 = r) := by show _ = _; rw [hbs]; rfl
    clear hok hbs
    go_enter Try.func58, Try.ntmps58
    go_wp2
    go_region_with (go_at_call 57; refine (HK.out _ ?_).mono ?_; exact (Below.refl _ _).drew; rintro e w1 ⟨g, cp, rfl, hb1, hca, hcb⟩)
    all_goals
      have hb2 : Below w.heap.size w (w1.alloc (.cells #[] 5)) := hb1.out.alloc hb1.out.size _
      have HB2 := Lib.hid hb2
      have HO : Hid ((w1.alloc (.cells #[] 5)).ownsRow w.heap.size 5 1 (.slice (some ⟨w1.heap.size, 0, none⟩) 0 0) 0 []) := World.ownsRow_lit (e := 5) (size := 1) w1 #[] 0 hb1.out.size (by decide) rfl
      clear hb2
      go_wp2_with (at_builtin; refine wpList_append_own _ rfl (.tmp 16) (.tmp 18) 26 rfl w.heap.size 5 i0 (.int .u8 0) 1 1 Try.underlying26 hi hz0 hz1 hz2 rfl (by decide) _ 0 [] rfl HO.out ⟨b, o4, none⟩ (len - 4) (cap - 4) (vals r) rfl (by rw [length_vals, HR.out]; simp) (news_of (HB.out.keep HB2.out (Nat.le_refl _))) (vals_one r) (by unfold maxLen; omega) (by omega) HB2.out.size ?_)
      intro v' w2 hown' hgrow hnn
      have R : Hid (Made w (bs.drop 4) v' w2) := by
        show Made _ _ _ _
        rw [hdr.out]
        refine made_some (by simpa [HR.out] using hown') hnn (HB2.out.grown hgrow HB2.out.size (by intro k hk; simp [Value.ownBlock] at hk; have := hb1.out.size; omega))
      clear hown' hgrow hnn
      go_wp2
      go_ret2
      exact ⟨(fun h => by cases h), fun _ => ⟨v', rfl, R.out⟩⟩
end Go.Proofs.Ytlcnpeodhfdhlaa
