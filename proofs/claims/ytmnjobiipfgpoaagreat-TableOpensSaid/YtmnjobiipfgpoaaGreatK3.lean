/- Parts of a proof, merged: BatInner, CrcCommon, CrcOf, CrcSeal, SeqRight, CrcRef, CrcSealed, BatWrite, BatUse, BatCodeA, CrcUnseal, BatRead. -/
import Derived.Laws.ResultCell
import Derived.Deep.RegionHeld3
import Derived.Deep.CutRange
import Derived.Outline
import Derived.Deep.QuietTactic
import Derived.BigQuiet
import Derived.Test.YtmnjobiipfgpoaaGreatRows
import Derived.WalkKit
import Derived.IntWalk
import Derived.Lib.Hide
import Derived.Deep.RegionWith
import Derived.Test.YtmnjobiipfgpoaaGreatK2
import Derived.Test.YtmnjobiipfgpoaaGreatK1
namespace Go.Proofs.YtmnjobiipfgpoaaGreat
open Go.RowKit
open Go.SeqMath
open Go.BatMath hiding AllB getD_lt take_all
open Go.VarMath (longB length_longB textB)
set_option linter.unusedVariables false

/-- The two boxes of the walk: the batch that is being read, and the result that is none yet. -/
structure Two (w : World) (p e s : Int) (t : Bool) (m : Int) (v : Value) (W : World) : Prop where
  bx : BoxAt W (w.heap.size + 1) 0 p e s t m v
  rs : BoxAt W w.heap.size 0 0 0 0 false 0 (.slice none 0 0)
  bel : Below w.heap.size w W
theorem Two.sz {w W : World} {p e s : Int} {t : Bool} {m : Int} {v : Value} (h : Two w p e s t m v W) : w.heap.size + 1 + 1 ≤ W.heap.size := h.bx.lt
theorem Two.drew {w W : World} {p e s : Int} {t : Bool} {m : Int} {v : Value} (h : Two w p e s t m v W) : Two w p e s t m v W.drew := ⟨h.bx, h.rs, h.bel.drew⟩
theorem Two.s1 {w W : World} {p e s : Int} {t : Bool} {m : Int} {v : Value} (h : Two w p e s t m v W) (n : Int) : Two w n e s t m v (W.setCell ⟨w.heap.size + 1, 1, none⟩ (.int .i64 n)) := ⟨h.bx.s1 n, h.rs.off (by omega) _, h.bel.setCell (Nat.le_succ _) _⟩
theorem Two.s2 {w W : World} {p e s : Int} {t : Bool} {m : Int} {v : Value} (h : Two w p e s t m v W) (n : Int) : Two w p n s t m v (W.setCell ⟨w.heap.size + 1, 2, none⟩ (.int .i64 n)) := ⟨h.bx.s2 n, h.rs.off (by omega) _, h.bel.setCell (Nat.le_succ _) _⟩
theorem Two.s3 {w W : World} {p e s : Int} {t : Bool} {m : Int} {v : Value} (h : Two w p e s t m v W) (n : Int) : Two w p e n t m v (W.setCell ⟨w.heap.size + 1, 3, none⟩ (.int .i64 n)) := ⟨h.bx.s3 n, h.rs.off (by omega) _, h.bel.setCell (Nat.le_succ _) _⟩
theorem Two.s6 {w W : World} {p e s : Int} {t : Bool} {m : Int} {v : Value} (h : Two w p e s t m v W) (n : Value) : Two w p e s t m n (W.setCell ⟨w.heap.size + 1, 6, none⟩ n) := ⟨h.bx.s6 n, h.rs.off (by omega) _, h.bel.setCell (Nat.le_succ _) _⟩
theorem Two.on {w W W' : World} {p e s : Int} {t : Bool} {m : Int} {v : Value} (h : Two w p e s t m v W) (hb : Below W.heap.size W W') : Two w p e s t m v W' := ⟨h.bx.on hb, h.rs.on hb, h.bel.trans (hb.mono h.bel.size)⟩
theorem Two.grown {w W W' : World} {p e s : Int} {t : Bool} {m : Int} {u v : Value} {l : List Rc} (h : Two w p e s t m u W) (ho : OwnRecs W (w.heap.size + 1 + 1) v l) (hg : W.grownBy W' v.ownBlock) : Two w p e s t m u W' :=
  ⟨h.bx.grown ho (by omega) hg, h.rs.grown ho (by omega) hg, Below.recs h.bel ho (by omega) h.bel.size hg⟩
/-- A cell of a block below the records' is written. -/
theorem RecsAt.set {w : World} {base j len cap : Nat} {ad : Option Addr} {l : List Rc} {u : Value} (h : RecsAt w ad len cap l) (hb : ∀ a, ad = some a → base + 1 + 1 ≤ a.block) : RecsAt (w.setCell ⟨base, j, none⟩ u) ad len cap l := by
  refine ⟨h.length, h.fits, h.room, ?_⟩
  rcases h.cells with h0 | ⟨b, off, e, hlt, hc⟩
  · exact .inl h0
  · have hne : b ≠ base := by have := hb _ e; simp only at this; omega
    have hx : ∀ i, (w.setCell ⟨base, j, none⟩ u).cell? ⟨b, i, none⟩ = w.cell? ⟨b, i, none⟩ := fun i => World.cell?_of_block (a := ⟨b, i, none⟩) (by
      show (w.heap.modify base _)[b]? = _
      rw [Array.getElem?_modify, if_neg (Ne.symm hne)])
    refine .inr ⟨b, off, e, by simpa using hlt, fun i r hi => ?_⟩
    rw [hx, hx]
    exact hc i r hi
end Go.Proofs.YtmnjobiipfgpoaaGreat
namespace Go.Proofs.YtmnjobiipfgpoaaGreat
open Go.RowKit
open Go.CrcMath hiding AllB
set_option linter.unusedVariables false

theorem xorc (c b : Nat) (hc : c < 4294967296) (hb : b < 256) : bits .xor .u32 (c : Int) (b : Int) = ((c ^^^ b : Nat) : Int) := u32_xor_nat c b hc (by omega)
theorem and1 (d : Nat) (h : d < 4294967296) : bits .and .u32 (d : Int) 1 = ((d % 2 : Nat) : Int) := by
  have := u32_and_nat d 1 h (by omega)
  rw [nat_mask1] at this
  exact this
theorem xorp (d : Nat) (h : d < 4294967296) : bits .xor .u32 ((d : Int) / 2) 2197175160 = ((d / 2 ^^^ poly : Nat) : Int) := by
  have := u32_xor_nat (d / 2) 2197175160 (by omega) (by omega)
  exact this
theorem bstep_odd (d : Nat) (h : d % 2 = 1) : bstep d = d / 2 ^^^ poly := if_pos h
theorem bstep_even (d : Nat) (h : ¬ d % 2 = 1) : bstep d = d / 2 := if_neg h
theorem u32_eq {a b : Int} (h : a = b) : Value.int .u32 a = Value.int .u32 b := by rw [h]
theorem ret_u32 {a b : Int} (h : a = b) : Ending.returned (.int .u32 a) = .returned (.int .u32 b) := by rw [h]


theorem cplc (c : Nat) (h : c < 4294967296) : bits .xor .u32 IntKind.u32.max (c : Int) = ((cpl c : Nat) : Int) := by
  have e : IntKind.u32.max = ((full : Nat) : Int) := by decide
  rw [e, u32_xor_nat full c full_lt h, cpl_eq]
theorem usig : IntKind.u32.signed = false := rfl
theorem xor00 : bits .xor .u32 IntKind.u32.max 4294967295 = 0 := by decide
theorem run_next (c : Nat) (bs : List Nat) (k : Nat) (h : k < bs.length) : run c (bs.take (k + 1)) = nxt (run c (bs.take k)) (bs.getD k 0) := by
  rw [List.take_succ_eq_append_getElem h, run_snoc, List.getD_eq_getElem?_getD, List.getElem?_eq_getElem h]; rfl
end Go.Proofs.YtmnjobiipfgpoaaGreat
namespace Go.Proofs.YtmnjobiipfgpoaaGreat
open Go.RowKit
open Go.CrcMath hiding AllB
set_option linter.unusedVariables false

theorem Byt.four {w : World} {ad : Option Addr} {len cap : Nat} {bs : List Nat} (h : Byt w ad len cap bs) (h4 : 4 ≤ len) :
    ∃ b off x0 x1 x2 x3 r, ad = some ⟨b, off, none⟩ ∧ bs = x0 :: x1 :: x2 :: x3 :: r ∧ x0 < 256 ∧ x1 < 256 ∧ x2 < 256 ∧ x3 < 256 ∧ r.length = len - 4 ∧
      w.cell? ⟨b, off, none⟩ = some (.int .u8 x0) ∧ w.cell? ⟨b, off + 1, none⟩ = some (.int .u8 x1) ∧ w.cell? ⟨b, off + 2, none⟩ = some (.int .u8 x2) ∧ w.cell? ⟨b, off + 3, none⟩ = some (.int .u8 x3) ∧
      Byt w (some ⟨b, if cap = 4 then off else off + 4, none⟩) (len - 4) (cap - 4) r := by
  have hl := h.length
  have hf := h.fits
  obtain ⟨x0, x1, x2, x3, r, rfl⟩ := four_of (bs := bs) (by omega)
  simp only [List.length_cons] at hl
  rcases h.cells with h0 | ⟨b, off, rfl, hc⟩
  · omega
  have ha := h.all
  refine ⟨b, off, x0, x1, x2, x3, r, rfl, rfl, ha _ (by simp), ha _ (by simp), ha _ (by simp), ha _ (by simp), by omega, ?_, ?_, ?_, ?_, ?_⟩
  · simpa using hc 0 (by omega)
  · simpa using hc 1 (by omega)
  · simpa using hc 2 (by omega)
  · simpa using hc 3 (by omega)
  · refine ⟨by omega, by omega, fun x hx => ha x (by simp [hx]), ?_⟩
    by_cases h5 : len - 4 = 0
    · exact .inl h5
    · refine .inr ⟨b, off + 4, by rw [if_neg (by omega)], fun i hi => ?_⟩
      have := hc (4 + i) (by omega)
      rw [Nat.add_assoc, this]
      rw [Nat.add_comm 4 i]
      rfl
end Go.Proofs.YtmnjobiipfgpoaaGreat
namespace Go.Proofs.YtmnjobiipfgpoaaGreat
open Go.RowKit
open Go.SeqMath
set_option linter.unusedVariables false

theorem seq_ret {a b : Int} (h : a = b) : Ending.returned (.int .i64 a) = .returned (.int .i64 b) := by rw [h]
theorem seq_right (n : Int) (w : World) (r : Bool) (hr : rightB n = r) :
    Calls Tryz.prog 77 #[.int .i64 n] w fun e w' => e = .returned (.bool r) ∧ w = w' := by
  subst hr
  by_cases h0 : 0 ≤ n
  · by_cases h1 : n ≤ 2147483647
    · rw [right_yes h0 h1]
      go_enter Tryz.func77, Tryz.ntmps77
      go_wp2
      go_ret
      exact ⟨rfl, rfl⟩
    · have h1' : 2147483647 < n := by omega
      rw [right_no (.inr h1')]
      go_enter Tryz.func77, Tryz.ntmps77
      go_wp2
      go_ret
      exact ⟨rfl, rfl⟩
  · have h0' : n < 0 := by omega
    rw [right_no (.inl h0')]
    go_enter Tryz.func77, Tryz.ntmps77
    go_wp2
    go_ret
    exact ⟨rfl, rfl⟩
end Go.Proofs.YtmnjobiipfgpoaaGreat
namespace Go.Proofs.YtmnjobiipfgpoaaGreat
open Go.RowKit
open Go.CrcMath hiding AllB
set_option linter.unusedVariables false
set_option maxHeartbeats 400000 in
theorem refNext_any (c b : Nat) (w : World) (hc : c < 4294967296) (hb : b < 256) :
    Calls Tryz.prog 114 #[.int .u32 c, .int .u8 b] w fun e w' => e = .returned (.int .u32 (nxt c b : Nat)) ∧ w = w' := by
  have hx := xorc c b hc hb
  obtain ⟨x, hxe⟩ : ∃ x, x = c ^^^ b := ⟨_, rfl⟩
  have hxl : x < 4294967296 := by rw [hxe]; exact xor_lt hc (by omega)
  rw [← hxe] at hx
  have HX : Hid (x = c ^^^ b) := hxe
  clear hxe
  go_enter Tryz.func114, Tryz.ntmps114
  go_wp2
  go_loop [0, 5] (fun s i => ∃ k : Nat, k ≤ 8 ∧ i = .int .i64 k ∧ s = .int .u32 (bsteps k x : Nat)) (fun _ i => (8 - intOf i).toNat)
  case atStart => exact ⟨0, by omega, rfl, rfl⟩
  case round =>
    obtain ⟨k, hk, rfl, rfl⟩ := hrel
    have hl := bsteps_lt hxl k
    obtain ⟨d, hd⟩ : ∃ d, d = bsteps k x := ⟨_, rfl⟩
    rw [← hd] at hl ⊢
    have HD : Hid (d = bsteps k x) := hd
    clear hd hx
    have h1 := and1 d hl
    have h2 := xorp d hl
    by_cases hlt : k < 8
    · by_cases ho : d % 2 = 1
      · have hb1 : (((d % 2 : Nat) : Int) == 1) = true := by simp; omega
        have S : Hid (bsteps (k + 1) x = d / 2 ^^^ poly) := by show bstep (bsteps k x) = _; rw [← HD.out]; exact bstep_odd d ho
        clear ho
        go_wp2
        go_round
        case rel => exact ⟨k + 1, by omega, by go_num, by rw [S.out]⟩
        case measure => simp [intOf]; omega
      · have hb1 : (((d % 2 : Nat) : Int) == 1) = false := by simp; omega
        have S : Hid (bsteps (k + 1) x = d / 2) := by show bstep (bsteps k x) = _; rw [← HD.out]; exact bstep_even d ho
        clear ho
        go_wp2
        go_round
        case rel => exact ⟨k + 1, by omega, by go_num, by rw [S.out]; exact u32_eq (by omega)⟩
        case measure => simp [intOf]; omega
    · have E : Hid (d = nxt c b) := by
        have : k = 8 := by omega
        subst this
        show d = bsteps 8 (c ^^^ b)
        rw [HD.out, HX.out]
      go_wp2
      go_ret
      exact ⟨ret_u32 (by rw [E.out]), rfl⟩
set_option maxHeartbeats 400000 in
theorem refCrc_any (w : World) (ad : Option Addr) (len cap : Nat) (bs : List Nat) (h : Byt w ad len cap bs) (hL : len ≤ 140737488355328) :
    Calls Tryz.prog 105 #[.slice ad len cap] w fun e w' => e = .returned (.int .u32 (ofB bs : Nat)) ∧ w = w' := by
  obtain ⟨hlen, hfit, hall, hcs⟩ := h
  rcases hcs with h0 | ⟨b, off, rfl, hcell⟩
  · subst h0
    obtain rfl : bs = [] := by simpa using hlen
    have E : Hid (ofB [] = 0) := by show _ = _; decide
    clear hlen hfit hall
    have hcp := xor00
    have hsg := usig
    go_enter Tryz.func105, Tryz.ntmps105
    go_wp2
    refine wp_loop_rounds 1 ?_
    rw [rounds_succ]
    go_wp2
    go_ret
    exact ⟨ret_u32 (by rw [E.out]; rfl), rfl⟩
  · have hmx : ∀ k, run full (bs.take k) < 4294967296 := fun k => run_lt _ _ full_lt (take_all hall k)
    have HM := Lib.hid hmx
    have HC := Lib.hid hcell
    have HA := Lib.hid hall
    have HL := Lib.hid hlen
    clear hmx hcell hall hlen
    go_enter Tryz.func105, Tryz.ntmps105
    go_wp2
    go_loop [3, 4] (fun s i => ∃ k : Nat, k ≤ len ∧ i = .int .i64 k ∧ s = .int .u32 (run full (bs.take k) : Nat)) (fun _ i => len - (intOf i).toNat)
    case atStart => exact ⟨0, by omega, rfl, rfl⟩
    case round =>
      obtain ⟨k, hk, rfl, rfl⟩ := hrel
      have hl := HM.out k
      obtain ⟨d, hd⟩ : ∃ d, d = run full (bs.take k) := ⟨_, rfl⟩
      rw [← hd] at hl ⊢
      have HD : Hid (d = run full (bs.take k)) := hd
      clear hd
      by_cases hlt : k < len
      · have hc := HC.out k hlt
        have hx8 := getD_all HA.out k
        obtain ⟨x, hx⟩ : ∃ x, x = bs.getD k 0 := ⟨_, rfl⟩
        rw [← hx] at hc hx8
        have S : Hid (run full (bs.take (k + 1)) = nxt d x) := by
          show _ = _
          rw [run_next _ _ _ (by rw [HL.out]; exact hlt), ← HD.out, ← hx]
        clear hx
        go_wp2_with (go_at_call 114; refine (refNext_any _ _ _ hl hx8).mono ?_; rintro e w' ⟨rfl, rfl⟩)
        go_round
        case rel => exact ⟨k + 1, by omega, by go_num, by rw [S.out]⟩
        case measure => simp [intOf]; omega
      · have hcp := cplc d hl
        have hsg := usig
        have E : Hid (cpl d = ofB bs) := by
          show _ = _
          rw [HD.out, List.take_of_length_le (by rw [HL.out]; omega)]; rfl
        go_wp2
        go_ret
        exact ⟨ret_u32 (by rw [E.out]), rfl⟩
end Go.Proofs.YtmnjobiipfgpoaaGreat
namespace Go.Proofs.YtmnjobiipfgpoaaGreat
open Go.RowKit
open Go.CrcMath hiding AllB
set_option linter.unusedVariables false
theorem lit4 (w : World) (c : Nat) (hc : c < 4294967296) : (w.alloc (.cells #[.int .u8 ((c : Int) % 256), .int .u8 ((c : Int) / 256 % 256), .int .u8 ((c : Int) / 65536 % 256), .int .u8 ((c : Int) / 16777216)] 5)).ownsRow w.heap.size 5 1 (.slice (some ⟨w.heap.size, 0, none⟩) 4 4) 4 (vals (leB c)) := by
  have h := World.ownsRow_lit (e := 5) (size := 1) (base := w.heap.size) w (vals (leB c)).toArray 4 (Nat.le_refl _) (by decide) rfl
  have e3 : (((c / 16777216 % 256 : Nat)) : Int) = (c : Int) / 16777216 := by omega
  have e : (vals (leB c)).toArray = #[.int .u8 ((c : Int) % 256), .int .u8 ((c : Int) / 256 % 256), .int .u8 ((c : Int) / 65536 % 256), .int .u8 ((c : Int) / 16777216)] := by
    show #[byte _, byte _, byte _, byte _] = _
    unfold byte
    rw [e3]; rfl
  rw [e] at h
  have e2 : (vals (leB c)) = [.int .u8 ((c : Int) % 256), .int .u8 ((c : Int) / 256 % 256), .int .u8 ((c : Int) / 65536 % 256), .int .u8 ((c : Int) / 16777216)] := congrArg Array.toList e
  rw [e2]
  exact h
set_option maxHeartbeats 400000 in
theorem sealed_some (w : World) (a : Addr) (len cap : Nat) (bs : List Nat) (h : Byt w (some a) len cap bs) (hL : len ≤ 140737488355300) :
    Calls Tryz.prog 86 #[.slice (some a) len cap] w (GivesMade w (sealB bs)) := by
  obtain ⟨i0, hi, hz0, hz1, hz2⟩ := info_parts info5
  have HB := Lib.hid h
  clear h
  go_enter Tryz.func86, Tryz.ntmps86
  go_wp2_with fail
  refine (refCrc_any _ _ _ _ _ HB.out (by omega)).mono ?_
  rintro e w' ⟨rfl, rfl⟩
  have hsl := ofB_lt HB.out.all
  obtain ⟨c, hc⟩ : ∃ c, c = ofB bs := ⟨_, rfl⟩
  rw [← hc] at hsl ⊢
  have HCC := Lib.hid hc
  clear hc
  have HX := Lib.hid (lit4 w c hsl)
  have HB1 : Hid (Below w.heap.size w (w.alloc (.cells #[.int .u8 ((c : Int) % 256), .int .u8 ((c : Int) / 256 % 256), .int .u8 ((c : Int) / 65536 % 256), .int .u8 ((c : Int) / 16777216)] 5))) := (Below.refl _ _).alloc (Nat.le_refl _) _
  go_wp2_with (at_builtin; refine wpList_append_own _ rfl (.tmp 17) (.tmp 18) 97 rfl w.heap.size 5 i0 (.int .u8 0) 1 1 Tryz.underlying97 hi hz0 hz1 hz2 rfl (by decide) _ 4 (vals (leB c)) rfl HX.out a len cap (vals bs) rfl ?c1 ?c2 (vals_one bs) ?c3 ?c4 ?c5 ?_)
  case c1 => rw [length_vals, HB.out.length]; simp
  case c2 =>
    intro j u hj
    have hjl : j < bs.length := by
      have := (List.getElem?_eq_some_iff.1 hj).1
      rwa [length_vals] at this
    obtain ⟨a', ha', hs⟩ := HB.out.source (by have := HB.out.length; omega)
    obtain rfl := Option.some.inj ha'
    have h1 := hs j u hj
    rw [HB1.out.cell (World.block_lt_of_cell? w _ h1)]
    exact h1
  case c3 => unfold maxLen; omega
  case c4 => omega
  case c5 => simp
  · intro v' w1 hown' hgrow _
    have hlen := HB.out.length
    have R : Hid (Made w (sealB bs) v' w1) := by
      refine made_of ?_ (by rw [length_sealB]; omega) (HB1.out.grown hgrow (by simp) (by intro k hk; simp [Value.ownBlock] at hk; omega))
      have e : sealB bs = leB c ++ bs := by rw [HCC.out]; rfl
      rw [length_sealB, hlen, e, vals_append, Nat.add_comm len 4]
      exact hown'
    clear hown' hgrow hlen
    go_wp2
    go_ret
    exact ⟨_, rfl, R.out⟩
set_option maxHeartbeats 400000 in
theorem sealed_none (w : World) : Calls Tryz.prog 86 #[.slice none 0 0] w (GivesMade w (sealB [])) := by
  obtain ⟨i0, hi, hz0, hz1, hz2⟩ := info_parts info5
  have HB : Hid (Byt w none 0 0 []) := ⟨rfl, Nat.le_refl _, (fun x hx => by cases hx), .inl rfl⟩
  go_enter Tryz.func86, Tryz.ntmps86
  go_wp2_with fail
  refine (refCrc_any _ _ _ _ _ HB.out (by omega)).mono ?_
  rintro e w' ⟨rfl, rfl⟩
  have hsl := ofB_lt HB.out.all
  obtain ⟨c, hc⟩ : ∃ c, c = ofB [] := ⟨_, rfl⟩
  rw [← hc] at hsl ⊢
  have HCC := Lib.hid hc
  clear hc
  have HX := Lib.hid (lit4 w c hsl)
  have HB1 : Hid (Below w.heap.size w (w.alloc (.cells #[.int .u8 ((c : Int) % 256), .int .u8 ((c : Int) / 256 % 256), .int .u8 ((c : Int) / 65536 % 256), .int .u8 ((c : Int) / 16777216)] 5))) := (Below.refl _ _).alloc (Nat.le_refl _) _
  go_wp2_with (at_builtin; refine wpList_append_own_none rfl (.tmp 17) (.tmp 18) 97 rfl w.heap.size 5 i0 1 Tryz.underlying97 hi _ 4 (vals (leB c)) rfl HX.out rfl ?_)
  go_ret
  have R : Made w (sealB []) _ _ := made_of (by
    have e : sealB [] = leB c := by rw [HCC.out]; rfl
    rw [e]; exact HX.out) (by rw [length_sealB]; omega) HB1.out
  exact ⟨_, rfl, R⟩
theorem sealed_any (w : World) (ad : Option Addr) (len cap : Nat) (bs : List Nat) (h : Byt w ad len cap bs) (hn : ad = none → cap = 0) (hL : len ≤ 140737488355300) :
    Calls Tryz.prog 86 #[.slice ad len cap] w (GivesMade w (sealB bs)) := by
  rcases ad with _ | a
  · obtain rfl := hn rfl
    have hf := h.fits
    have hl := h.length
    obtain rfl : len = 0 := by omega
    obtain rfl : bs = [] := List.eq_nil_of_length_eq_zero hl
    exact sealed_none w
  · exact sealed_some w a len cap bs h hL
end Go.Proofs.YtmnjobiipfgpoaaGreat
namespace Go.Proofs.YtmnjobiipfgpoaaGreat
open Go.RowKit
open Go.SeqMath
open Go.BatMath hiding AllB getD_lt take_all
open Go.VarMath (longB length_longB textB)
open Go.CrcMath (sealB)
set_option linter.unusedVariables false

theorem owns_low {w : World} {base base' e size n : Nat} {v : Value} {xs : List Value} (h : w.ownsRow base e size v n xs) (hb : base' ≤ base) : w.ownsRow base' e size v n xs := by
  refine ⟨h.1, ?_⟩
  rcases h.2 with hn | ⟨g, cap, cur, rfl, hbg, hh, r⟩
  · exact .inl hn
  · exact .inr ⟨g, cap, cur, rfl, Nat.le_trans hb hbg, hh, r⟩
/-- What a call gives that makes a row, in a world that is further on. -/
theorem gives_on {w W w' : World} {bs : List Nat} {e : Ending} {n : Nat} (h : GivesRow W bs e w') (hW : Below w.heap.size w W) (hn : bs.length = n) :
    ∃ g cap, e = .returned (.slice (some ⟨g, 0, none⟩) n cap) ∧ Hid (w'.ownsRow w.heap.size 5 1 (.slice (some ⟨g, 0, none⟩) n cap) n (vals bs)) ∧ Hid (Below w.heap.size w w') ∧ Hid (Below W.heap.size W w') := by
  subst hn
  obtain ⟨g, cap, rfl, ho, hb⟩ := h
  exact ⟨g, cap, rfl, owns_low ho hW.size, hW.trans (hb.mono hW.size), hb⟩
theorem cell_on {w W : World} {a : Addr} {u : Value} (h : Below w.heap.size w W) (ha : w.cell? a = some u) : W.cell? a = some u := (h.cell (World.block_lt_of_cell? _ _ ha)).trans ha
theorem keep_two {w2 W : World} {a b : Addr} {u v : Value} (h : Below w2.heap.size w2 W) (hu : w2.cell? a = some u) (hv : w2.cell? b = some v) : Below w2.heap.size w2 W ∧ W.cell? a = some u ∧ W.cell? b = some v := ⟨h, cell_on h hu, cell_on h hv⟩
theorem row_lit (W : World) (cs : Array Value) (bs : List Nat) (k n : Nat) (hk : W.heap.size = k) (hcs : cs = (vals bs).toArray) (ha : AllB bs) (hn : bs.length = n) : Row (W.alloc (.cells cs 5)) (some ⟨k, 0, none⟩) n n bs := by
  subst hn hk hcs; exact ⟨(own_new W bs).byt ha _ (Nat.le_refl _), fun h => by cases h⟩
/-- What stands before round j of the loop over the records. -/
def WriteAt (w : World) (fr : List Nat) (l : List Rc) (v4 v45 : Value) (wr : World) : Prop := ∃ (j g c m : Nat), j ≤ l.length ∧ v45 = .int .i64 j ∧ v4 = .slice (some ⟨g, 0, none⟩) m c ∧ (fr ++ recsB (l.take j)).length = m ∧ wr.ownsRow w.heap.size 5 1 (.slice (some ⟨g, 0, none⟩) m c) m (vals (fr ++ recsB (l.take j))) ∧ Below w.heap.size w wr
theorem writeAt_start {w W : World} {fr : List Nat} {l : List Rc} {g c m : Nat} (hm : fr.length = m) (ho : W.ownsRow w.heap.size 5 1 (.slice (some ⟨g, 0, none⟩) m c) m (vals fr)) (hb : Below w.heap.size w W) : WriteAt w fr l (.slice (some ⟨g, 0, none⟩) m c) (.int .i64 0) W :=
  ⟨0, g, c, m, Nat.zero_le _, rfl, rfl, by simpa [recsB] using hm, by simpa [recsB] using ho, hb⟩
theorem take_recs {l : List Rc} {j : Nat} {r : Rc} (h : l[j]? = some r) : recsB (l.take (j + 1)) = recsB (l.take j) ++ recB r := by
  obtain ⟨hj, rfl⟩ := List.getElem?_eq_some_iff.1 h
  rw [List.take_succ_eq_append_getElem hj, recsB_snoc]
theorem take_texts {l : List Rc} (h : ∀ r ∈ l, r.key.size ≤ 64 ∧ r.val.size ≤ 64) (j : Nat) : ∀ r ∈ l.take j, r.key.size ≤ 64 ∧ r.val.size ≤ 64 := fun r hr => h r (List.mem_of_mem_take hr)
set_option maxRecDepth 100000 in
set_option maxHeartbeats 4000000 in
theorem write_any (w : World) (b : Bat) (ad : Option Addr) (len cap : Nat) (hr : RecsAt w ad len cap b.recs) (hok : Ok b) (hp1 : b.prod ≤ 9223372036854775807) :
    Calls Tryz.prog 59 #[.agg #[.int .i64 b.base, .int .i64 b.prod, .int .i64 b.epoch, .int .i64 b.seq, .bool b.txn, .int .i64 b.marker, .slice ad len cap]] w (GivesRow w (bytesB b)) := by
  obtain ⟨q0, q1, q2, q3, q4, q5, q6, q7, q8, q9, q10⟩ := hok
  have hlr := hr.length
  obtain ⟨F, hF⟩ : ∃ F, F = flagN b := ⟨_, rfl⟩
  have hF256 : F < 256 := by rw [hF]; exact flag_lt b
  have hFx : (F : Int) = 2 * b.marker + (if b.txn = true then 1 else 0) := by
    rw [hF]; unfold flagN; split <;> omega
  obtain ⟨E, hE⟩ : ∃ E, E = epochN b := ⟨_, rfl⟩
  have hE1 : b.epoch / 256 % 256 = ((E / 256 : Nat) : Int) := by rw [hE]; unfold epochN; omega
  have hE2 : b.epoch % 256 = ((E % 256 : Nat) : Int) := by rw [hE]; unfold epochN; omega
  have hfr : frontB b = F :: (longB b.prod ++ (E / 256 :: E % 256 :: (longB b.seq ++ [len % 256]))) := by rw [hF, hE, ← hlr]; rfl
  have hE6 : E < 65536 := by rw [hE]; exact epoch_lt b
  obtain ⟨E1, hE1'⟩ : ∃ E1, E1 = E / 256 := ⟨_, rfl⟩
  obtain ⟨E2, hE2'⟩ : ∃ E2, E2 = E % 256 := ⟨_, rfl⟩
  have hE1l : E1 < 256 := by omega
  have hE2l : E2 < 256 := by omega
  rw [← hE1'] at hE1 hfr
  rw [← hE2'] at hE2 hfr
  have HFR := Lib.hid hfr
  have HBO : Hid (bodyB b = frontB b ++ recsB b.recs) := rfl
  have HBY : Hid (bytesB b = longB b.base ++ (VarMath.beB 4 (sealB (bodyB b)).length ++ sealB (bodyB b))) := rfl
  have HT := Lib.hid q10
  have HR := Lib.hid hr
  have HE1 := Lib.hid hE1
  have HE2 := Lib.hid hE2
  have HF := Lib.hid hFx
  have hlen16 : len ≤ 16 := by omega
  have HLR := Lib.hid hlr
  clear hF hE hfr hE1' hE2' hE6 q9 q10 hr hFx hlr hE1 hE2
  obtain ⟨base, prod, epoch, seq, txn, marker, recs⟩ := b
  simp only at q0 q1 q2 q3 q4 q5 q6 q7 q8 hp1 HR HE1 HE2 HF HT HLR ⊢
  go_enter Tryz.func59, Tryz.ntmps59
  go_upto_if 14 with (fail)
  go_cut [3] from 9 (fun s3 wx => s3 = .int .u8 (F : Int) ∧ wx = w.alloc (.cells #[.int .i64 base, .int .i64 prod, .int .i64 epoch, .int .i64 seq, .bool txn, .int .i64 marker, .slice ad len cap] 30))
  case first =>
    have hmm : marker = 0 ∨ marker = 1 ∨ marker = 2 := by omega
    cases txn
    · rcases hmm with rfl | rfl | rfl
      all_goals
        go_wp2
        go_meet
        case rel => exact ⟨by have := HF.out; rw [this]; rfl, rfl⟩
    · rcases hmm with rfl | rfl | rfl
      all_goals
        go_wp2
        go_meet
        case rel => exact ⟨by have := HF.out; rw [this]; rfl, rfl⟩
  case rest =>
    obtain ⟨rfl, rfl⟩ := hcut
    obtain ⟨W0, hW0⟩ : ∃ W0, W0 = (w.alloc (.cells #[.int .i64 base, .int .i64 prod, .int .i64 epoch, .int .i64 seq, .bool txn, .int .i64 marker, .slice ad len cap] 30)) := ⟨_, rfl⟩
    have hs0 : W0.heap.size = w.heap.size + 1 := by rw [hW0]; simp
    have HX := Lib.hid (show BoxAt W0 w.heap.size base prod epoch seq txn marker (.slice ad len cap) by rw [hW0]; exact boxAt_new w _ _ _ _ _ _ _)
    have HB := Lib.hid (show Below w.heap.size w W0 by rw [hW0]; exact (Below.refl _ _).alloc (Nat.le_refl _) _)
    rw [← hW0]
    have hc1 := HX.out.c1
    have HROW := Lib.hid (row_lit W0 #[.int .u8 (F : Int)] [F] (w.heap.size + 1) 1 hs0 rfl (all_cons hF256 all_nil) rfl)
    have HB0 : Hid (Below W0.heap.size W0 (W0.alloc (.cells #[.int .u8 (F : Int)] 5))) := (Below.refl _ _).alloc (Nat.le_refl _) _
    clear hW0
    go_wp2_with fail
    (with_reducible refine (refLong_any _ _ 1 1 [F] prod HROW.out (by omega) (by omega) hp1).mono ?_)
    rintro e w1 hg
    obtain ⟨g1, c1, rfl, ho1, hb1, hbb⟩ := gives_on hg HB0.out (n := 9) (by simp [length_longB])
    have HX1 := Lib.hid (HX.out.on hb1.out)
    clear hg hbb hc1
    have hc2 := HX1.out.c2
    have he1 := HE1.out
    have he2 := HE2.out
    have HROW2 := Lib.hid (row_lit w1 #[.int .u8 (E1 : Int), .int .u8 (E2 : Int)] [E1, E2] w1.heap.size 2 rfl rfl (all_cons hE1l (all_cons hE2l all_nil)) rfl)
    have HB2 := Lib.hid (hb1.out.alloc hb1.out.size (.cells #[.int .u8 (E1 : Int), .int .u8 (E2 : Int)] 5))
    have HZ := Lib.hid hs0
    clear hs0
    go_wp2_with (at_builtin; refine append_row rfl (.tmp 22) (.tmp 30) rfl W0.heap.size 9 ([F] ++ longB prod) [E1, E2] _ rfl (ho1.out.alloc _) (some_ne _ _ _) HB2.out.size _ _ _ rfl HROW2.out (by omega) W0 HB2.out ?_)
    intro g2 c2 w2 ho2 hb2
    have HO2 := Lib.hid ho2
    have HBW2 := Lib.hid hb2
    have HA2 : Hid (AllB (([F] ++ longB prod) ++ [E1, E2])) := all_app (all_app (all_cons hF256 all_nil) (VarMath.longB_all _)) (all_cons hE1l (all_cons hE2l all_nil))
    have HX2 := Lib.hid (HX.out.on hb2)
    clear ho2 hb2 hc2 he1 he2
    have hc3 := HX2.out.c3
    have hc6 := HX2.out.c6
    have hl256 : IntKind.u8.wrap (len : Int) = (len : Int) := by rw [wrap_u8']; omega
    have CL : Hid (∀ W, Below w2.heap.size w2 W → Calls Tryz.prog 84 #[.slice (some ⟨g2, 0, none⟩) 11 c2, .int .i64 seq] W (GivesRow W ((([F] ++ longB prod) ++ [E1, E2]) ++ longB seq))) := by
      intro W hW
      exact refLong_any W _ 11 c2 _ seq ((owns_row HO2.out HA2.out).keep hW (Nat.le_refl _)) (by omega) (by omega) (by omega)
    go_upto_region 6 with fail
    go_cut [4] from 32 (fun s4 wx => ∃ g c, s4 = .slice (some ⟨g, 0, none⟩) 20 c ∧ Hid (wx.ownsRow W0.heap.size 5 1 (.slice (some ⟨g, 0, none⟩) 20 c) 20 (vals (((([F] ++ longB prod) ++ [E1, E2]) ++ longB seq) ++ [len]))) ∧ Hid (Below W0.heap.size W0 wx))
    case first =>
      have HL8 : Hid (AllB [len]) := all_cons (by omega) all_nil
      have HRL : Hid (∀ W, Below (w2.drew.alloc (.cells #[.int .u8 (len : Int)] 5)).heap.size (w2.drew.alloc (.cells #[.int .u8 (len : Int)] 5)) W → Row W (some ⟨w2.heap.size, 0, none⟩) 1 1 [len]) := fun W hW => (row_lit w2.drew #[.int .u8 (len : Int)] [len] w2.heap.size 1 rfl rfl HL8.out rfl).keep hW (Nat.le_refl _)
      go_region_held3 (fun W => Below w2.heap.size w2 W ∧ W.cell? ⟨w.heap.size, 3, none⟩ = some (.int .i64 seq) ∧ W.cell? ⟨w.heap.size, 6, none⟩ = some (.slice ad len cap)) (first | exact keep_two hb4 hc3 hc6 | exact keep_two hb3.out hc3 hc6 | exact keep_two (hb3.out.alloc hb3.out.size _) hc3 hc6 | exact keep_two ((Below.refl _ w2).drew) hc3 hc6 | exact keep_two (((Below.refl _ w2).drew).alloc (by simp) _) hc3 hc6) (first | (go_at_call 84; refine (CL.out _ ?_).mono ?_; exact (And.left ‹Below w2.heap.size w2 _ ∧ _›); rintro e w3 hg; obtain ⟨g3, k3, rfl, ho3, hb3, hbb3⟩ := gives_on (w := w2) (n := 19) hg (And.left ‹Below w2.heap.size w2 _ ∧ _›) (by simp [length_longB])) | (refine held_append (by rfl) (.tmp 35) (.tmp 40) rfl w2.heap.size 19 ((([F] ++ longB prod) ++ [E1, E2]) ++ longB seq) [len] _ rfl (ho3.out.alloc _) (hb3.out.alloc hb3.out.size _).size ⟨w3.heap.size, 0, none⟩ 1 1 rfl (row_lit w3 #[.int .u8 (len : Int)] [len] w3.heap.size 1 rfl rfl HL8.out rfl) (by omega) (by omega) w2 (hb3.out.alloc hb3.out.size _) ?_; intro g4 k4 w4 ho4 hp4 hb4) | (refine held_append (by rfl) (.tmp 35) (.tmp 40) rfl w2.heap.size 19 ((([F] ++ longB prod) ++ [E1, E2]) ++ longB seq) [len] _ rfl ho3.out hb3.out.size ⟨w2.heap.size, 0, none⟩ 1 1 rfl (HRL.out _ hbb3.out) (by omega) (by omega) w2 hb3.out ?_; intro g4 k4 w4 ho4 hp4 hb4))
      all_goals
        go_wp2
        go_meet
        case rel => exact ⟨_, _, rfl, owns_low ho4 HBW2.out.size, HBW2.out.trans (hb4.mono HBW2.out.size)⟩
    case rest =>
      clear hc3 hc6 hl256
      obtain ⟨g4, c4, rfl, ho4, hb4⟩ := hcut
      have HX4 := Lib.hid (HX.out.on hb4.out)
      have hc6 := HX4.out.c6
      obtain ⟨fr, hfr⟩ : ∃ fr, fr = ((([F] ++ longB prod) ++ [E1, E2]) ++ longB seq) ++ [len] := ⟨_, rfl⟩
      rw [← hfr] at ho4
      have hfl : fr.length = 20 := by rw [hfr]; simp [length_longB]
      have HFA : Hid (AllB fr) := by
        show AllB fr
        rw [hfr]
        exact all_app (all_app HA2.out (VarMath.longB_all _)) (all_cons (by omega) all_nil)
      have HFR2 : Hid (bodyB ⟨base, prod, epoch, seq, txn, marker, recs⟩ = fr ++ recsB recs) := by
        show _ = _
        rw [HBO.out, HFR.out, hfr, Nat.mod_eq_of_lt (show len < 256 by omega)]
        simp
      have HFL := Lib.hid hfl
      clear hfr hfl
      go_wp2_with fail
      go_loopw [4, 45] (fun v4 v45 wr => WriteAt W0 fr recs v4 v45 wr) (fun _ v45 _ => len - (intOf v45).toNat)
      case atStart => exact writeAt_start HFL.out ho4.out hb4.out
      case round =>
        obtain ⟨j, g, c, m, hj, rfl, rfl, hm, hown, hbel⟩ := hrel
        rw [HLR.out] at hj
        have HM := Lib.hid hm
        have HOWN := Lib.hid hown
        have HBEL := Lib.hid hbel
        have hmle : m ≤ 2388 := by
          have h1 := (recs_len (take_texts HT.out j)).2
          have h2 : (recs.take j).length ≤ 16 := by rw [List.length_take]; have := HLR.out; omega
          have h3 := HFL.out
          rw [← hm, List.length_append]
          omega
        clear hm hown hbel
        by_cases hlt : j < len
        · obtain ⟨r, hrj⟩ : ∃ r, recs[j]? = some r := by
            have hjl : j < recs.length := by rw [HLR.out]; exact hlt
            exact ⟨_, List.getElem?_eq_getElem hjl⟩
          obtain ⟨bk, off, rfl, hbk, hcell⟩ : ∃ bk off, ad = some ⟨bk, off, none⟩ ∧ bk < w.heap.size ∧ ∀ i r, recs[i]? = some r → wr.cell? ⟨bk, off + i * 2, none⟩ = some (.string r.key) ∧ wr.cell? ⟨bk, off + i * 2 + 1, none⟩ = some (.string r.val) := by
            have hbw : Below w.heap.size w wr := HB.out.trans (HBEL.out.mono HB.out.size)
            rcases HR.out.cells with h | ⟨bk, off, e, hlt, hc⟩
            · omega
            · exact ⟨bk, off, e, hlt, fun i r hi => ⟨(hbw.cell (p := ⟨bk, _, none⟩) hlt).trans (hc i r hi).1, (hbw.cell (p := ⟨bk, _, none⟩) hlt).trans (hc i r hi).2⟩⟩
          obtain ⟨hk, hv⟩ := hcell j r hrj
          have hmem := List.mem_of_getElem? hrj
          obtain ⟨hs1, hs2⟩ := HT.out r hmem
          have hsn := take_recs hrj
          have hta := take_texts HT.out j
          obtain ⟨pre, hpre⟩ : ∃ pre, pre = fr ++ recsB (recs.take j) := ⟨_, rfl⟩
          have hpa : AllB pre := by
            rw [hpre]
            exact all_app HFA.out (recs_all fun x hx => by have := hta x hx; omega)
          rw [← hpre] at HM HOWN
          have HSN : Hid (fr ++ recsB (recs.take (j + 1)) = pre ++ recB r) := by
            show _ = _
            rw [hsn, hpre, List.append_assoc]
          obtain ⟨ks, vs⟩ := r
          simp only at hk hv hs1 hs2
          have HPA := Lib.hid hpa
          have HLE : Hid (j + 1 ≤ recs.length) := by show _ ≤ _; rw [HLR.out]; exact hlt
          clear hcell hrj hmem hsn hta hpre hpa
          have l1 := BatMath.text_len (s := bl ks) (by rw [bl_len]; omega)
          have l2 := BatMath.text_len (s := bl vs) (by rw [bl_len]; omega)
          rw [bl_len] at l1 l2
          obtain ⟨n1, hn1⟩ : ∃ n1, n1 = (textB (bl ks)).length := ⟨_, rfl⟩
          obtain ⟨n2, hn2⟩ : ∃ n2, n2 = (textB (bl vs)).length := ⟨_, rfl⟩
          rw [← hn1] at l1
          rw [← hn2] at l2
          have HN1 : Hid ((pre ++ textB (bl ks)).length = m + n1) := by show _ = _; rw [List.length_append, HM.out, hn1]
          have HN2 : Hid (((pre ++ textB (bl ks)) ++ textB (bl vs)).length = m + n1 + n2) := by show _ = _; rw [List.length_append, HN1.out, hn2]
          have HA1 : Hid (AllB (pre ++ textB (bl ks))) := all_app HPA.out (text_all (bl_all _) (by rw [bl_len]; omega))
          clear hn1 hn2
          obtain ⟨wx, hwx⟩ : ∃ wx, wx = wr.alloc (.cells #[.string ks, .string vs] 60) := ⟨_, rfl⟩
          have hd0 : wx.cell? ⟨wr.heap.size, 0, none⟩ = some (.string ks) := by rw [hwx, World.cell?, heap_alloc_new]; rfl
          have hd1 : wx.cell? ⟨wr.heap.size, 1, none⟩ = some (.string vs) := by rw [hwx, World.cell?, heap_alloc_new]; rfl
          have HWX := Lib.hid hwx
          have HBX : Hid (Below W0.heap.size W0 wx) := by show Below _ _ _; rw [hwx]; exact HBEL.out.alloc HBEL.out.size _
          have CT : Hid (∀ W, Below wx.heap.size wx W → Calls Tryz.prog 85 #[.slice (some ⟨g, 0, none⟩) m c, .string ks] W (GivesRow W (pre ++ textB (bl ks)))) := by
            intro W hW
            have hown : wx.ownsRow W0.heap.size 5 1 (.slice (some ⟨g, 0, none⟩) m c) m (vals pre) := by rw [HWX.out]; exact HOWN.out.alloc _
            exact refText_any W _ m c _ ks ((owns_row hown HPA.out).keep hW (Nat.le_refl _)) (by omega)
          clear hwx
          go_upto_region 10 with fail
          rw [← HWX.out]
          go_region_held3 (fun W => Below wx.heap.size wx W ∧ W.cell? ⟨wr.heap.size, 0, none⟩ = some (.string ks) ∧ W.cell? ⟨wr.heap.size, 1, none⟩ = some (.string vs)) (first | exact keep_two hb6.out hd0 hd1 | exact keep_two hb5.out hd0 hd1 | exact keep_two ((Below.refl _ wx).drew) hd0 hd1) (first | (go_at_call 85; refine (refText_any _ _ _ _ _ vs (owns_row ho5.out HA1.out) (by omega)).mono ?_; rintro e w6 hg; obtain ⟨g6, k6, rfl, ho6, hb6, hbb6⟩ := gives_on (w := wx) (n := m + n1 + n2) hg hb5.out HN2.out) | (go_at_call 85; refine (CT.out _ ?_).mono ?_; exact (And.left ‹Below wx.heap.size wx _ ∧ _›); rintro e w5 hg; obtain ⟨g5, k5, rfl, ho5, hb5, hbb5⟩ := gives_on (w := wx) (n := m + n1) hg (And.left ‹Below wx.heap.size wx _ ∧ _›) HN1.out))
          go_wp2
          go_roundw
          case rel => exact ⟨j + 1, _, _, _, HLE.out, by go_num, rfl, by rw [HSN.out, recB, ← List.append_assoc]; exact HN2.out, by rw [HSN.out, recB, ← List.append_assoc]; exact owns_low ho6.out HBX.out.size, HBX.out.trans (hb6.out.mono HBX.out.size)⟩
          case measure => simp [intOf]; omega
        · obtain rfl : j = len := by omega
          have hrl : recs.take j = recs := by rw [List.take_of_length_le (by rw [HLR.out]; exact Nat.le_refl _)]
          rw [hrl] at HM HOWN
          have HBA : Hid (AllB (fr ++ recsB recs)) := all_app HFA.out (recs_all fun x hx => by have := HT.out x hx; omega)
          have HBB : Hid (bodyB ⟨base, prod, epoch, seq, txn, marker, recs⟩ = fr ++ recsB recs) := HFR2
          clear hlt hrl
          go_wp2_with fail
          refine (sealed_any wr _ m c _ (owns_row HOWN.out HBA.out).1 (fun h => by cases h) (by omega)).mono ?_
          rintro e w7 ⟨v7, rfl, g7, k7, rfl, hk7, hg7, hp7, hb7⟩
          obtain ⟨N, hN⟩ : ∃ N, N = (sealB (fr ++ recsB recs)).length := ⟨_, rfl⟩
          have hN4 : N = m + 4 := by rw [hN, CrcMath.length_sealB, HM.out]
          rw [← hN] at hk7 ⊢
          have HX7 := Lib.hid (HX.out.on (HBEL.out.trans (hb7.mono HBEL.out.size)))
          have HY7 := Lib.hid (hp7.byt (CrcMath.sealB_all HBA.out) k7 (by rw [← hN]; exact hk7))
          rw [← hN] at HY7
          have HB7 : Hid (Below W0.heap.size W0 w7) := HBEL.out.trans (hb7.mono HBEL.out.size)
          have HNN := Lib.hid hN
          have hN1 : N ≤ 2392 := by omega
          clear hp7 hN hN4 hb7
          have hc0 := HX7.out.c0
          go_wp2_with fail
          refine (refLong_any w7 none 0 0 [] base ⟨Byt.nil w7, fun _ => rfl⟩ (by omega) (by omega) (by omega)).mono ?_
          rintro e w8 hg
          obtain ⟨g8, k8, rfl, ho8, hb8, hbb8⟩ := gives_on (w := w7) hg (Below.refl _ _) (n := 8) (by simp [length_longB])
          clear hg hc0
          obtain ⟨B3, hB3⟩ : ∃ B, B = N / 16777216 := ⟨_, rfl⟩
          obtain ⟨B2, hB2⟩ : ∃ B, B = N / 65536 := ⟨_, rfl⟩
          obtain ⟨B1, hB1⟩ : ∃ B, B = N / 256 := ⟨_, rfl⟩
          obtain ⟨B0, hB0⟩ : ∃ B, B = N % 256 := ⟨_, rfl⟩
          have hv3 : (N : Int) / 16777216 = (B3 : Int) := by omega
          have hv2 : (N : Int) / 65536 = (B2 : Int) := by omega
          have hv1 : (N : Int) / 256 = (B1 : Int) := by omega
          have hv0 : (N : Int) % 256 = (B0 : Int) := by omega
          have HBE : Hid (VarMath.beB 4 N = [B3, B2, B1, B0]) := by
            show _ = _
            simp only [VarMath.beB]
            have p3 : N / 256 ^ 3 % 256 = B3 := by rw [hB3]; simp only [Nat.reducePow]; omega
            have p2 : N / 256 ^ 2 % 256 = B2 := by rw [hB2]; simp only [Nat.reducePow]; omega
            have p1 : N / 256 ^ 1 % 256 = B1 := by rw [hB1]; simp only [Nat.reducePow]; omega
            have p0 : N / 256 ^ 0 % 256 = B0 := by rw [hB0]; simp only [Nat.reducePow]; omega
            rw [p3, p2, p1, p0]
          have HBL : Hid (AllB [B3, B2, B1, B0]) := all_cons (by omega) (all_cons (by omega) (all_cons (by omega) (all_cons (by omega) all_nil)))
          have HROW8 := Lib.hid (row_lit w8 #[.int .u8 (B3 : Int), .int .u8 (B2 : Int), .int .u8 (B1 : Int), .int .u8 (B0 : Int)] [B3, B2, B1, B0] w8.heap.size 4 rfl rfl HBL.out rfl)
          have HY8 := Lib.hid (HY7.out.keep (hbb8.out.alloc hbb8.out.size (.cells #[.int .u8 (B3 : Int), .int .u8 (B2 : Int), .int .u8 (B1 : Int), .int .u8 (B0 : Int)] 5)) (Nat.le_refl _))
          clear hB3 hB2 hB1 hB0
          go_wp2_with (at_builtin; refine append_row rfl (.tmp 63) (.tmp 75) rfl w7.heap.size 8 ([] ++ longB base) [B3, B2, B1, B0] _ rfl (ho8.out.alloc _) (some_ne _ _ _) (hbb8.out.alloc hbb8.out.size _).size _ _ _ rfl HROW8.out (by omega) w7 (hbb8.out.alloc hbb8.out.size _) ?_)
          intro g9 c9 w9 ho9 hb9
          have HO9 := Lib.hid ho9
          have HY9 := Lib.hid (HY7.out.keep hb9 (Nat.le_refl _))
          have HB9 := Lib.hid hb9
          clear ho9 hb9 hv3 hv2 hv1 hv0
          go_wp2_with (at_builtin; refine append_row rfl (.tmp 77) (.tmp 78) rfl w7.heap.size 12 (longB base ++ [B3, B2, B1, B0]) (sealB (fr ++ recsB recs)) _ rfl HO9.out (some_ne _ _ _) HB9.out.size _ _ _ rfl ⟨HY9.out, fun h => by cases h⟩ (by omega) w7 HB9.out ?_)
          intro g10 c10 w10 ho10 hb10
          have HFIN : Hid (longB base ++ [B3, B2, B1, B0] ++ sealB (fr ++ recsB recs) = bytesB ⟨base, prod, epoch, seq, txn, marker, recs⟩) := by
            show _ = _
            rw [HBY.out, HBB.out, ← HNN.out, HBE.out]
            simp
          have hlen : (bytesB ⟨base, prod, epoch, seq, txn, marker, recs⟩).length = 12 + N := by
            rw [← HFIN.out]
            simp only [List.length_append, length_longB, List.length_nil, List.length_cons, ← HNN.out]
          have hfe : w10.ownsRow w7.heap.size 5 1 (.slice (some ⟨g10, 0, none⟩) (12 + N) c10) (12 + N) (vals (bytesB ⟨base, prod, epoch, seq, txn, marker, recs⟩)) := by
            rw [← HFIN.out]
            simpa using ho10
          have HO10 := Lib.hid (owns_low hfe HB7.out.size)
          clear hfe
          have HB10 := Lib.hid (HB7.out.trans (hb10.mono HB7.out.size))
          have HLEN := Lib.hid hlen
          clear ho10 hb10 hlen
          go_wp2
          go_ret
          exact gives_row HLEN.out (owns_low HO10.out HB.out.size) (HB.out.trans (HB10.out.mono HB.out.size))
end Go.Proofs.YtmnjobiipfgpoaaGreat
namespace Go.Proofs.YtmnjobiipfgpoaaGreat
open Go.RowKit
open Go.SeqMath
open Go.BatMath hiding AllB getD_lt take_all
set_option linter.unusedVariables false

theorem refRight_any (w : World) (b : Bat) (ad : Option Addr) (len cap : Nat) (hr : RecsAt w ad len cap b.recs) (ht : TextsOk b.recs) (hL : len ≤ 140737488355328) (hp : b.prod ≤ 9223372036854775807) :
    Calls Tryz.prog 37 #[.agg #[.int .i64 b.base, .int .i64 b.prod, .int .i64 b.epoch, .int .i64 b.seq, .bool b.txn, .int .i64 b.marker, .slice ad len cap]] w (Says (rightE b) w) := by
  obtain rfl := hr.length
  have CP : Hid (∀ W, Below w.heap.size w W → Calls Tryz.prog 58 #[.agg #[.int .i64 b.base, .int .i64 b.prod, .int .i64 b.epoch, .int .i64 b.seq, .bool b.txn, .int .i64 b.marker, .slice ad b.recs.length cap]] W (Says (rightE b) W)) := fun W hW => plain_any W b ad cap (hr.keep hW) ht hL
  obtain ⟨ev, hev⟩ : ∃ ev, ev = rightE b := ⟨_, rfl⟩
  rw [← hev] at CP ⊢
  have CW : Hid (ev = 0 → ∀ W, Below w.heap.size w W → Calls Tryz.prog 59 #[.agg #[.int .i64 b.base, .int .i64 b.prod, .int .i64 b.epoch, .int .i64 b.seq, .bool b.txn, .int .i64 b.marker, .slice ad b.recs.length cap]] W (GivesRow W (bytesB b))) := by
    intro h W hW
    exact write_any W b ad _ cap (hr.keep hW) (ok_of (by rw [← hev, h])) hp
  have HLE : Hid (ev = 0 → (bytesB b).length ≤ 4096) := by
    intro h
    have := (ok_len (ok_of (b := b) (by rw [← hev, h]))).1
    omega
  clear hev hr ht hp
  obtain ⟨base, prod, epoch, seq, txn, marker, recs⟩ := b
  simp only at CP CW hL ⊢
  obtain ⟨len, hlen⟩ : ∃ len, len = recs.length := ⟨_, rfl⟩
  rw [← hlen] at CP CW hL ⊢
  clear hlen
  obtain ⟨W0, hW0⟩ : ∃ W0, W0 = (w.alloc (.cells #[.int .i64 base, .int .i64 prod, .int .i64 epoch, .int .i64 seq, .bool txn, .int .i64 marker, .slice ad len cap] 30)) := ⟨_, rfl⟩
  have hs0 : W0.heap.size = w.heap.size + 1 := by rw [hW0]; simp
  have HX := Lib.hid (show BoxAt W0 w.heap.size base prod epoch seq txn marker (.slice ad len cap) by rw [hW0]; exact boxAt_new w _ _ _ _ _ _ _)
  have HB := Lib.hid (show Below w.heap.size w W0 by rw [hW0]; exact (Below.refl _ _).alloc (Nat.le_refl _) _)
  have HW0 := Lib.hid hW0
  clear hW0
  go_enter Tryz.func37, Tryz.ntmps37
  go_wp2_with fail
  rw [← HW0.out]
  refine (CP.out W0 HB.out).mono ?_
  rintro e w1 ⟨rfl, hb⟩
  have HX1 := Lib.hid (HX.out.on hb)
  have HB1 := Lib.hid (HB.out.trans (hb.mono HB.out.size))
  clear hb
  by_cases h0 : ev = 0
  · have h1 : (ev != 0) = false := by simpa using h0
    have H0 := Lib.hid h0
    clear h0
    have hc0 := HX1.out.c0
    have hc1 := HX1.out.c1
    have hc2 := HX1.out.c2
    have hc3 := HX1.out.c3
    have hc4 := HX1.out.c4
    have hc5 := HX1.out.c5
    have hc6 := HX1.out.c6
    obtain ⟨n, hn⟩ : ∃ n, (bytesB ⟨base, prod, epoch, seq, txn, marker, recs⟩).length = n := ⟨_, rfl⟩
    have hn4 : n ≤ 4096 := by rw [← hn]; exact HLE.out H0.out
    have HN := Lib.hid hn
    clear hn
    go_wp2_with fail
    refine (CW.out H0.out w1 HB1.out).mono ?_
    rintro e w2 hg
    obtain ⟨g, c, rfl, ho, hb, hbb⟩ := gives_on hg HB1.out HN.out
    clear hg hc0 hc1 hc2 hc3 hc4 hc5 hc6
    go_wp2
    go_ret
    exact says_mk H0.out.symm hb.out
  · have h1 : (ev != 0) = true := by simpa using h0
    go_wp2
    go_ret
    exact says_mk rfl HB1.out
/-- What Bytes gives: the bytes and no error, or none and the error. -/
def GivesBytes (w : World) (ev : Int) (L : List Nat) (e : Ending) (w' : World) : Prop :=
  (ev = 0 ∧ ∃ g c, e = .returned (.tuple #[.slice (some ⟨g, 0, none⟩) L.length c, .int .i64 0]) ∧ w'.ownsRow w.heap.size 5 1 (.slice (some ⟨g, 0, none⟩) L.length c) L.length (vals L) ∧ Below w.heap.size w w') ∨
  (ev ≠ 0 ∧ e = .returned (.tuple #[.slice none 0 0, .int .i64 ev]) ∧ Below w.heap.size w w')
theorem gives_bytes {w w' : World} {ev : Int} {L : List Nat} {g c : Nat} (h : ev = 0) (h1 : w'.ownsRow w.heap.size 5 1 (.slice (some ⟨g, 0, none⟩) L.length c) L.length (vals L)) (h2 : Below w.heap.size w w') : GivesBytes w ev L (.returned (.tuple #[.slice (some ⟨g, 0, none⟩) L.length c, .int .i64 0])) w' := .inl ⟨h, g, c, rfl, h1, h2⟩
theorem gives_none {w w' : World} {ev : Int} {L : List Nat} (h : ev ≠ 0) (h2 : Below w.heap.size w w') : GivesBytes w ev L (.returned (.tuple #[.slice none 0 0, .int .i64 ev])) w' := .inr ⟨h, rfl, h2⟩
theorem refBytes_any (w : World) (b : Bat) (ad : Option Addr) (len cap : Nat) (hr : RecsAt w ad len cap b.recs) (ht : TextsOk b.recs) (hL : len ≤ 140737488355328) (hp : b.prod ≤ 9223372036854775807) :
    Calls Tryz.prog 90 #[.agg #[.int .i64 b.base, .int .i64 b.prod, .int .i64 b.epoch, .int .i64 b.seq, .bool b.txn, .int .i64 b.marker, .slice ad len cap]] w (GivesBytes w (rightE b) (bytesB b)) := by
  have CP : Hid (∀ W, Below w.heap.size w W → Calls Tryz.prog 37 #[.agg #[.int .i64 b.base, .int .i64 b.prod, .int .i64 b.epoch, .int .i64 b.seq, .bool b.txn, .int .i64 b.marker, .slice ad len cap]] W (Says (rightE b) W)) := fun W hW => refRight_any W b ad len cap (hr.keep hW) ht hL hp
  have CW : Hid (rightE b = 0 → ∀ W, Below w.heap.size w W → Calls Tryz.prog 59 #[.agg #[.int .i64 b.base, .int .i64 b.prod, .int .i64 b.epoch, .int .i64 b.seq, .bool b.txn, .int .i64 b.marker, .slice ad len cap]] W (GivesRow W (bytesB b))) :=
    fun h W hW => write_any W b ad len cap (hr.keep hW) (ok_of h) hp
  obtain ⟨ev, hev⟩ : ∃ ev, ev = rightE b := ⟨_, rfl⟩
  rw [← hev] at CP CW ⊢
  obtain ⟨L, hLL⟩ : ∃ L, L = bytesB b := ⟨_, rfl⟩
  rw [← hLL] at CW ⊢
  clear hev hr ht hp hLL hL
  obtain ⟨base, prod, epoch, seq, txn, marker, recs⟩ := b
  simp only at CP CW ⊢
  obtain ⟨W0, hW0⟩ : ∃ W0, W0 = (w.alloc (.cells #[.int .i64 base, .int .i64 prod, .int .i64 epoch, .int .i64 seq, .bool txn, .int .i64 marker, .slice ad len cap] 30)) := ⟨_, rfl⟩
  have hs0 : W0.heap.size = w.heap.size + 1 := by rw [hW0]; simp
  have HX := Lib.hid (show BoxAt W0 w.heap.size base prod epoch seq txn marker (.slice ad len cap) by rw [hW0]; exact boxAt_new w _ _ _ _ _ _ _)
  have HB := Lib.hid (show Below w.heap.size w W0 by rw [hW0]; exact (Below.refl _ _).alloc (Nat.le_refl _) _)
  have HW0 := Lib.hid hW0
  clear hW0
  go_enter Tryz.func90, Tryz.ntmps90
  go_wp2_with fail
  rw [← HW0.out]
  refine (CP.out W0 HB.out).mono ?_
  rintro e w1 ⟨rfl, hb⟩
  have HX1 := Lib.hid (HX.out.on hb)
  have HB1 := Lib.hid (HB.out.trans (hb.mono HB.out.size))
  clear hb
  by_cases h0 : ev = 0
  · have h1 : (ev != 0) = false := by simpa using h0
    have H0 := Lib.hid h0
    clear h0
    have hc0 := HX1.out.c0
    have hc1 := HX1.out.c1
    have hc2 := HX1.out.c2
    have hc3 := HX1.out.c3
    have hc4 := HX1.out.c4
    have hc5 := HX1.out.c5
    have hc6 := HX1.out.c6
    go_wp2_with fail
    refine (CW.out H0.out w1 HB1.out).mono ?_
    rintro e w2 hg
    obtain ⟨g, c, rfl, ho, hb, hbb⟩ := gives_on hg HB1.out rfl
    clear hg hc0 hc1 hc2 hc3 hc4 hc5 hc6
    go_wp2
    go_ret2
    exact gives_bytes H0.out ho.out hb.out
  · have h1 : (ev != 0) = true := by simpa using h0
    have H0 := Lib.hid h0
    clear h0
    go_wp2
    go_ret2
    exact gives_none H0.out HB1.out
theorem refSize_any (w : World) (b : Bat) (ad : Option Addr) (len cap : Nat) (hr : RecsAt w ad len cap b.recs) (ht : TextsOk b.recs) (hL : len ≤ 140737488355328) (hp : b.prod ≤ 9223372036854775807) :
    Calls Tryz.prog 68 #[.agg #[.int .i64 b.base, .int .i64 b.prod, .int .i64 b.epoch, .int .i64 b.seq, .bool b.txn, .int .i64 b.marker, .slice ad len cap]] w (Says (sizeB b) w) := by
  have CP : Hid (∀ W, Below w.heap.size w W → Calls Tryz.prog 90 #[.agg #[.int .i64 b.base, .int .i64 b.prod, .int .i64 b.epoch, .int .i64 b.seq, .bool b.txn, .int .i64 b.marker, .slice ad len cap]] W (GivesBytes W (rightE b) (bytesB b))) := fun W hW => refBytes_any W b ad len cap (hr.keep hW) ht hL hp
  have HY : Hid (rightE b = 0 → ((bytesB b).length : Int) = sizeB b) := fun h => by unfold sizeB; rw [if_pos h]
  have HN : Hid (rightE b ≠ 0 → 0 = sizeB b) := fun h => by unfold sizeB; rw [if_neg h]
  obtain ⟨P, hP⟩ : ∃ P, P = sizeB b := ⟨_, rfl⟩
  rw [← hP] at HY HN ⊢
  obtain ⟨ev, hev⟩ : ∃ ev, ev = rightE b := ⟨_, rfl⟩
  rw [← hev] at HY HN CP
  obtain ⟨L, hLL⟩ : ∃ L, L = bytesB b := ⟨_, rfl⟩
  rw [← hLL] at HY CP
  clear hev hP hr ht hp hLL hL
  obtain ⟨base, prod, epoch, seq, txn, marker, recs⟩ := b
  simp only at CP ⊢
  go_enter Tryz.func68, Tryz.ntmps68
  go_wp2_with fail
  refine (CP.out _ ((Below.refl _ _).alloc (Nat.le_refl _) _)).mono ?_
  rintro e w1 hg
  rcases hg with ⟨h, g, c, rfl, _, hb⟩ | ⟨h, rfl, hb⟩
  · have H := Lib.hid h
    have HB := Lib.hid (((Below.refl w.heap.size w).alloc (Nat.le_refl _) _).trans (hb.mono (by simp)))
    clear h hb
    go_wp2
    go_ret
    exact says_mk (HY.out H.out) HB.out
  · have H := Lib.hid h
    have HB := Lib.hid (((Below.refl w.heap.size w).alloc (Nat.le_refl _) _).trans (hb.mono (by simp)))
    clear h hb
    go_wp2
    go_ret
    exact says_mk (HN.out H.out) HB.out
theorem refCount_any (w : World) (b0 b1 b2 b3 : Int) (b4 : Bool) (b5 : Int) (ad : Option Addr) (len cap : Nat) (n : Int) (hn : (if b5 ≠ 0 then 1 else (len : Int)) = n) :
    Calls Tryz.prog 69 #[.agg #[.int .i64 b0, .int .i64 b1, .int .i64 b2, .int .i64 b3, .bool b4, .int .i64 b5, .slice ad len cap]] w (Says n w) := by
  by_cases h : b5 = 0
  · subst h
    obtain rfl : (len : Int) = n := by rw [← hn, if_neg (by decide)]
    clear hn
    go_enter Tryz.func69, Tryz.ntmps69
    go_wp2
    go_ret
    exact says_mk rfl ((Below.refl _ _).alloc (Nat.le_refl _) _)
  · have h1 : (b5 != 0) = true := by simpa using h
    obtain rfl : 1 = n := by rw [← hn, if_pos h]
    clear hn
    go_enter Tryz.func69, Tryz.ntmps69
    go_wp2
    go_ret
    exact says_mk rfl ((Below.refl _ _).alloc (Nat.le_refl _) _)
end Go.Proofs.YtmnjobiipfgpoaaGreat
/-! The code's own batch, chapter 6: offset, unowned, owned, rightMarker, rightData: which errors a batch has. -/
namespace Go.Proofs.YtmnjobiipfgpoaaGreat
open Go.RowKit
open Go.SeqMath
open Go.BatMath
set_option linter.unusedVariables false

theorem batOffset_any (n : Int) (w : World) (r : Bool) (hr : (decide (0 ≤ n) && decide (n ≤ 1099511627776)) = r) :
    Calls Tryz.prog 52 #[.int .i64 n] w fun e w' => e = .returned (.bool r) ∧ w = w' := by
  by_cases h0 : 0 ≤ n
  · by_cases h1 : n ≤ 1099511627776
    · obtain rfl : r = true := by rw [← hr]; simp [h0, h1]
      clear hr
      go_enter Tryz.func52, Tryz.ntmps52
      go_wp2
      go_ret
      exact ⟨rfl, rfl⟩
    · obtain rfl : r = false := by rw [← hr]; simp [h1]
      have h1' : 1099511627776 < n := by omega
      clear hr
      go_enter Tryz.func52, Tryz.ntmps52
      go_wp2
      go_ret
      exact ⟨rfl, rfl⟩
  · obtain rfl : r = false := by rw [← hr]; simp [h0]
    have h0' : n < 0 := by omega
    clear hr
    go_enter Tryz.func52, Tryz.ntmps52
    go_wp2
    go_ret
    exact ⟨rfl, rfl⟩
theorem batOwned_any (w : World) (b0 b1 b2 b3 : Int) (b4 : Bool) (b5 : Int) (v : Value) (r : Bool) (hr : (decide (0 ≤ b1) && (decide (0 ≤ b2) && decide (b2 ≤ 32767))) = r) :
    Calls Tryz.prog 76 #[.agg #[.int .i64 b0, .int .i64 b1, .int .i64 b2, .int .i64 b3, .bool b4, .int .i64 b5, v]] w fun e w' => e = .returned (.bool r) ∧ Below w.heap.size w w' := by
  by_cases h0 : 0 ≤ b1
  · by_cases h1 : 0 ≤ b2
    · by_cases h2 : b2 ≤ 32767
      · obtain rfl : r = true := by rw [← hr]; simp [h0, h1, h2]
        clear hr
        go_enter Tryz.func76, Tryz.ntmps76
        go_wp2
        go_ret
        exact ⟨rfl, (Below.refl _ _).alloc (Nat.le_refl _) _⟩
      · obtain rfl : r = false := by rw [← hr]; simp [h2]
        have h2' : 32767 < b2 := by omega
        clear hr
        go_enter Tryz.func76, Tryz.ntmps76
        go_wp2
        go_ret
        exact ⟨rfl, (Below.refl _ _).alloc (Nat.le_refl _) _⟩
    · obtain rfl : r = false := by rw [← hr]; simp [h1]
      have h1' : b2 < 0 := by omega
      clear hr
      go_enter Tryz.func76, Tryz.ntmps76
      go_wp2
      go_ret
      exact ⟨rfl, (Below.refl _ _).alloc (Nat.le_refl _) _⟩
  · obtain rfl : r = false := by rw [← hr]; simp [h0]
    have h0' : b1 < 0 := by omega
    clear hr
    go_enter Tryz.func76, Tryz.ntmps76
    go_wp2
    go_ret
    exact ⟨rfl, (Below.refl _ _).alloc (Nat.le_refl _) _⟩
theorem batUnowned_any (w : World) (b0 b1 b2 b3 : Int) (b4 : Bool) (b5 : Int) (v : Value) (r : Bool) (hr : (decide (b1 = -1) && (decide (b2 = -1) && (decide (b3 = -1) && !b4))) = r) :
    Calls Tryz.prog 75 #[.agg #[.int .i64 b0, .int .i64 b1, .int .i64 b2, .int .i64 b3, .bool b4, .int .i64 b5, v]] w fun e w' => e = .returned (.bool r) ∧ Below w.heap.size w w' := by
  cases h1 : (b1 == -1)
  · obtain rfl : r = false := by rw [← hr]; have : ¬ b1 = -1 := by simpa using h1
                                 simp [this]
    clear hr
    go_enter Tryz.func75, Tryz.ntmps75
    go_wp2
    go_ret
    exact ⟨rfl, (Below.refl _ _).alloc (Nat.le_refl _) _⟩
  · cases h2 : (b2 == -1)
    · obtain rfl : r = false := by rw [← hr]; have : ¬ b2 = -1 := by simpa using h2
                                   simp [this]
      clear hr
      go_enter Tryz.func75, Tryz.ntmps75
      go_wp2
      go_ret
      exact ⟨rfl, (Below.refl _ _).alloc (Nat.le_refl _) _⟩
    · cases h3 : (b3 == -1)
      · obtain rfl : r = false := by rw [← hr]; have : ¬ b3 = -1 := by simpa using h3
                                     simp [this]
        clear hr
        go_enter Tryz.func75, Tryz.ntmps75
        go_wp2
        go_ret
        exact ⟨rfl, (Below.refl _ _).alloc (Nat.le_refl _) _⟩
      · have q1 : b1 = -1 := by simpa using h1
        have q2 : b2 = -1 := by simpa using h2
        have q3 : b3 = -1 := by simpa using h3
        cases b4
        · obtain rfl : r = true := by rw [← hr]; simp [q1, q2, q3]
          clear hr q1 q2 q3
          go_enter Tryz.func75, Tryz.ntmps75
          go_wp2
          go_ret
          exact ⟨rfl, (Below.refl _ _).alloc (Nat.le_refl _) _⟩
        · obtain rfl : r = false := by rw [← hr]; simp
          clear hr q1 q2 q3
          go_enter Tryz.func75, Tryz.ntmps75
          go_wp2
          go_ret
          exact ⟨rfl, (Below.refl _ _).alloc (Nat.le_refl _) _⟩
def rmE (b : Bat) : Int := if (b.marker = 1 ∨ b.marker = 2) ∧ headB b = true ∧ b.seq = -1 ∧ b.txn = true ∧ b.recs = [] then 0 else 12
theorem rm_no {b : Bat} (h : ¬ ((b.marker = 1 ∨ b.marker = 2) ∧ headB b = true ∧ b.seq = -1 ∧ b.txn = true ∧ b.recs = [])) : rmE b = 12 := by unfold rmE; rw [if_neg h]
theorem rm_yes {b : Bat} (h : (b.marker = 1 ∨ b.marker = 2) ∧ headB b = true ∧ b.seq = -1 ∧ b.txn = true ∧ b.recs = []) : rmE b = 0 := by unfold rmE; rw [if_pos h]
set_option maxRecDepth 100000 in
theorem rightMarker_any (w : World) (b : Bat) (ad : Option Addr) (len cap : Nat) (hl : b.recs.length = len) :
    Calls Tryz.prog 54 #[.agg #[.int .i64 b.base, .int .i64 b.prod, .int .i64 b.epoch, .int .i64 b.seq, .bool b.txn, .int .i64 b.marker, .slice ad len cap]] w (Says (rmE b) w) := by
  have hne : (b.recs = []) = (len = 0) := by rw [← hl]; exact propext List.length_eq_zero_iff.symm
  have e12 := @rm_no b
  have e0 := @rm_yes b
  rw [hne] at e12 e0
  have hh : (decide (0 ≤ b.prod) && (decide (0 ≤ b.epoch) && decide (b.epoch ≤ 32767))) = headB b := rfl
  obtain ⟨hd, hdd⟩ : ∃ hd, hd = headB b := ⟨_, rfl⟩
  obtain ⟨ev, hev⟩ : ∃ ev, ev = rmE b := ⟨_, rfl⟩
  rw [← hev] at e12 e0 ⊢
  rw [← hdd] at e12 e0 hh
  clear hev hdd hne hl
  obtain ⟨base, prod, epoch, seq, txn, marker, recs⟩ := b
  simp only at e12 e0 hh ⊢
  have HH := Lib.hid hh
  have E12 := Lib.hid e12
  have E0 := Lib.hid e0
  clear hh e12 e0
  by_cases hm : marker = 1 ∨ marker = 2
  · cases hd
    · rcases hm with rfl | rfl
      all_goals
        go_enter Tryz.func54, Tryz.ntmps54
        go_wp2_with (go_at_call 76; refine (batOwned_any _ _ _ _ _ _ _ _ false HH.out).mono ?_; rintro e w1 ⟨rfl, hb⟩; obtain ⟨hc, hf⟩ := bcell hb; have HB := Lib.hid hb; clear hb)
        go_ret
        exact says_mk (E12.out (by rintro ⟨_, h, _⟩; cases h)).symm (((Below.refl _ _).alloc (Nat.le_refl _) _).trans (HB.out.mono (by simp)))
    · cases h3 : (seq == -1)
      · have h3' : ¬ seq = -1 := by simpa using h3
        have h3n : (seq != -1) = true := by simpa using h3
        have H3 := Lib.hid h3'
        clear h3'
        rcases hm with rfl | rfl
        all_goals
          go_enter Tryz.func54, Tryz.ntmps54
          go_wp2_with (go_at_call 76; refine (batOwned_any _ _ _ _ _ _ _ _ true HH.out).mono ?_; rintro e w1 ⟨rfl, hb⟩; obtain ⟨hc, hf⟩ := bcell hb; have HB := Lib.hid hb; clear hb)
          go_ret
          exact says_mk (E12.out (by rintro ⟨_, _, h, _⟩; exact H3.out h)).symm (((Below.refl _ _).alloc (Nat.le_refl _) _).trans (HB.out.mono (by simp)))
      · have h3' : seq = -1 := by simpa using h3
        have h3n : (seq != -1) = false := by simpa using h3
        have H3 := Lib.hid h3'
        clear h3'
        cases txn
        · rcases hm with rfl | rfl
          all_goals
            go_enter Tryz.func54, Tryz.ntmps54
            go_wp2_with (go_at_call 76; refine (batOwned_any _ _ _ _ _ _ _ _ true HH.out).mono ?_; rintro e w1 ⟨rfl, hb⟩; obtain ⟨hc, hf⟩ := bcell hb; have HB := Lib.hid hb; clear hb)
            go_ret
            exact says_mk (E12.out (by rintro ⟨_, _, _, h, _⟩; cases h)).symm (((Below.refl _ _).alloc (Nat.le_refl _) _).trans (HB.out.mono (by simp)))
        · by_cases hl : 0 < len
          · rcases hm with rfl | rfl
            all_goals
              go_enter Tryz.func54, Tryz.ntmps54
              go_wp2_with (go_at_call 76; refine (batOwned_any _ _ _ _ _ _ _ _ true HH.out).mono ?_; rintro e w1 ⟨rfl, hb⟩; obtain ⟨hc, hf⟩ := bcell hb; have HB := Lib.hid hb; clear hb)
              go_ret
              exact says_mk (E12.out (by rintro ⟨_, _, _, _, h⟩; omega)).symm (((Below.refl _ _).alloc (Nat.le_refl _) _).trans (HB.out.mono (by simp)))
          · obtain rfl : len = 0 := by omega
            clear hl
            rcases hm with rfl | rfl
            all_goals
              go_enter Tryz.func54, Tryz.ntmps54
              go_wp2_with (go_at_call 76; refine (batOwned_any _ _ _ _ _ _ _ _ true HH.out).mono ?_; rintro e w1 ⟨rfl, hb⟩; obtain ⟨hc, hf⟩ := bcell hb; have HB := Lib.hid hb; clear hb)
              go_ret
              exact says_mk (E0.out ⟨by decide, trivial, H3.out, trivial, trivial⟩).symm (((Below.refl _ _).alloc (Nat.le_refl _) _).trans (HB.out.mono (by simp)))
  · have hm1 : (marker != 1) = true := by simp; omega
    have hm2 : (marker != 2) = true := by simp; omega
    have HM := Lib.hid hm
    clear hm
    go_enter Tryz.func54, Tryz.ntmps54
    go_wp2
    go_ret
    exact says_mk (E12.out (by rintro ⟨h, _⟩; exact HM.out h)).symm ((Below.refl _ _).alloc (Nat.le_refl _) _)
end Go.Proofs.YtmnjobiipfgpoaaGreat

/-! The code's own batch, chapter 6: rightData: which errors data have. -/
namespace Go.Proofs.YtmnjobiipfgpoaaGreat
open Go.RowKit
open Go.SeqMath
open Go.BatMath
set_option linter.unusedVariables false

noncomputable def rdE (b : Bat) : Int :=
  if (noneB b = true ∨ headB b = true ∧ rightB b.seq = true) ∧ b.recs ≠ [] then
    open Classical in if 16 < b.recs.length ∨ ∃ r ∈ b.recs, longRec r then 13 else 0
  else 12
theorem rd_none {b : Bat} (h : ¬ ((noneB b = true ∨ headB b = true ∧ rightB b.seq = true) ∧ b.recs ≠ [])) : rdE b = 12 := by unfold rdE; rw [if_neg h]
theorem rd_long {b : Bat} (h : (noneB b = true ∨ headB b = true ∧ rightB b.seq = true) ∧ b.recs ≠ []) (hl : 16 < b.recs.length ∨ ∃ r ∈ b.recs, longRec r) : rdE b = 13 := by unfold rdE; rw [if_pos h, if_pos hl]
theorem rd_fine {b : Bat} (h : (noneB b = true ∨ headB b = true ∧ rightB b.seq = true) ∧ b.recs ≠ []) (hl : ¬ (16 < b.recs.length ∨ ∃ r ∈ b.recs, longRec r)) : rdE b = 0 := by unfold rdE; rw [if_pos h, if_neg hl]
set_option maxRecDepth 100000 in
set_option maxHeartbeats 2000000 in
theorem rightData_any (w : World) (b : Bat) (ad : Option Addr) (len cap : Nat) (hr : RecsAt w ad len cap b.recs) (ht : TextsOk b.recs) (hL : len ≤ 140737488355328) :
    Calls Tryz.prog 53 #[.agg #[.int .i64 b.base, .int .i64 b.prod, .int .i64 b.epoch, .int .i64 b.seq, .bool b.txn, .int .i64 b.marker, .slice ad len cap]] w (Says (rdE b) w) := by
  have hne : (b.recs ≠ []) = (0 < b.recs.length) := propext List.length_pos_iff.symm
  have e12 := @rd_none b
  have e13 := @rd_long b
  have e0 := @rd_fine b
  rw [hne] at e12 e13 e0
  obtain ⟨ev, hev⟩ : ∃ ev, ev = rdE b := ⟨_, rfl⟩
  rw [← hev] at e12 e13 e0 ⊢
  have hh : (decide (0 ≤ b.prod) && (decide (0 ≤ b.epoch) && decide (b.epoch ≤ 32767))) = headB b := rfl
  have hnn : (decide (b.prod = -1) && (decide (b.epoch = -1) && (decide (b.seq = -1) && !b.txn))) = noneB b := rfl
  obtain ⟨hd, hdd⟩ : ∃ hd, hd = headB b := ⟨_, rfl⟩
  obtain ⟨nn, hnd⟩ : ∃ nn, nn = noneB b := ⟨_, rfl⟩
  rw [← hdd] at e12 e13 e0 hh
  rw [← hnd] at e12 e13 e0 hnn
  clear hev hdd hnd hne
  obtain ⟨base, prod, epoch, seq, txn, marker, recs⟩ := b
  simp only at e12 e13 e0 hh hr ht hnn ⊢
  obtain ⟨rt, hrt⟩ : ∃ rt, rightB seq = rt := ⟨_, rfl⟩
  rw [hrt] at e12 e13 e0
  have hlen := hr.length
  rw [hlen] at e12 e13 e0
  have HH := Lib.hid hh
  have HRT := Lib.hid hrt
  have HN := Lib.hid hnn
  have E12 := Lib.hid e12
  have E13 := Lib.hid e13
  have E0 := Lib.hid e0
  have HR := Lib.hid hr
  have HT := Lib.hid ht
  have HLEN := Lib.hid hlen
  clear hh hrt hnn e12 e13 e0 hr ht hlen
  go_enter Tryz.func53, Tryz.ntmps53
  go_upto_region 1 with fail
  go_cut [17] from 5 (fun s17 wx => s17 = .bool (!(nn || (hd && rt))) ∧ Hid (BoxAt wx w.heap.size base prod epoch seq txn marker (.slice ad len cap)) ∧ Hid (Below w.heap.size w wx))
  case first =>
    have HB0 : Hid (Below w.heap.size w (w.alloc (.cells #[.int .i64 base, .int .i64 prod, .int .i64 epoch, .int .i64 seq, .bool txn, .int .i64 marker, .slice ad len cap] 30))) := (Below.refl _ _).alloc (Nat.le_refl _) _
    have HX0 := Lib.hid (boxAt_new w base prod epoch seq txn marker (.slice ad len cap))
    cases nn
    · cases hd
      · go_wp2_with (first | (go_at_call 75; refine (batUnowned_any _ _ _ _ _ _ _ _ false HN.out).mono ?_; rintro e w1 ⟨rfl, hb⟩; have HB1 := Lib.hid (HB0.out.trans (hb.mono HB0.out.size)); have HX1 := Lib.hid (HX0.out.on hb); clear hb; have hc0 := HX1.out.c0; have hc1 := HX1.out.c1; have hc2 := HX1.out.c2; have hc3 := HX1.out.c3; have hc4 := HX1.out.c4; have hc5 := HX1.out.c5; have hc6 := HX1.out.c6) | (go_at_call 76; refine (batOwned_any _ _ _ _ _ _ _ _ false HH.out).mono ?_; rintro e w2 ⟨rfl, hb⟩; have HB2 := Lib.hid (HB1.out.trans (hb.mono HB1.out.size)); have HX2 := Lib.hid (HX1.out.on hb); clear hb))
        go_meet
        case rel => exact ⟨by simp, HX2, HB2⟩
      · cases rt
        all_goals
          go_wp2_with (first | (go_at_call 75; refine (batUnowned_any _ _ _ _ _ _ _ _ false HN.out).mono ?_; rintro e w1 ⟨rfl, hb⟩; have HB1 := Lib.hid (HB0.out.trans (hb.mono HB0.out.size)); have HX1 := Lib.hid (HX0.out.on hb); clear hb; have hc0 := HX1.out.c0; have hc1 := HX1.out.c1; have hc2 := HX1.out.c2; have hc3 := HX1.out.c3; have hc4 := HX1.out.c4; have hc5 := HX1.out.c5; have hc6 := HX1.out.c6) | (go_at_call 76; refine (batOwned_any _ _ _ _ _ _ _ _ true HH.out).mono ?_; rintro e w2 ⟨rfl, hb⟩; have HB2 := Lib.hid (HB1.out.trans (hb.mono HB1.out.size)); have HX2 := Lib.hid (HX1.out.on hb); clear hb hc0 hc1 hc2 hc3 hc4 hc5 hc6; have hc3 := HX2.out.c3) | (go_at_call 77; refine (seq_right _ _ _ HRT.out).mono ?_; rintro e w' ⟨rfl, rfl⟩))
          go_meet
          case rel => exact ⟨by simp, HX2, HB2⟩
    · go_wp2_with (first | (go_at_call 75; refine (batUnowned_any _ _ _ _ _ _ _ _ true HN.out).mono ?_; rintro e w1 ⟨rfl, hb⟩; have HB1 := Lib.hid (HB0.out.trans (hb.mono HB0.out.size)); have HX1 := Lib.hid (HX0.out.on hb); clear hb))
      go_meet
      case rel => exact ⟨by simp, HX1, HB1⟩
  case rest =>
    obtain ⟨rfl, HBX, HBW⟩ := hcut
    obtain ⟨cnd, hcn⟩ : ∃ cnd, cnd = (nn || (hd && rt)) := ⟨_, rfl⟩
    rw [← hcn]
    cases cnd
    · have HC := Lib.hid hcn.symm
      clear hcn
      go_wp2
      go_ret
      refine says_mk (E12.out ?_).symm HBW.out
      rintro ⟨q1, q2⟩
      have hx := HC.out
      rcases q1 with q1 | ⟨q1, q3⟩
      · rw [q1] at hx; simp at hx
      · rw [q1, q3] at hx; simp at hx
    · have hcn2 : nn = true ∨ hd = true ∧ rt = true := by simpa using hcn.symm
      have HC0 := Lib.hid hcn2
      clear hcn hcn2
      have hc6 := HBX.out.c6
      by_cases hlen : len = 0
      · subst hlen
        go_wp2
        go_ret
        exact says_mk (E12.out (by rintro ⟨_, h⟩; omega)).symm HBW.out
      have hl0 : ((len : Int) == 0) = false := by simp; omega
      have HC : Hid ((nn = true ∨ hd = true ∧ rt = true) ∧ 0 < len) := ⟨HC0.out, by omega⟩
      by_cases h16 : 16 < len
      · go_wp2
        go_ret
        exact says_mk (E13.out HC.out (.inl h16)).symm HBW.out
      · have h16' : len ≤ 16 := by omega
        go_wp2_with fail
        go_loopw [29] (fun v29 wr => PlainAt w recs v29 wr) (fun v29 _ => len - (intOf v29).toNat)
        case atStart => exact plainAt_start w _ recs HBW.out
        case round =>
          obtain ⟨j, hj, rfl, hno, hbel⟩ := hrel
          have HNO := Lib.hid hno
          have HBEL := Lib.hid hbel
          rw [HLEN.out] at hj
          clear hno hbel
          by_cases hlt : j < len
          · obtain ⟨r, hrj⟩ : ∃ r, recs[j]? = some r := by
              have hjl : j < recs.length := by rw [HLEN.out]; exact hlt
              exact ⟨_, List.getElem?_eq_getElem hjl⟩
            obtain ⟨bk, off, rfl, hbk, hcell⟩ : ∃ bk off, ad = some ⟨bk, off, none⟩ ∧ bk < w.heap.size ∧ ∀ i r, recs[i]? = some r → wr.cell? ⟨bk, off + i * 2, none⟩ = some (.string r.key) ∧ wr.cell? ⟨bk, off + i * 2 + 1, none⟩ = some (.string r.val) := by
              rcases HR.out.cells with h | ⟨bk, off, e, hlt, hc⟩
              · omega
              · exact ⟨bk, off, e, hlt, fun i r hi => ⟨(HBEL.out.cell (p := ⟨bk, _, none⟩) hlt).trans (hc i r hi).1, (HBEL.out.cell (p := ⟨bk, _, none⟩) hlt).trans (hc i r hi).2⟩⟩
            obtain ⟨hk, hv⟩ := hcell j r hrj
            obtain ⟨hs1, hs2⟩ := HT.out r (List.mem_of_getElem? hrj)
            obtain ⟨ks, vs⟩ := r
            simp only at hk hv hs1 hs2
            have HRJ := Lib.hid hrj
            have HMEM : Hid ((⟨ks, vs⟩ : Rc) ∈ recs) := List.mem_of_getElem? hrj
            clear hcell hrj
            by_cases hk64 : 64 < ks.size
            · go_wp2
              go_ret
              exact says_mk (E13.out HC.out (.inr ⟨⟨ks, vs⟩, HMEM.out, .inl hk64⟩)).symm (HBEL.out.alloc HBEL.out.size _)
            · have hk64' : ks.size ≤ 64 := by omega
              by_cases hv64 : 64 < vs.size
              · go_wp2
                go_ret
                exact says_mk (E13.out HC.out (.inr ⟨⟨ks, vs⟩, HMEM.out, .inr hv64⟩)).symm (HBEL.out.alloc HBEL.out.size _)
              · have hv64' : vs.size ≤ 64 := by omega
                have HNO2 : Hid (∀ i r, i < j + 1 → recs[i]? = some r → ¬ longRec r) := by
                  intro i r hi hir
                  by_cases e : i = j
                  · subst e
                    rw [HRJ.out] at hir
                    cases hir
                    rintro (h | h)
                    · exact hk64 h
                    · exact hv64 h
                  · exact HNO.out i r (by omega) hir
                have HLE : Hid (j + 1 ≤ recs.length) := by show _ ≤ _; rw [HLEN.out]; exact hlt
                go_wp2
                go_roundw
                case rel => (repeat apply Exists.intro); exact ⟨⟨j + 1, HLE.out, by go_num, HNO2.out, HBEL.out.alloc HBEL.out.size _⟩, rfl⟩
                case measure => simp [intOf]; omega
          · obtain rfl : j = len := by omega
            go_wp2
            go_ret
            refine says_mk (E0.out HC.out ?_).symm HBEL.out
            rintro (h | h)
            · omega
            · exact not_long (by rw [HLEN.out]; exact HNO.out) h
end Go.Proofs.YtmnjobiipfgpoaaGreat

/-! The code's own batch, chapter 6: split, record, length, kind, Count. -/
namespace Go.Proofs.YtmnjobiipfgpoaaGreat
open Go.RowKit
open Go.SeqMath
open Go.BatMath hiding AllB getD_lt take_all
open Go.VarMath (longB length_longB textB beB length_beB beB_take)
set_option linter.unusedVariables false

/-- What stands before round i of split's loop. -/
def SplitAt (w : World) (K u i : Nat) (wr : World) : Prop := Own wr w.heap.size ((beB K u).take i ++ List.replicate (K - i) 0) ∧ Below w.heap.size w wr
theorem SplitAt.free {w wr : World} {K u i : Nat} (h : SplitAt w K u i wr) (j : Nat) : wr.frozen? ⟨w.heap.size, j, none⟩ = false := h.1.free j
theorem SplitAt.cell {w wr : World} {K u i : Nat} (h : SplitAt w K u i wr) (hi : i < K) : ∃ x, wr.cell? ⟨w.heap.size, i, none⟩ = some x := ⟨_, h.1.cell i (by simp [length_beB]; omega)⟩
theorem SplitAt.next {w wr : World} {K u i z : Nat} (h : SplitAt w K u i wr) (hi : i < K) (hz : z = u / 256 ^ (K - 1 - i) % 256) : SplitAt w K u (i + 1) (wr.setCell ⟨w.heap.size, i, none⟩ (.int .u8 (z : Int))) := by
  refine ⟨?_, h.2.setCell (Nat.le_refl _) _⟩
  have hs := h.1.set i z
  have e : ((beB K u).take i ++ List.replicate (K - i) 0).set i z = (beB K u).take (i + 1) ++ List.replicate (K - (i + 1)) 0 := by
    rw [beB_take i K u hi, ← hz]
    have hl : ((beB K u).take i).length = i := by rw [List.length_take, length_beB]; omega
    obtain ⟨m, hm⟩ : ∃ m, K - i = m + 1 := ⟨K - i - 1, by omega⟩
    rw [hm, show K - (i + 1) = m by omega, List.set_append_right _ _ (by omega), hl, Nat.sub_self, List.replicate_succ, List.set_cons_zero, List.append_assoc]
    rfl
  rw [e] at hs
  exact hs
set_option maxRecDepth 100000 in
theorem record_any (w : World) (ks vs : ByteArray) (h1 : ks.size ≤ 4096) (h2 : vs.size ≤ 4096) :
    Calls Tryz.prog 78 #[.agg #[.string ks, .string vs]] w (GivesRow w (recB ⟨ks, vs⟩)) := by
  have l1 := BatMath.text_len (s := bl ks) (by rw [bl_len]; omega)
  have l2 := BatMath.text_len (s := bl vs) (by rw [bl_len]; omega)
  rw [bl_len] at l1 l2
  obtain ⟨n1, hn1⟩ : ∃ n1, n1 = (textB (bl ks)).length := ⟨_, rfl⟩
  obtain ⟨n2, hn2⟩ : ∃ n2, n2 = (textB (bl vs)).length := ⟨_, rfl⟩
  rw [← hn1] at l1
  rw [← hn2] at l2
  have HN1 : Hid (([] ++ textB (bl ks)).length = n1) := by show _ = _; rw [List.nil_append, hn1]
  have HN2 : Hid ((([] ++ textB (bl ks)) ++ textB (bl vs)).length = n1 + n2) := by show _ = _; rw [List.length_append, HN1.out, hn2]
  have HA1 : Hid (AllB ([] ++ textB (bl ks))) := by show AllB _; rw [List.nil_append]; exact text_all (bl_all _) (by rw [bl_len]; omega)
  clear hn1 hn2
  obtain ⟨wx, hwx⟩ : ∃ wx, wx = w.alloc (.cells #[.string ks, .string vs] 60) := ⟨_, rfl⟩
  have hd0 : wx.cell? ⟨w.heap.size, 0, none⟩ = some (.string ks) := by rw [hwx, World.cell?, heap_alloc_new]; rfl
  have hd1 : wx.cell? ⟨w.heap.size, 1, none⟩ = some (.string vs) := by rw [hwx, World.cell?, heap_alloc_new]; rfl
  have HWX := Lib.hid hwx
  have HBX : Hid (Below w.heap.size w wx) := by show Below _ _ _; rw [hwx]; exact (Below.refl _ _).alloc (Nat.le_refl _) _
  have CT : Hid (∀ W, Below wx.heap.size wx W → Calls Tryz.prog 102 #[.slice none 0 0, .string ks] W (GivesRow W ([] ++ textB (bl ks)))) := by
    intro W hW
    exact text_any W none 0 0 [] ks ⟨Byt.nil W, fun _ => rfl⟩ (by omega)
  clear hwx
  go_enter Tryz.func78, Tryz.ntmps78
  go_upto_region 1 with fail
  rw [← HWX.out]
  go_region_held3 (fun W => Below wx.heap.size wx W ∧ W.cell? ⟨w.heap.size, 0, none⟩ = some (.string ks) ∧ W.cell? ⟨w.heap.size, 1, none⟩ = some (.string vs)) (first | exact keep_two hb6.out hd0 hd1 | exact keep_two hb5.out hd0 hd1 | exact keep_two ((Below.refl _ wx).drew) hd0 hd1) (first | (go_at_call 102; refine (text_any _ _ _ _ _ vs (owns_row ho5.out HA1.out) (by omega)).mono ?_; rintro e w6 hg; obtain ⟨g6, k6, rfl, ho6, hb6, hbb6⟩ := gives_on (w := wx) (n := n1 + n2) hg hb5.out HN2.out) | (go_at_call 102; refine (CT.out _ ?_).mono ?_; exact (And.left ‹Below wx.heap.size wx _ ∧ _›); rintro e w5 hg; obtain ⟨g5, k5, rfl, ho5, hb5, hbb5⟩ := gives_on (w := wx) (n := n1) hg (And.left ‹Below wx.heap.size wx _ ∧ _›) HN1.out))
  go_wp2
  go_ret
  exact gives_row (by rw [recB, ← HN2.out]; rfl) (by rw [recB]; exact owns_low ho6.out HBX.out.size) (HBX.out.trans (hb6.out.mono HBX.out.size))
/-- What stands before round j of length's loop. -/
def LenAt (w : World) (l : List Rc) (v3 v9 : Value) (wr : World) : Prop := ∃ j : Nat, j ≤ l.length ∧ v9 = .int .i64 j ∧ v3 = .int .i64 ((36 + (recsB (l.take j)).length : Nat) : Int) ∧ Below w.heap.size w wr
theorem lenAt_start {w W : World} {l : List Rc} (h : Below w.heap.size w W) : LenAt w l (.int .i64 36) (.int .i64 0) W := ⟨0, Nat.zero_le _, rfl, by simp [recsB], h⟩
set_option maxRecDepth 100000 in
set_option maxHeartbeats 1000000 in
theorem length_any (w : World) (b : Bat) (ad : Option Addr) (len cap : Nat) (hr : RecsAt w ad len cap b.recs) (ht : ∀ r ∈ b.recs, r.key.size ≤ 64 ∧ r.val.size ≤ 64) (hL : len ≤ 255) :
    Calls Tryz.prog 55 #[.agg #[.int .i64 b.base, .int .i64 b.prod, .int .i64 b.epoch, .int .i64 b.seq, .bool b.txn, .int .i64 b.marker, .slice ad len cap]] w (Says ((bytesB b).length : Int) w) := by
  have hbl := bytes_len b
  have hlr := hr.length
  have HR := Lib.hid hr
  have HT := Lib.hid ht
  have HLR := Lib.hid hlr
  have HBL := Lib.hid hbl
  clear hr ht hlr hbl
  obtain ⟨N, hN⟩ : ∃ N, N = (bytesB b).length := ⟨_, rfl⟩
  rw [← hN] at HBL ⊢
  clear hN
  obtain ⟨base, prod, epoch, seq, txn, marker, recs⟩ := b
  simp only at HR HT HLR HBL ⊢
  have HX := Lib.hid (boxAt_new w base prod epoch seq txn marker (.slice ad len cap))
  have HB : Hid (Below w.heap.size w (w.alloc (.cells #[.int .i64 base, .int .i64 prod, .int .i64 epoch, .int .i64 seq, .bool txn, .int .i64 marker, .slice ad len cap] 30))) := (Below.refl _ _).alloc (Nat.le_refl _) _
  go_enter Tryz.func55, Tryz.ntmps55
  go_wp2_with fail
  go_loopw [3, 9] (fun v3 v9 wr => LenAt w recs v3 v9 wr) (fun _ v9 _ => len - (intOf v9).toNat)
  case atStart => exact lenAt_start HB.out
  case round =>
    obtain ⟨j, hj, rfl, rfl, hbel⟩ := hrel
    have HBEL := Lib.hid hbel
    clear hbel
    rw [HLR.out] at hj
    have hsm : (recsB (recs.take j)).length ≤ 37740 := by
      have h1 := (recs_len (take_texts HT.out j)).2
      have h2 : (recs.take j).length ≤ 255 := by rw [List.length_take]; have := HLR.out; omega
      omega
    obtain ⟨m, hm⟩ : ∃ m, m = 36 + (recsB (recs.take j)).length := ⟨_, rfl⟩
    rw [← hm]
    have hm1 : m ≤ 40000 := by omega
    clear hsm
    by_cases hlt : j < len
    · obtain ⟨r, hrj⟩ : ∃ r, recs[j]? = some r := by
        have hjl : j < recs.length := by rw [HLR.out]; exact hlt
        exact ⟨_, List.getElem?_eq_getElem hjl⟩
      obtain ⟨bk, off, rfl, hbk, hcell⟩ : ∃ bk off, ad = some ⟨bk, off, none⟩ ∧ bk < w.heap.size ∧ ∀ i r, recs[i]? = some r → wr.cell? ⟨bk, off + i * 2, none⟩ = some (.string r.key) ∧ wr.cell? ⟨bk, off + i * 2 + 1, none⟩ = some (.string r.val) := by
        rcases HR.out.cells with h | ⟨bk, off, e, hlt, hc⟩
        · omega
        · exact ⟨bk, off, e, hlt, fun i r hi => ⟨(HBEL.out.cell (p := ⟨bk, _, none⟩) hlt).trans (hc i r hi).1, (HBEL.out.cell (p := ⟨bk, _, none⟩) hlt).trans (hc i r hi).2⟩⟩
      obtain ⟨hk, hv⟩ := hcell j r hrj
      obtain ⟨hs1, hs2⟩ := HT.out r (List.mem_of_getElem? hrj)
      have hsn := take_recs hrj
      have hrl := rec_len ⟨hs1, hs2⟩
      obtain ⟨q, hq⟩ : ∃ q, q = (recB r).length := ⟨_, rfl⟩
      have HM2 : Hid (36 + (recsB (recs.take (j + 1))).length = m + q) := by show _ = _; rw [hsn, List.length_append, hq, hm]; omega
      rw [← hq] at hrl
      have HQ := Lib.hid hq
      obtain ⟨ks, vs⟩ := r
      simp only at hk hv hs1 hs2
      have HLE : Hid (j + 1 ≤ recs.length) := by show _ ≤ _; rw [HLR.out]; exact hlt
      have HBA : Hid (Below w.heap.size w (wr.alloc (.cells #[.string ks, .string vs] 60))) := HBEL.out.alloc HBEL.out.size _
      clear hcell hrj hsn hq hm
      go_wp2_with fail
      refine (record_any _ ks vs (by omega) (by omega)).mono ?_
      rintro e w2 hg
      obtain ⟨g2, c2, rfl, _, hb2, _⟩ := gives_on hg HBA.out HQ.out.symm
      clear hg
      go_wp2
      go_roundw
      case rel => exact ⟨j + 1, HLE.out, by go_num, by rw [HM2.out]; go_num, hb2.out⟩
      case measure => simp [intOf]; omega
    · obtain rfl : j = len := by omega
      have hrl : recs.take j = recs := by rw [List.take_of_length_le (by rw [HLR.out]; exact Nat.le_refl _)]
      have HMN : Hid (m = N) := by show _ = _; rw [hm, HBL.out, hrl]
      clear hrl hm
      go_wp2
      go_ret
      exact says_mk (by rw [HMN.out]) HBEL.out
theorem batCount_any (w : World) (b0 b1 b2 b3 : Int) (b4 : Bool) (b5 : Int) (ad : Option Addr) (len cap : Nat) (n : Int) (hn : (if b5 ≠ 0 then 1 else (len : Int)) = n) :
    Calls Tryz.prog 89 #[.agg #[.int .i64 b0, .int .i64 b1, .int .i64 b2, .int .i64 b3, .bool b4, .int .i64 b5, .slice ad len cap]] w (Says n w) := by
  by_cases h : b5 = 0
  · subst h
    obtain rfl : (len : Int) = n := by rw [← hn, if_neg (by decide)]
    clear hn
    go_enter Tryz.func89, Tryz.ntmps89
    go_wp2
    go_ret
    exact says_mk rfl ((Below.refl _ _).alloc (Nat.le_refl _) _)
  · have h1 : (b5 != 0) = true := by simpa using h
    obtain rfl : 1 = n := by rw [← hn, if_pos h]
    clear hn
    go_enter Tryz.func89, Tryz.ntmps89
    go_wp2
    go_ret
    exact says_mk rfl ((Below.refl _ _).alloc (Nat.le_refl _) _)
end Go.Proofs.YtmnjobiipfgpoaaGreat

/-! The code's own batch, chapter 6: Right, Size. -/
namespace Go.Proofs.YtmnjobiipfgpoaaGreat
open Go.RowKit
open Go.SeqMath
open Go.BatMath hiding AllB getD_lt take_all
set_option linter.unusedVariables false

theorem right_low {b : Bat} (h : ¬ (0 ≤ b.base ∧ b.base ≤ 1099511627776)) : rightE b = 18 := by
  unfold rightE; rw [if_pos (by omega)]
theorem right_rd {b : Bat} (h : 0 ≤ b.base ∧ b.base ≤ 1099511627776) (hm : b.marker = 0) : rightE b = rdE b := by
  unfold rightE rdE; rw [if_neg (by omega), if_neg (by simpa using hm)]
theorem right_rm {b : Bat} (h : 0 ≤ b.base ∧ b.base ≤ 1099511627776) (hm : b.marker ≠ 0) : rightE b = rmE b := by
  unfold rightE rmE; rw [if_neg (by omega), if_pos hm]
set_option maxRecDepth 100000 in
theorem batRight_any (w : World) (b : Bat) (ad : Option Addr) (len cap : Nat) (hr : RecsAt w ad len cap b.recs) (ht : TextsOk b.recs) (hL : len ≤ 140737488355328) :
    Calls Tryz.prog 35 #[.agg #[.int .i64 b.base, .int .i64 b.prod, .int .i64 b.epoch, .int .i64 b.seq, .bool b.txn, .int .i64 b.marker, .slice ad len cap]] w (Says (rightE b) w) := by
  have e18 := @right_low b
  have eD := @right_rd b
  have eM := @right_rm b
  have hlr := hr.length
  have CD : Hid (∀ W, Below w.heap.size w W → Calls Tryz.prog 53 #[.agg #[.int .i64 b.base, .int .i64 b.prod, .int .i64 b.epoch, .int .i64 b.seq, .bool b.txn, .int .i64 b.marker, .slice ad len cap]] W (Says (rdE b) W)) := fun W hW => rightData_any W b ad len cap (hr.keep hW) ht hL
  have CM : Hid (∀ W, Below w.heap.size w W → Calls Tryz.prog 54 #[.agg #[.int .i64 b.base, .int .i64 b.prod, .int .i64 b.epoch, .int .i64 b.seq, .bool b.txn, .int .i64 b.marker, .slice ad len cap]] W (Says (rmE b) W)) := fun W hW => rightMarker_any W b ad len cap hlr
  have CL : Hid (rightE b = 0 → ∀ W, Below w.heap.size w W → Calls Tryz.prog 55 #[.agg #[.int .i64 b.base, .int .i64 b.prod, .int .i64 b.epoch, .int .i64 b.seq, .bool b.txn, .int .i64 b.marker, .slice ad len cap]] W (Says ((bytesB b).length : Int) W)) := by
    intro h W hW
    have ho := ok_of h
    exact length_any W b ad len cap (hr.keep hW) ho.texts (by have := ho.recs; omega)
  have HLE : Hid (rightE b = 0 → (bytesB b).length ≤ 4096) := by
    intro h
    have := (ok_len (ok_of h)).1
    omega
  obtain ⟨N, hN⟩ : ∃ N, N = (bytesB b).length := ⟨_, rfl⟩
  rw [← hN] at CL HLE
  obtain ⟨ev, hev⟩ : ∃ ev, ev = rightE b := ⟨_, rfl⟩
  rw [← hev] at e18 eD eM CL HLE ⊢
  obtain ⟨dv, hdv⟩ : ∃ dv, dv = rdE b := ⟨_, rfl⟩
  rw [← hdv] at eD CD
  obtain ⟨mv, hmv⟩ : ∃ mv, mv = rmE b := ⟨_, rfl⟩
  rw [← hmv] at eM CM
  clear hev hdv hmv hN hr ht hL hlr
  obtain ⟨base, prod, epoch, seq, txn, marker, recs⟩ := b
  simp only at CD CM CL e18 eD eM ⊢
  obtain ⟨W0, hW0⟩ : ∃ W0, W0 = (w.alloc (.cells #[.int .i64 base, .int .i64 prod, .int .i64 epoch, .int .i64 seq, .bool txn, .int .i64 marker, .slice ad len cap] 30)) := ⟨_, rfl⟩
  have HX := Lib.hid (show BoxAt W0 w.heap.size base prod epoch seq txn marker (.slice ad len cap) by rw [hW0]; exact boxAt_new w _ _ _ _ _ _ _)
  have HB := Lib.hid (show Below w.heap.size w W0 by rw [hW0]; exact (Below.refl _ _).alloc (Nat.le_refl _) _)
  have HW0 := Lib.hid hW0
  clear hW0
  have E18 := Lib.hid e18
  have ED := Lib.hid eD
  have EM := Lib.hid eM
  clear e18 eD eM
  go_enter Tryz.func35, Tryz.ntmps35
  go_wp2_with fail
  rw [← HW0.out]
  by_cases hb0 : 0 ≤ base ∧ base ≤ 1099511627776
  · refine (batOffset_any base _ true (by simp [hb0])).mono ?_
    rintro e w' ⟨rfl, rfl⟩
    have hc0 := HX.out.c0
    have hc1 := HX.out.c1
    have hc2 := HX.out.c2
    have hc3 := HX.out.c3
    have hc4 := HX.out.c4
    have hc5 := HX.out.c5
    have hc6 := HX.out.c6
    go_wp2_with fail
    refine (CD.out W0 HB.out).mono ?_
    rintro e w1 ⟨rfl, hb⟩
    have HX1 := Lib.hid (HX.out.on hb)
    have HB1 := Lib.hid (HB.out.trans (hb.mono HB.out.size))
    clear hb hc0 hc1 hc2 hc3 hc4 hc5 hc6
    have hc0 := HX1.out.c0
    have hc1 := HX1.out.c1
    have hc2 := HX1.out.c2
    have hc3 := HX1.out.c3
    have hc4 := HX1.out.c4
    have hc5 := HX1.out.c5
    have hc6 := HX1.out.c6
    have hlt1 := HX1.out.lt
    have hfz : ∀ j, w1.frozen? ⟨w.heap.size, j, none⟩ = false := HX1.out.free
    by_cases hm : marker = 0
    · have hm1 : (marker != 0) = false := by simpa using hm
      obtain rfl : ev = dv := ED.out hb0 hm
      have HM := Lib.hid hm
      clear hm
      by_cases h0 : ev = 0
      · have h1 : (ev != 0) = false := by simpa using h0
        have H0 := Lib.hid h0
        have hN4 := HLE.out h0
        clear h0
        go_wp2_with fail
        refine (CL.out H0.out w1 HB1.out).mono ?_
        rintro e w2 ⟨rfl, hb⟩
        have HB2 := Lib.hid (HB1.out.trans (hb.mono HB1.out.size))
        clear hb hc0 hc1 hc2 hc3 hc4 hc5 hc6
        go_wp2
        go_ret
        exact says_mk H0.out.symm HB2.out
      · have h1 : (ev != 0) = true := by simpa using h0
        go_wp2
        go_ret
        exact says_mk rfl HB1.out
    · have hm1 : (marker != 0) = true := by simpa using hm
      obtain rfl : ev = mv := EM.out hb0 hm
      have HM := Lib.hid hm
      clear hm
      go_wp2_with fail
      refine (CM.out w1 HB1.out).mono ?_
      rintro e w2 ⟨rfl, hb⟩
      have HX2 := Lib.hid (HX1.out.on hb)
      have HB2 := Lib.hid (HB1.out.trans (hb.mono HB1.out.size))
      clear hb hc0 hc1 hc2 hc3 hc4 hc5 hc6
      have hc0 := HX2.out.c0
      have hc1 := HX2.out.c1
      have hc2 := HX2.out.c2
      have hc3 := HX2.out.c3
      have hc4 := HX2.out.c4
      have hc5 := HX2.out.c5
      have hc6 := HX2.out.c6
      by_cases h0 : ev = 0
      · have h1 : (ev != 0) = false := by simpa using h0
        have H0 := Lib.hid h0
        have hN4 := HLE.out h0
        clear h0
        go_wp2_with fail
        refine (CL.out H0.out w2 HB2.out).mono ?_
        rintro e w3 ⟨rfl, hb⟩
        have HB3 := Lib.hid (HB2.out.trans (hb.mono HB2.out.size))
        clear hb hc0 hc1 hc2 hc3 hc4 hc5 hc6
        go_wp2
        go_ret
        exact says_mk H0.out.symm HB3.out
      · have h1 : (ev != 0) = true := by simpa using h0
        go_wp2
        go_ret
        exact says_mk rfl HB2.out
  · refine (batOffset_any base _ false (by
      rcases Classical.em (0 ≤ base) with h | h
      · have : ¬ base ≤ 1099511627776 := fun h2 => hb0 ⟨h, h2⟩
        simp [this]
      · simp [h])).mono ?_
    rintro e w' ⟨rfl, rfl⟩
    have H18 := Lib.hid (E18.out hb0)
    clear hb0
    go_wp2
    go_ret
    exact says_mk H18.out.symm HB.out
end Go.Proofs.YtmnjobiipfgpoaaGreat

/-! The code's own batch, chapter 6: body: what stands under the sum of a batch that is right. -/
namespace Go.Proofs.YtmnjobiipfgpoaaGreat
open Go.RowKit
open Go.SeqMath
open Go.BatMath hiding AllB getD_lt take_all
open Go.VarMath (longB length_longB textB beB length_beB)
set_option linter.unusedVariables false

end Go.Proofs.YtmnjobiipfgpoaaGreat

/-! The code's own batch, chapter 6: Bytes. -/
namespace Go.Proofs.YtmnjobiipfgpoaaGreat
open Go.RowKit
open Go.SeqMath
open Go.BatMath hiding AllB getD_lt take_all
open Go.VarMath (longB length_longB textB beB length_beB)
open Go.CrcMath (sealB)
set_option linter.unusedVariables false

end Go.Proofs.YtmnjobiipfgpoaaGreat

/-! The code's own batch, chapter 6: Same. -/
namespace Go.Proofs.YtmnjobiipfgpoaaGreat
open Go.RowKit
open Go.SeqMath
open Go.BatMath
set_option linter.unusedVariables false

end Go.Proofs.YtmnjobiipfgpoaaGreat
