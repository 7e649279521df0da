/- The contract of the document's own Sealed. -/
import Derived.Test.YtlpmfhccfihnfaaBytes
import Derived.Test.YtlpmfhccfihnfaaCrcMath
import Derived.Test.YtlpmfhccfihnfaaCrcRef
import Derived.Outline
namespace Go.Proofs.Ytlpmfhccfihnfaa
open Go.RowKit
open Go.CrcMath hiding AllB
set_option linter.unusedVariables false
theorem lit4 (w : World) (c : Nat) (hc : c < 4294967296) : (w.alloc (.cells #[.int .u8 ((c : Int) % 256), .int .u8 ((c : Int) / 256 % 256), .int .u8 ((c : Int) / 65536 % 256), .int .u8 ((c : Int) / 16777216)] 5)).ownsRow w.heap.size 5 1 (.slice (some ⟨w.heap.size, 0, none⟩) 4 4) 4 (vals (leB c)) := by
  have h := World.ownsRow_lit (e := 5) (size := 1) (base := w.heap.size) w (vals (leB c)).toArray 4 (Nat.le_refl _) (by decide) rfl
  have e3 : (((c / 16777216 % 256 : Nat)) : Int) = (c : Int) / 16777216 := by omega
  have e : (vals (leB c)).toArray = #[.int .u8 ((c : Int) % 256), .int .u8 ((c : Int) / 256 % 256), .int .u8 ((c : Int) / 65536 % 256), .int .u8 ((c : Int) / 16777216)] := by
    show #[byte _, byte _, byte _, byte _] = _
    unfold byte
    rw [e3]; rfl
  rw [e] at h
  have e2 : (vals (leB c)) = [.int .u8 ((c : Int) % 256), .int .u8 ((c : Int) / 256 % 256), .int .u8 ((c : Int) / 65536 % 256), .int .u8 ((c : Int) / 16777216)] := congrArg Array.toList e
  rw [e2]
  exact h
set_option maxHeartbeats 400000 in
theorem sealed_some (w : World) (a : Addr) (len cap : Nat) (bs : List Nat) (h : Byt w (some a) len cap bs) (hL : len ≤ 140737488355300) :
    Calls Try.prog 50 #[.slice (some a) len cap] w (GivesMade w (sealB bs)) := by
  obtain ⟨i0, hi, hz0, hz1, hz2⟩ := info_parts info5
  have HB := Lib.hid h
  clear h
  go_enter Try.func50, Try.ntmps50
  go_wp2_with fail
  refine (refCrc_any _ _ _ _ _ HB.out (by omega)).mono ?_
  rintro e w' ⟨rfl, rfl⟩
  have hsl := ofB_lt HB.out.all
  obtain ⟨c, hc⟩ : ∃ c, c = ofB bs := ⟨_, rfl⟩
  rw [← hc] at hsl ⊢
  have HCC := Lib.hid hc
  clear hc
  have HX := Lib.hid (lit4 w c hsl)
  have HB1 : Hid (Below w.heap.size w (w.alloc (.cells #[.int .u8 ((c : Int) % 256), .int .u8 ((c : Int) / 256 % 256), .int .u8 ((c : Int) / 65536 % 256), .int .u8 ((c : Int) / 16777216)] 5))) := (Below.refl _ _).alloc (Nat.le_refl _) _
  go_wp2_with (at_builtin; refine wpList_append_own _ rfl (.tmp 17) (.tmp 18) 34 rfl w.heap.size 5 i0 (.int .u8 0) 1 1 Try.underlying34 hi hz0 hz1 hz2 rfl (by decide) _ 4 (vals (leB c)) rfl HX.out a len cap (vals bs) rfl ?c1 ?c2 (vals_one bs) ?c3 ?c4 ?c5 ?_)
  case c1 => rw [length_vals, HB.out.length]; simp
  case c2 =>
    intro j u hj
    have hjl : j < bs.length := by
      have := (List.getElem?_eq_some_iff.1 hj).1
      rwa [length_vals] at this
    obtain ⟨a', ha', hs⟩ := HB.out.source (by have := HB.out.length; omega)
    obtain rfl := Option.some.inj ha'
    have h1 := hs j u hj
    rw [HB1.out.cell (World.block_lt_of_cell? w _ h1)]
    exact h1
  case c3 => unfold maxLen; omega
  case c4 => omega
  case c5 => simp
  · intro v' w1 hown' hgrow _
    have hlen := HB.out.length
    have R : Hid (Made w (sealB bs) v' w1) := by
      refine made_of ?_ (by rw [length_sealB]; omega) (HB1.out.grown hgrow (by simp) (by intro k hk; simp [Value.ownBlock] at hk; omega))
      have e : sealB bs = leB c ++ bs := by rw [HCC.out]; rfl
      rw [length_sealB, hlen, e, vals_append, Nat.add_comm len 4]
      exact hown'
    clear hown' hgrow hlen
    go_wp2
    go_ret
    exact ⟨_, rfl, R.out⟩
set_option maxHeartbeats 400000 in
theorem sealed_none (w : World) : Calls Try.prog 50 #[.slice none 0 0] w (GivesMade w (sealB [])) := by
  obtain ⟨i0, hi, hz0, hz1, hz2⟩ := info_parts info5
  have HB : Hid (Byt w none 0 0 []) := ⟨rfl, Nat.le_refl _, (fun x hx => by cases hx), .inl rfl⟩
  go_enter Try.func50, Try.ntmps50
  go_wp2_with fail
  refine (refCrc_any _ _ _ _ _ HB.out (by omega)).mono ?_
  rintro e w' ⟨rfl, rfl⟩
  have hsl := ofB_lt HB.out.all
  obtain ⟨c, hc⟩ : ∃ c, c = ofB [] := ⟨_, rfl⟩
  rw [← hc] at hsl ⊢
  have HCC := Lib.hid hc
  clear hc
  have HX := Lib.hid (lit4 w c hsl)
  have HB1 : Hid (Below w.heap.size w (w.alloc (.cells #[.int .u8 ((c : Int) % 256), .int .u8 ((c : Int) / 256 % 256), .int .u8 ((c : Int) / 65536 % 256), .int .u8 ((c : Int) / 16777216)] 5))) := (Below.refl _ _).alloc (Nat.le_refl _) _
  go_wp2_with (at_builtin; refine wpList_append_own_none rfl (.tmp 17) (.tmp 18) 34 rfl w.heap.size 5 i0 1 Try.underlying34 hi _ 4 (vals (leB c)) rfl HX.out rfl ?_)
  go_ret
  have R : Made w (sealB []) _ _ := made_of (by
    have e : sealB [] = leB c := by rw [HCC.out]; rfl
    rw [e]; exact HX.out) (by rw [length_sealB]; omega) HB1.out
  exact ⟨_, rfl, R⟩
theorem sealed_any (w : World) (ad : Option Addr) (len cap : Nat) (bs : List Nat) (h : Byt w ad len cap bs) (hn : ad = none → cap = 0) (hL : len ≤ 140737488355300) :
    Calls Try.prog 50 #[.slice ad len cap] w (GivesMade w (sealB bs)) := by
  rcases ad with _ | a
  · obtain rfl := hn rfl
    have hf := h.fits
    have hl := h.length
    obtain rfl : len = 0 := by omega
    obtain rfl : bs = [] := List.eq_nil_of_length_eq_zero hl
    exact sealed_none w
  · exact sealed_some w a len cap bs h hL
end Go.Proofs.Ytlpmfhccfihnfaa
