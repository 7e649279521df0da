/- The code's own batch, chapter 6: Rebase. -/
import Derived.Test.YtlpmfhccfihnfaaBatCode11
import Derived.Test.YtlpmfhccfihnfaaBatCode1
import Derived.Deep.RegionHeld3
namespace Go.Proofs.Ytlpmfhccfihnfaa
open Go.RowKit
open Go.SeqMath
open Go.BatMath hiding AllB getD_lt take_all
open Go.VarMath (longB length_longB)
set_option linter.unusedVariables false

/-- Can x be given another base? -/
noncomputable def canB (x : List Nat) (base : Int) : Bool := open Classical in decide ((readD x).e = 0 ∧ (readD x).n = x.length ∧ 0 ≤ base ∧ base ≤ 1099511627776)
/-- What Rebase gives. -/
def GivesRebase (w : World) (x : List Nat) (base : Int) (can : Bool) (e : Ending) (w' : World) : Prop :=
  (can = true ∧ ∃ g c, e = .returned (.tuple #[.slice (some ⟨g, 0, none⟩) x.length c, .bool true]) ∧ w'.ownsRow w.heap.size 5 1 (.slice (some ⟨g, 0, none⟩) x.length c) x.length (vals (longB base ++ x.drop 8)) ∧ Below w.heap.size w w') ∨
  (can = false ∧ e = .returned (.tuple #[.slice none 0 0, .bool false]) ∧ Below w.heap.size w w')
theorem gives_rebase {w w' : World} {x : List Nat} {base : Int} {g c n : Nat} (hn : x.length = n) (h : w'.ownsRow w.heap.size 5 1 (.slice (some ⟨g, 0, none⟩) n c) n (vals (longB base ++ x.drop 8))) (hb : Below w.heap.size w w') {can : Bool} (hc : can = true) :
    GivesRebase w x base can (.returned (.tuple #[.slice (some ⟨g, 0, none⟩) n c, .bool true])) w' := by
  subst hn; exact .inl ⟨hc, g, c, rfl, h, hb⟩
theorem gives_no_rebase {w w' : World} {x : List Nat} {base : Int} (hb : Below w.heap.size w w') {can : Bool} (hc : can = false) : GivesRebase w x base can (.returned (.tuple #[.slice none 0 0, .bool false])) w' := .inr ⟨hc, rfl, hb⟩
theorem good_len {x : List Nat} {b : Bat} (h : BatMath.Good x b) : 36 ≤ x.length := by
  obtain ⟨r, rfl⟩ := h.pre
  have := (ok_len (ok_of h.right)).2
  rw [List.length_append]; omega
set_option maxRecDepth 100000 in
set_option maxHeartbeats 1000000 in
theorem batRebase_any (w : World) (ad : Option Addr) (len cap : Nat) (x : List Nat) (base : Int) (h : Byt w ad len cap x) (hL : len ≤ 140737488355300) (h0 : -9223372036854775808 ≤ base) (h1 : base ≤ 9223372036854775807) :
    Calls Try.prog 19 #[.slice ad len cap, .int .i64 base] w (GivesRebase w x base (canB x base)) := by
  have CRD := Lib.hid (batRead_any w ad len cap x h (by omega))
  have hxl := h.length
  have hrs := reads_readD h.all
  obtain ⟨o, ho⟩ : ∃ o, o = readD x := ⟨_, rfl⟩
  have HCY : Hid (o.e = 0 → o.n = len → (0 ≤ base ∧ base ≤ 1099511627776) → canB x base = true) := fun a b c => by
    unfold canB; rw [← ho]; exact decide_eq_true ⟨a, by rw [b, hxl], c⟩
  have HCN : Hid (¬ (o.e = 0 ∧ o.n = len ∧ (0 ≤ base ∧ base ≤ 1099511627776)) → canB x base = false) := fun a => by
    unfold canB; rw [← ho]; refine decide_eq_false fun c => a ⟨c.1, by rw [c.2.1, hxl], c.2.2⟩
  rw [← ho] at CRD hrs
  have HG : Hid (o.e = 0 → 36 ≤ x.length) := fun a => good_len (hrs.fine a).1
  obtain ⟨can, hcan⟩ : ∃ can, can = canB x base := ⟨_, rfl⟩
  rw [← hcan] at HCY HCN ⊢
  have HX := Lib.hid h
  have HXL := Lib.hid hxl
  clear h hxl hrs ho hcan
  obtain ⟨ob, on, oe⟩ := o
  simp only at HCY HCN HG
  go_enter Try.func19, Try.ntmps19
  go_wp2_with fail
  refine CRD.out.mono ?_
  rintro e w1 ⟨ad1, cap1, rfl, _, _, hb1⟩
  simp only
  obtain ⟨nl, hnl⟩ : ∃ nl, nl = ob.recs.length := ⟨_, rfl⟩
  rw [← hnl]
  clear hnl
  have HB1 : Hid (Below w.heap.size w (w1.alloc (.cells #[.int .i64 ob.base, .int .i64 ob.prod, .int .i64 ob.epoch, .int .i64 ob.seq, .bool ob.txn, .int .i64 ob.marker, .slice ad1 nl cap1] 24))) := hb1.alloc hb1.size _
  clear hb1 CRD
  by_cases he : oe = 0
  · subst he
    by_cases hn : on = len
    · subst hn
      by_cases hr : 0 ≤ base ∧ base ≤ 1099511627776
      · have HC := Lib.hid (HCY.out rfl rfl hr)
        have h36 := HG.out rfl
        rw [HXL.out] at h36
        have hx0 := HX.out
        obtain ⟨bx, ox, rfl, _⟩ := hx0.get (by omega)
        obtain ⟨o8, k8, hs8, hB8⟩ := from_lit hx0 8 8 rfl (by omega)
        have H8 := Lib.hid hB8
        clear hx0 hB8
        obtain ⟨W1, hW1⟩ : ∃ W1, W1 = (w1.alloc (.cells #[.int .i64 ob.base, .int .i64 ob.prod, .int .i64 ob.epoch, .int .i64 ob.seq, .bool ob.txn, .int .i64 ob.marker, .slice ad1 nl cap1] 24)) := ⟨_, rfl⟩
        rw [← hW1] at HB1
        have HW1 := Lib.hid hW1
        clear hW1
        go_wp2_with (go_at_call 38; rw [← HW1.out]; refine (batOffset_any base _ true (by simp [hr])).mono ?_; rintro e w' ⟨rfl, rfl⟩)
        go_region_held3 (fun W => Below W1.heap.size W1 W) (first | exact hb4 | exact hb3.out | exact (Below.refl _ W1).drew) (first | (refine held_append (by rfl) (.tmp 29) (.tmp 31) rfl W1.heap.size 8 ([] ++ longB base) (x.drop 8) _ rfl ho3.out hb3.out.size ⟨bx, o8, none⟩ _ _ rfl ⟨H8.out.keep (HB1.out.trans (hb3.out.mono HB1.out.size)) (Nat.le_refl _), fun h => by cases h⟩ (by omega) (by omega) W1 hb3.out ?_; intro g4 k4 w4 ho4 hp4 hb4) | (go_at_call 36; refine (long_any _ none 0 0 [] base ⟨Byt.nil _, fun _ => rfl⟩ (by omega) h0 h1).mono ?_; rintro e w3 hg; obtain ⟨g3, k3, rfl, ho3, hb3, hbb3⟩ := gives_on (w := W1) (n := 8) hg ‹Below W1.heap.size W1 _› (by simp [length_longB])))
        go_wp2
        go_ret2
        have ho5 := owns_low ho4 HB1.out.size
        rw [show 8 + (on - 8) = on by omega] at ho5 ⊢
        exact gives_rebase HXL.out ho5 (HB1.out.trans (hb4.mono HB1.out.size)) HC.out
      · have HC := Lib.hid (HCN.out (fun c => hr c.2.2))
        go_wp2_with (go_at_call 38; refine (batOffset_any base _ false (by
          rcases Classical.em (0 ≤ base) with h | h
          · have : ¬ base ≤ 1099511627776 := fun h2 => hr ⟨h, h2⟩
            simp [this]
          · simp [h])).mono ?_; rintro e w' ⟨rfl, rfl⟩)
        go_ret2
        exact gives_no_rebase HB1.out HC.out
    · have HC := Lib.hid (HCN.out (fun c => hn c.2.1))
      have hnn : ((on : Int) != (len : Int)) = true := by simp; omega
      go_wp2
      go_ret2
      exact gives_no_rebase HB1.out HC.out
  · have HC := Lib.hid (HCN.out (fun c => he c.1))
    have hee : (oe != 0) = true := by simpa using he
    go_wp2
    go_ret2
    exact gives_no_rebase HB1.out HC.out
end Go.Proofs.Ytlpmfhccfihnfaa
