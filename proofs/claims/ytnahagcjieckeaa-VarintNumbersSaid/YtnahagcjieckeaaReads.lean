/- The contract of 'reads': what a row begins with is read as the document says. -/
import Derived.Test.YtnahagcjieckeaaVarKnown
namespace Go.Proofs.Ytnahagcjieckeaa
open Go.RowKit
open Go.VarMath hiding AllB
set_option linter.unusedVariables false

set_option maxRecDepth 100000 in
set_option maxHeartbeats 1000000 in
theorem reads_any (w : World) (ad : Option Addr) (len cap : Nat) (bs : List Nat) (most : Int) (h : Byt w ad len cap bs) (hL : len ≤ 140737488355328) (h0 : -9223372036854775808 ≤ most) (h1 : most ≤ 9223372036854775807) :
    Calls Try.prog 10 #[.slice ad len cap, .int .i64 most] w fun e w' => e = .returned (.bool true) ∧ Below w.heap.size w w' := by
  obtain ⟨n, hn⟩ : ∃ n, n = (getB bs).1 := ⟨_, rfl⟩
  obtain ⟨k, hk⟩ : ∃ k, k = (getB bs).2 := ⟨_, rfl⟩
  obtain ⟨s, hs⟩ : ∃ s, s = str (cutB bs most).1 := ⟨_, rfl⟩
  obtain ⟨i, hi⟩ : ∃ i, i = (cutB bs most).2 := ⟨_, rfl⟩
  obtain ⟨x, hx⟩ : ∃ x, x = (backB bs).1 := ⟨_, rfl⟩
  obtain ⟨ok, hok⟩ : ∃ ok, ok = (backB bs).2 := ⟨_, rfl⟩
  have G15 : Hid (∀ W, Below w.heap.size w W → Calls Try.prog 15 #[.slice ad len cap] W fun e w' => e = .returned (.tuple #[.int .i64 n, .int .i64 (k : Int)]) ∧ W = w') :=
    fun W hW => by rw [hn, hk]; exact get_any W ad len cap bs (h.keep hW (Nat.le_refl _)) hL
  have G21 : Hid (∀ W, Below w.heap.size w W → Calls Try.prog 21 #[.slice ad len cap] W fun e w' => e = .returned (.tuple #[.int .i64 n, .int .i64 (k : Int)]) ∧ Below W.heap.size W w') :=
    fun W hW => by rw [hn, hk]; exact refGet_any W ad len cap bs (h.keep hW (Nat.le_refl _)) hL
  have G16 : Hid (∀ W, Below w.heap.size w W → Calls Try.prog 16 #[.slice ad len cap, .int .i64 most] W fun e w' => e = .returned (.tuple #[.string s, .int .i64 (i : Int)]) ∧ Below W.heap.size W w') :=
    fun W hW => by rw [hs, hi]; exact cut_any W ad len cap bs most (h.keep hW (Nat.le_refl _)) hL h0 h1
  have G22 : Hid (∀ W, Below w.heap.size w W → Calls Try.prog 22 #[.slice ad len cap, .int .i64 most] W fun e w' => e = .returned (.tuple #[.string s, .int .i64 (i : Int)]) ∧ Below W.heap.size W w') :=
    fun W hW => by rw [hs, hi]; exact refCut_any W ad len cap bs most (h.keep hW (Nat.le_refl _)) hL h0 h1
  have G18 : Hid (∀ W, Below w.heap.size w W → Calls Try.prog 18 #[.slice ad len cap] W fun e w' => e = .returned (.tuple #[.int .i64 x, .bool ok]) ∧ W = w') :=
    fun W hW => by rw [hx, hok]; exact back_any W ad len cap bs (h.keep hW (Nat.le_refl _)) hL
  have G23 : Hid (∀ W, Below w.heap.size w W → Calls Try.prog 23 #[.slice ad len cap] W fun e w' => e = .returned (.tuple #[.int .i64 x, .bool ok]) ∧ W = w') :=
    fun W hW => by rw [hx, hok]; exact refBack_any W ad len cap bs (h.keep hW (Nat.le_refl _)) hL
  clear h hn hk hs hi hx hok
  go_enter Try.func10, Try.ntmps10
  go_wp2_with fail
  refine (G15.out w (Below.refl _ _)).mono ?_
  rintro e w' ⟨rfl, rfl⟩
  go_wp2_with fail
  refine (G21.out w (Below.refl _ _)).mono ?_
  rintro e w1 ⟨rfl, hb1⟩
  have HB1 := Lib.hid hb1
  clear hb1
  go_wp2_with fail
  refine (G16.out w1 HB1.out).mono ?_
  rintro e w2 ⟨rfl, hb2⟩
  have HB2 : Hid (Below w.heap.size w w2) := HB1.out.trans (hb2.mono HB1.out.size)
  clear hb2
  go_wp2_with fail
  refine (G22.out w2 HB2.out).mono ?_
  rintro e w3 ⟨rfl, hb3⟩
  have HB3 : Hid (Below w.heap.size w w3) := HB2.out.trans (hb3.mono HB2.out.size)
  clear hb3
  go_wp2_with fail
  refine (G18.out w3 HB3.out).mono ?_
  rintro e w' ⟨rfl, rfl⟩
  go_wp2_with fail
  refine (G23.out w3 HB3.out).mono ?_
  rintro e w' ⟨rfl, rfl⟩
  have hse : (s.toList == s.toList) = true := by simp
  go_wp2
  go_ret
  exact ⟨rfl, HB3.out⟩
end Go.Proofs.Ytnahagcjieckeaa
