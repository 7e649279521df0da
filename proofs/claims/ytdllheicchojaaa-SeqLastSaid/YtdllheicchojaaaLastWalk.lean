/- The walk of 'SeqLast', for any three numbers. -/
import Derived.Test.YtdllheicchojaaaSeqKnown
namespace Go.Proofs.Ytdllheicchojaaa
open Go.RowKit
open Go.SeqMath
set_option linter.unusedVariables false

set_option maxRecDepth 100000 in
set_option maxHeartbeats 4000000 in
theorem lasts_any (f n m : Int) (w : World) :
    Calls Try.prog 4 #[.int .i64 f, .int .i64 n, .int .i64 m] w fun e w' => e = .returned (.bool true) ∧ w = w' := by
  have ex := mask31 f
  have ea := mask4 n
  have eb := mask4 m
  obtain ⟨x, hx⟩ : ∃ x, x = f % 2147483648 := ⟨_, rfl⟩
  obtain ⟨a, ha⟩ : ∃ y, y = n % 16 := ⟨_, rfl⟩
  obtain ⟨b, hb⟩ : ∃ y, y = m % 16 := ⟨_, rfl⟩
  rw [← hx] at ex
  rw [← ha] at ea
  rw [← hb] at eb
  have x0 : 0 ≤ x := by omega
  have x1 : x ≤ 2147483647 := by omega
  have a0 : 0 ≤ a := by omega
  have a1 : a ≤ 15 := by omega
  have b0 : 0 ≤ b := by omega
  have b1 : b ≤ 15 := by omega
  clear hx ha hb
  obtain ⟨l, hl⟩ : ∃ l, addI x a = l := ⟨_, rfl⟩
  obtain ⟨q, hq⟩ : ∃ q, addI x (a + 1) = q := ⟨_, rfl⟩
  obtain ⟨z, hz⟩ : ∃ z, addI q b = z := ⟨_, rfl⟩
  have HL : Hid (lastI x (1 + a) = l) := by show _ = _; rw [last_yes (by omega) (by omega), show 1 + a - 1 = a from by omega]; exact hl
  have HQ : Hid (addI l 1 = q) := by show _ = _; rw [← hl, ← hq]; exact add_add x0 x1 a 1
  have lb := add_right x0 x1 a
  have HF : Hid (followsB l q = true) := by show _ = _; rw [← HQ.out]; exact follows_next (by omega) (by omega)
  have HG : Hid (gapI x q = 1 + a) := by show _ = _; rw [← hq, gap_add x0 x1 (by omega) (by omega)]; omega
  have HZ : Hid (lastI q (1 + b) = z) := by show _ = _; rw [last_yes (by omega) (by omega), show 1 + b - 1 = b from by omega]; exact hz
  have HA : Hid (addI x (1 + a + (1 + b) - 1) = z) := by show _ = _; rw [← hz, ← hq, add_add x0 x1, show a + 1 + b = 1 + a + (1 + b) - 1 from by omega]
  have HN : Hid (followsB l x = false) := by show _ = _; rw [← hl]; exact follows_not x0 x1 a0 (by omega)
  clear hl hq hz lb
  go_enter Try.func4, Try.ntmps4
  go_wp2_with fail
  refine (seq_last x (1 + a) _ l (by omega) (by omega) HL.out).mono ?_
  rintro e w' ⟨rfl, rfl⟩
  go_wp2_with fail
  refine (seq_add l 1 _ q (by omega) (by omega) HQ.out).mono ?_
  rintro e w' ⟨rfl, rfl⟩
  go_wp2_with fail
  refine (seq_last x (1 + a) _ l (by omega) (by omega) HL.out).mono ?_
  rintro e w' ⟨rfl, rfl⟩
  go_wp2_with fail
  refine (seq_follows l q _ true HF.out).mono ?_
  rintro e w' ⟨rfl, rfl⟩
  go_wp2_with fail
  refine (seq_gap x q _ (1 + a) HG.out).mono ?_
  rintro e w' ⟨rfl, rfl⟩
  go_wp2_with fail
  refine (seq_last q (1 + b) _ z (by omega) (by omega) HZ.out).mono ?_
  rintro e w' ⟨rfl, rfl⟩
  go_wp2_with fail
  refine (seq_add x (1 + a + (1 + b) - 1) _ z (by omega) (by omega) HA.out).mono ?_
  rintro e w' ⟨rfl, rfl⟩
  go_wp2_with fail
  refine (seq_last x (1 + a) _ l (by omega) (by omega) HL.out).mono ?_
  rintro e w' ⟨rfl, rfl⟩
  go_wp2_with fail
  refine (seq_follows l x _ false HN.out).mono ?_
  rintro e w' ⟨rfl, rfl⟩
  go_wp2_with fail
  refine (seq_last x 0 _ (-1) (by omega) (by omega) (last_no (.inl (by omega)) x)).mono ?_
  rintro e w' ⟨rfl, rfl⟩
  go_wp2_with fail
  refine (seq_last x 17 _ (-1) (by omega) (by omega) (last_no (.inr (by omega)) x)).mono ?_
  rintro e w' ⟨rfl, rfl⟩
  go_wp2_with fail
  refine (known_any _).mono ?_
  rintro e w' ⟨rfl, rfl⟩
  go_wp2
  go_ret
  exact ⟨rfl, rfl⟩
end Go.Proofs.Ytdllheicchojaaa
