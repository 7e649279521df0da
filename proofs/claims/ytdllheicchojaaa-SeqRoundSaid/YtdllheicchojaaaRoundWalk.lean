/- The walk of 'SeqRound', for any three numbers. -/
import Derived.Test.YtdllheicchojaaaSeqKnown
namespace Go.Proofs.Ytdllheicchojaaa
open Go.RowKit
open Go.SeqMath
set_option linter.unusedVariables false

set_option maxRecDepth 100000 in
set_option maxHeartbeats 4000000 in
theorem round_any (a b k : Int) (w : World) :
    Calls Try.prog 3 #[.int .i64 a, .int .i64 b, .int .i64 k] w fun e w' => e = .returned (.bool true) ∧ w = w' := by
  have ex := mask31 a
  have ey := mask31 b
  have en := mask24 k
  obtain ⟨x, hx⟩ : ∃ x, x = a % 2147483648 := ⟨_, rfl⟩
  obtain ⟨y, hy⟩ : ∃ y, y = b % 2147483648 := ⟨_, rfl⟩
  obtain ⟨n, hn⟩ : ∃ n, n = k % 16777216 := ⟨_, rfl⟩
  rw [← hx] at ex
  rw [← hy] at ey
  rw [← hn] at en
  have x0 : 0 ≤ x := by omega
  have x1 : x ≤ 2147483647 := by omega
  have y0 : 0 ≤ y := by omega
  have y1 : y ≤ 2147483647 := by omega
  have n0 : 0 ≤ n := by omega
  have n1 : n ≤ 16777215 := by omega
  clear hx hy hn
  obtain ⟨o, ho⟩ : ∃ o, addI x n = o := ⟨_, rfl⟩
  obtain ⟨g, hg⟩ : ∃ g, gapI x y = g := ⟨_, rfl⟩
  obtain ⟨g', hg'⟩ : ∃ g, gapI y x = g := ⟨_, rfl⟩
  obtain ⟨s, hs⟩ : ∃ s, addI x 1 = s := ⟨_, rfl⟩
  obtain ⟨p, hp⟩ : ∃ p, addI x (n + 7) = p := ⟨_, rfl⟩
  have HO := Lib.hid ho
  have HG := Lib.hid hg
  have HG' := Lib.hid hg'
  have HS := Lib.hid hs
  have HP := Lib.hid hp
  have ob := add_right x0 x1 n
  have HR : Hid (rightB o = true) := right_yes (by omega) (by omega)
  have HH : Hid (addI o (-n) = x) := by show _ = _; rw [← ho]; exact home x0 x1
  have HN : Hid (gapI x o = n) := by show _ = _; rw [← ho]; exact gap_add x0 x1 n0 (by omega)
  have HY : Hid (addI x g = y) := by show _ = _; rw [← hg]; exact add_gap x0 x1 y0 y1
  have HF : Hid (followsB x s = true) := by show _ = _; rw [← hs]; exact follows_next x0 x1
  have HPP : Hid (addI o 7 = p) := by show _ = _; rw [← ho, ← hp]; exact add_add x0 x1 n 7
  have gb := gap_bd x y
  have gb' := gap_bd y x
  rw [hg] at gb
  rw [hg'] at gb'
  obtain ⟨g0, g1⟩ := gb
  obtain ⟨g0', g1'⟩ := gb'
  have hsum : x = y ∧ g = 0 ∧ g' = 0 ∨ x ≠ y ∧ g + g' = 2147483648 := by
    by_cases hxy : x = y
    · refine .inl ⟨hxy, ?_, ?_⟩
      · rw [← hg, hxy]; exact gap_same y0 y1
      · rw [← hg', hxy]; exact gap_same y0 y1
    · refine .inr ⟨hxy, ?_⟩
      rw [← hg, ← hg']; exact gap_both x0 x1 y0 y1 hxy
  clear ho hg hg' hs hp ob
  rcases hsum with ⟨hxy, hz, hz'⟩ | ⟨hxy, hz⟩
  · subst hxy hz hz'
    go_enter Try.func3, Try.ntmps3
    go_wp2_with fail
    refine (seq_add x n _ o (by omega) (by omega) HO.out).mono ?_
    rintro e w' ⟨rfl, rfl⟩
    go_wp2_with fail
    refine (seq_right o _ true HR.out).mono ?_
    rintro e w' ⟨rfl, rfl⟩
    go_wp2_with fail
    refine (seq_add o (-n) _ x (by omega) (by omega) HH.out).mono ?_
    rintro e w' ⟨rfl, rfl⟩
    go_wp2_with fail
    refine (seq_gap x o _ n HN.out).mono ?_
    rintro e w' ⟨rfl, rfl⟩
    go_wp2_with fail
    refine (seq_gap x x _ 0 HG.out).mono ?_
    rintro e w' ⟨rfl, rfl⟩
    go_wp2_with fail
    refine (seq_add x 0 _ x (by omega) (by omega) HY.out).mono ?_
    rintro e w' ⟨rfl, rfl⟩
    go_wp2_with fail
    refine (seq_add x 1 _ s (by omega) (by omega) HS.out).mono ?_
    rintro e w' ⟨rfl, rfl⟩
    go_wp2_with fail
    refine (seq_follows x s _ true HF.out).mono ?_
    rintro e w' ⟨rfl, rfl⟩
    go_wp2_with fail
    refine (seq_gap x x _ 0 HG.out).mono ?_
    rintro e w' ⟨rfl, rfl⟩
    go_wp2_with fail
    refine (seq_gap x x _ 0 HG'.out).mono ?_
    rintro e w' ⟨rfl, rfl⟩
    go_wp2_with fail
    refine (seq_add x n _ o (by omega) (by omega) HO.out).mono ?_
    rintro e w' ⟨rfl, rfl⟩
    go_wp2_with fail
    refine (seq_add o 7 _ p (by omega) (by omega) HPP.out).mono ?_
    rintro e w' ⟨rfl, rfl⟩
    go_wp2_with fail
    refine (seq_add x (n + 7) _ p (by omega) (by omega) HP.out).mono ?_
    rintro e w' ⟨rfl, rfl⟩
    go_wp2_with fail
    refine (known_any _).mono ?_
    rintro e w' ⟨rfl, rfl⟩
    go_wp2
    go_ret
    exact ⟨rfl, rfl⟩
  · have hxy1 : (x == y) = false := by simpa using hxy
    have hz1 : (g + g' == 0) = false := by rw [hz]; rfl
    have HXY := Lib.hid hxy
    have HZ := Lib.hid hz
    have hz2 : g + g' ≤ 2147483648 := by omega
    have hz3 : 2147483648 ≤ g + g' := by omega
    clear hxy hz
    go_enter Try.func3, Try.ntmps3
    go_wp2_with fail
    refine (seq_add x n _ o (by omega) (by omega) HO.out).mono ?_
    rintro e w' ⟨rfl, rfl⟩
    go_wp2_with fail
    refine (seq_right o _ true HR.out).mono ?_
    rintro e w' ⟨rfl, rfl⟩
    go_wp2_with fail
    refine (seq_add o (-n) _ x (by omega) (by omega) HH.out).mono ?_
    rintro e w' ⟨rfl, rfl⟩
    go_wp2_with fail
    refine (seq_gap x o _ n HN.out).mono ?_
    rintro e w' ⟨rfl, rfl⟩
    go_wp2_with fail
    refine (seq_gap x y _ g HG.out).mono ?_
    rintro e w' ⟨rfl, rfl⟩
    go_wp2_with fail
    refine (seq_add x g _ y (by omega) (by omega) HY.out).mono ?_
    rintro e w' ⟨rfl, rfl⟩
    go_wp2_with fail
    refine (seq_add x 1 _ s (by omega) (by omega) HS.out).mono ?_
    rintro e w' ⟨rfl, rfl⟩
    go_wp2_with fail
    refine (seq_follows x s _ true HF.out).mono ?_
    rintro e w' ⟨rfl, rfl⟩
    go_wp2_with fail
    refine (seq_gap x y _ g HG.out).mono ?_
    rintro e w' ⟨rfl, rfl⟩
    go_wp2_with fail
    refine (seq_gap y x _ g' HG'.out).mono ?_
    rintro e w' ⟨rfl, rfl⟩
    go_wp2_with fail
    refine (seq_add x n _ o (by omega) (by omega) HO.out).mono ?_
    rintro e w' ⟨rfl, rfl⟩
    go_wp2_with fail
    refine (seq_add o 7 _ p (by omega) (by omega) HPP.out).mono ?_
    rintro e w' ⟨rfl, rfl⟩
    go_wp2_with fail
    refine (seq_add x (n + 7) _ p (by omega) (by omega) HP.out).mono ?_
    rintro e w' ⟨rfl, rfl⟩
    go_wp2_with fail
    refine (known_any _).mono ?_
    rintro e w' ⟨rfl, rfl⟩
    go_wp2
    go_ret
    exact ⟨rfl, rfl⟩
end Go.Proofs.Ytdllheicchojaaa
