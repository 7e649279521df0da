/- The contracts of the code's Back, and of the document's own. -/
import Derived.Test.YtelbignfecjjhaaVarBase
namespace Go.Proofs.Ytelbignfecjjhaa
open Go.RowKit
open Go.VarMath hiding AllB
set_option linter.unusedVariables false

theorem u64_eq {a b : Int} (h : a = b) : Value.int .u64 a = Value.int .u64 b := by rw [h]
theorem run_upto (ad : Option Addr) (len cap h : Nat) (hc : h ≤ cap) (w : World) :
    (Instr.slice 29 (.slice ad len cap) none (some (.int .i64 (h : Int))) none).run Try.prog w = .ok (.slice ad h cap) w := by
  rw [run_slice_h _ _ _ _ _ elem22 _ _ (by omega) (by omega), sizeElem]
  simp only [Result.andThen, sliced, Int.toNat_natCast]
  rcases ad with _ | a
  · simp
  · simp [Addr.add]
theorem or_shift8 (u x : Nat) (hu : u < 72057594037927936) (hx : x < 256) : bits .or .u64 ((u : Int) * 256) (x : Int) = ((u * 256 + x : Nat) : Int) := by
  have e : (u : Int) * 256 = ((u * 256 : Nat) : Int) := by omega
  rw [e, u64_or_nat (u * 256) x (by omega) (by omega), nat_join 8 (u * 256) x (Nat.mul_mod_left _ _) (by simpa using hx)]
theorem wrap64_sg (u : Nat) (hu : u < 18446744073709551616) : wrap64 (u : Int) = sg64 u := by
  unfold wrap64 sg64
  split <;> omega
theorem unbe_small {bs : List Nat} (h : AllB bs) (k : Nat) (hk : k < 8) : unbe (bs.take k) < 72057594037927936 := by
  have h1 := unbe_lt (take_all h k)
  have h2 : (bs.take k).length ≤ 7 := by rw [List.length_take]; omega
  have h3 : (256 : Nat) ^ (bs.take k).length ≤ 256 ^ 7 := Nat.pow_le_pow_right (by omega) h2
  have h4 : (256 : Nat) ^ 7 = 72057594037927936 := by decide
  omega
theorem unbe_eight {bs : List Nat} (h : AllB bs) : unbe (bs.take 8) < 18446744073709551616 := by
  have h1 := unbe_lt (take_all h 8)
  have h2 : (bs.take 8).length ≤ 8 := by rw [List.length_take]; omega
  have h3 : (256 : Nat) ^ (bs.take 8).length ≤ 256 ^ 8 := Nat.pow_le_pow_right (by omega) h2
  rw [pow8] at h3
  omega
theorem ret_back {a b : Int} (h : a = b) : Ending.returned (.tuple #[.int .i64 a, .bool true]) = .returned (.tuple #[.int .i64 b, .bool true]) := by rw [h]
/-- What both give. -/
def GivesBack (bs : List Nat) (w : World) (e : Ending) (w' : World) : Prop := e = .returned (.tuple #[.int .i64 (backB bs).1, .bool (backB bs).2]) ∧ w = w'
theorem gives_back_no {bs : List Nat} {w : World} (h : bs.length < 8) : GivesBack bs w (.returned (.tuple #[.int .i64 0, .bool false])) w := by
  unfold GivesBack; rw [backB_short h]; exact ⟨rfl, rfl⟩
theorem gives_back {bs : List Nat} {w : World} {x : Int} (h : ¬ bs.length < 8) (hx : x = sg64 (unbe (bs.take 8))) : GivesBack bs w (.returned (.tuple #[.int .i64 x, .bool true])) w := by
  unfold GivesBack backB; rw [if_neg h, hx]; exact ⟨rfl, rfl⟩
set_option maxHeartbeats 400000 in
theorem back_any (w : World) (ad : Option Addr) (len cap : Nat) (bs : List Nat) (h : Byt w ad len cap bs) (hL : len ≤ 140737488355328) :
    Calls Try.prog 29 #[.slice ad len cap] w (GivesBack bs w) := by
  have HL := Lib.hid h.length
  by_cases h8 : len < 8
  · have hd : decide ((len : Int) < 8) = true := by simp; omega
    go_enter Try.func29, Try.ntmps29
    go_wp2
    go_ret2
    exact gives_back_no (by rw [HL.out]; exact h8)
  · have hd : decide ((len : Int) < 8) = false := by simp; omega
    obtain ⟨hlen, hfit, hall, hcs⟩ := h
    rcases hcs with h0 | ⟨b, off, rfl, hcell⟩
    · omega
    have hsl := run_upto (some ⟨b, off, none⟩) len cap 8 (by omega)
    have HC := Lib.hid hcell
    have HA := Lib.hid hall
    clear hlen hcell hall
    go_enter Try.func29, Try.ntmps29
    go_wp2
    go_loop [4, 13] (fun v4 v13 => ∃ k : Nat, k ≤ 8 ∧ v13 = .int .i64 k ∧ v4 = .int .u64 (unbe (bs.take k) : Nat)) (fun _ i => 8 - (intOf i).toNat)
    case atStart => exact ⟨0, by omega, rfl, rfl⟩
    case round =>
      obtain ⟨k, hk, rfl, rfl⟩ := hrel
      by_cases hlt : k < 8
      · have hu := unbe_small HA.out k hlt
        have hx8 := getD_all HA.out k
        have hc := HC.out k (by omega)
        have hs := unbe_take bs k (by rw [HL.out]; omega)
        obtain ⟨u, hue⟩ : ∃ u, u = unbe (bs.take k) := ⟨_, rfl⟩
        obtain ⟨x, hxe⟩ : ∃ x, x = bs.getD k 0 := ⟨_, rfl⟩
        rw [← hue] at hu hs ⊢
        rw [← hxe] at hx8 hc hs
        have HS := Lib.hid hs
        clear hue hxe hs
        have hor := or_shift8 u x hu hx8
        go_wp2
        go_round
        case rel => exact ⟨k + 1, by omega, by go_num, by rw [HS.out]; exact u64_eq (by omega)⟩
        case measure => simp [intOf]; omega
      · obtain rfl : k = 8 := by omega
        have hu := unbe_eight HA.out
        obtain ⟨u, hue⟩ : ∃ u, u = unbe (bs.take 8) := ⟨_, rfl⟩
        rw [← hue] at hu ⊢
        have HU := Lib.hid hue
        clear hue
        go_wp2
        go_ret2
        exact gives_back (by rw [HL.out]; exact h8) (by rw [← HU.out]; exact wrap64_sg u hu)
set_option maxHeartbeats 400000 in
theorem refBack_any (w : World) (ad : Option Addr) (len cap : Nat) (bs : List Nat) (h : Byt w ad len cap bs) (hL : len ≤ 140737488355328) :
    Calls Try.prog 25 #[.slice ad len cap] w (GivesBack bs w) := by
  have HL := Lib.hid h.length
  by_cases h8 : len < 8
  · have hd : decide ((len : Int) < 8) = true := by simp; omega
    go_enter Try.func25, Try.ntmps25
    go_wp2
    go_ret2
    exact gives_back_no (by rw [HL.out]; exact h8)
  · have hd : decide ((len : Int) < 8) = false := by simp; omega
    obtain ⟨hlen, hfit, hall, hcs⟩ := h
    rcases hcs with h0 | ⟨b, off, rfl, hcell⟩
    · omega
    have HC := Lib.hid hcell
    have HA := Lib.hid hall
    clear hlen hcell hall
    go_enter Try.func25, Try.ntmps25
    go_wp2
    go_loop [4, 5] (fun v4 v5 => ∃ k : Nat, k ≤ 8 ∧ v5 = .int .i64 k ∧ v4 = .int .u64 (unbe (bs.take k) : Nat)) (fun _ i => 8 - (intOf i).toNat)
    case atStart => exact ⟨0, by omega, rfl, rfl⟩
    case round =>
      obtain ⟨k, hk, rfl, rfl⟩ := hrel
      by_cases hlt : k < 8
      · have hu := unbe_small HA.out k hlt
        have hx8 := getD_all HA.out k
        have hc := HC.out k (by omega)
        have hs := unbe_take bs k (by rw [HL.out]; omega)
        obtain ⟨u, hue⟩ : ∃ u, u = unbe (bs.take k) := ⟨_, rfl⟩
        obtain ⟨x, hxe⟩ : ∃ x, x = bs.getD k 0 := ⟨_, rfl⟩
        rw [← hue] at hu hs ⊢
        rw [← hxe] at hx8 hc hs
        have HS := Lib.hid hs
        clear hue hxe hs
        have hor := or_shift8 u x hu hx8
        go_wp2
        go_round
        case rel => exact ⟨k + 1, by omega, by go_num, by rw [HS.out]; exact u64_eq (by omega)⟩
        case measure => simp [intOf]; omega
      · obtain rfl : k = 8 := by omega
        have hu := unbe_eight HA.out
        obtain ⟨u, hue⟩ : ∃ u, u = unbe (bs.take 8) := ⟨_, rfl⟩
        rw [← hue] at hu ⊢
        have HU := Lib.hid hue
        clear hue
        go_wp2
        go_ret2
        exact gives_back (by rw [HL.out]; exact h8) (by rw [← HU.out]; exact wrap64_sg u hu)
end Go.Proofs.Ytelbignfecjjhaa
