/- The contract of the number that stands in the first four bytes: 'unl'. Condition: four bytes at least. -/
import Derived.Test.YtepbmipddblkmaaOf
namespace Go.Proofs.Ytepbmipddblkmaa
open Go.RowKit Go.CrcMath
set_option linter.unusedVariables false

theorem or_join (i d e : Nat) (hd : d < 2 ^ i) (h : e * 2 ^ i + d < 4294967296) : bits .or .u32 (d : Int) ((e * 2 ^ i : Nat) : Int) = ((d + e * 2 ^ i : Nat) : Int) := by
  rw [u32_or_nat d (e * 2 ^ i) (by omega) (by omega), Nat.or_comm, nat_join i (e * 2 ^ i) d (Nat.mul_mod_left _ _) hd, Nat.add_comm]
theorem or0 (x : Nat) (h : x < 256) : bits .or .u32 0 (x : Int) = (x : Int) := by
  have := u32_or_nat 0 x (by omega) (by omega)
  rw [Nat.zero_or] at this
  exact this
theorem or8 (d e : Nat) (hd : d < 256) (he : e < 256) : bits .or .u32 (d : Int) ((e : Int) * 256) = ((d + e * 256 : Nat) : Int) := or_join 8 d e hd (by omega)
theorem or16 (d e : Nat) (hd : d < 65536) (he : e < 256) : bits .or .u32 (d : Int) ((e : Int) * 65536) = ((d + e * 65536 : Nat) : Int) := or_join 16 d e hd (by omega)
theorem or24 (d e : Nat) (hd : d < 16777216) (he : e < 256) : bits .or .u32 (d : Int) ((e : Int) * 16777216) = ((d + e * 16777216 : Nat) : Int) := or_join 24 d e hd (by omega)
set_option maxHeartbeats 400000 in
theorem stored_any (w : World) (b off len cap : Nat) (x0 x1 x2 x3 : Nat) (h4 : 4 ≤ len) (hL : len ≤ 140737488355328)
    (c0 : w.cell? ⟨b, off, none⟩ = some (.int .u8 x0)) (c1 : w.cell? ⟨b, off + 1, none⟩ = some (.int .u8 x1)) (c2 : w.cell? ⟨b, off + 2, none⟩ = some (.int .u8 x2)) (c3 : w.cell? ⟨b, off + 3, none⟩ = some (.int .u8 x3))
    (h0 : x0 < 256) (h1 : x1 < 256) (h2 : x2 < 256) (h3 : x3 < 256) :
    Calls Try.prog 18 #[.slice (some ⟨b, off, none⟩) len cap] w fun e w' => e = .returned (.int .u32 (unl [x0, x1, x2, x3] : Nat)) ∧ w = w' := by
  go_enter Try.func18, Try.ntmps18
  go_wp2
  refine wp_loop_rounds 5 ?_
  rw [rounds_succ]
  go_wp2
  rw [rounds_succ]
  go_wp2
  rw [rounds_succ]
  go_wp2
  rw [rounds_succ]
  go_wp2
  rw [rounds_succ]
  go_wp2
  go_ret
  refine ⟨ret_u32 ?_, rfl⟩
  rw [or0 x0 h0, or8 x0 x1 h0 h1, or16 _ x2 (by omega) h2, or24 _ x3 (by omega) h3]
  simp only [unl]
  omega
end Go.Proofs.Ytepbmipddblkmaa
