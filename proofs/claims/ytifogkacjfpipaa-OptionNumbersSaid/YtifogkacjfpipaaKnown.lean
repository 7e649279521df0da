/- The contract of 'known': chapter 4's runs. -/
import Derived.Test.YtifogkacjfpipaaConfigOf
namespace Go.Proofs.Ytifogkacjfpipaa
open Go.RowKit
open Go.RuneMath
set_option linter.unusedVariables false

abbrev tSegment : ByteArray := ⟨#[115, 101, 103, 109, 101, 110, 116]⟩
abbrev tCap : ByteArray := ⟨#[99, 97, 112]⟩
abbrev tIndex : ByteArray := ⟨#[105, 110, 100, 101, 120]⟩
abbrev tShi : ByteArray := ⟨#[228, 184, 150, 97]⟩
/-- What Config answers, told in numbers. -/
theorem config_tell (w : World) {K : Nat} (hK : K = w.heap.size) (l : List El) (a b c d n : Int) (hl : l.length ≤ maxLen) (hgood : ∀ u ∈ l, u.good) (h : (cfgC l).a = a ∧ (cfgC l).b = b ∧ (cfgC l).c = c ∧ (cfgC l).d = d ∧ cfgE l = n) :
    Calls Try.prog 9 #[.slice (some ⟨K, 0, none⟩) l.length l.length] (w.alloc (.cells (l.map El.val).toArray 20)) fun e w' => e = .returned (.tuple #[.agg #[.int .i64 a, .int .i64 b, .int .i64 c, .int .i64 d], .int .i64 n]) ∧ Below w.heap.size w w' := by
  subst hK
  obtain ⟨rfl, rfl, rfl, rfl, rfl⟩ := h
  refine (config_built w l hl hgood).mono ?_
  rintro e w' ⟨rfl, hb⟩
  refine ⟨rfl, ((Below.refl _ w).alloc (Nat.le_refl _) _).trans (hb.mono ?_)⟩
  rw [alloc_size]
  omega
theorem good_str {s : ByteArray} (h : s.size ≤ 1073741824) : (El.str s).good := ⟨Nat.le_trans h (by omega), h⟩
theorem good_int (n : Int) : (El.int n).good := ⟨trivial, trivial⟩
theorem good_i64 (n : Int) : (El.i64 n).good := ⟨trivial, trivial⟩
theorem good_conf (x : Cf) : (El.conf x).good := ⟨trivial, trivial⟩
theorem k1 (w : World) (K : Nat) (hK : K = w.heap.size) : Calls Try.prog 9 #[.slice (some ⟨K, 0, none⟩) 2 2] (w.alloc (.cells #[.iface 9 (.string tSegment), .iface 3 (.int .i64 64)] 20)) fun e w' => e = .returned (.tuple #[.agg #[.int .i64 64, .int .i64 128, .int .i64 4, .int .i64 1048576], .int .i64 0]) ∧ Below w.heap.size w w' :=
  config_tell w hK [.str tSegment, .int 64] 64 128 4 1048576 0 (by decide) (by simp; exact ⟨good_str (by decide), good_int _⟩) (by decide +kernel)
theorem k2 (w : World) (K : Nat) (hK : K = w.heap.size) : Calls Try.prog 9 #[.slice (some ⟨K, 0, none⟩) 1 1] (w.alloc (.cells #[.iface 3 (.int .i64 7)] 20)) fun e w' => e = .returned (.tuple #[.agg #[.int .i64 0, .int .i64 0, .int .i64 0, .int .i64 0], .int .i64 1]) ∧ Below w.heap.size w w' :=
  config_tell w hK [.int 7] 0 0 0 0 1 (by decide) (by simp; exact good_int _) (by decide +kernel)
theorem k3 (w : World) (K : Nat) (hK : K = w.heap.size) : Calls Try.prog 9 #[.slice (some ⟨K, 0, none⟩) 1 1] (w.alloc (.cells #[.iface 9 (.string tCap)] 20)) fun e w' => e = .returned (.tuple #[.agg #[.int .i64 0, .int .i64 0, .int .i64 0, .int .i64 0], .int .i64 1]) ∧ Below w.heap.size w w' :=
  config_tell w hK [.str tCap] 0 0 0 0 1 (by decide) (by simp; exact good_str (by decide)) (by decide +kernel)
theorem k4 (w : World) (K : Nat) (hK : K = w.heap.size) : Calls Try.prog 9 #[.slice (some ⟨K, 0, none⟩) 2 2] (w.alloc (.cells #[.iface 9 (.string tIndex), .iface 3 (.int .i64 0)] 20)) fun e w' => e = .returned (.tuple #[.agg #[.int .i64 0, .int .i64 0, .int .i64 0, .int .i64 0], .int .i64 3]) ∧ Below w.heap.size w w' :=
  config_tell w hK [.str tIndex, .int 0] 0 0 0 0 3 (by decide) (by simp; exact ⟨good_str (by decide), good_int _⟩) (by decide +kernel)
theorem e5 : countB tShi.data.toList = 2 := by decide +kernel
theorem k5 (w : World) : Calls Try.prog 11 #[.iface 9 (.string tShi)] w fun e w' => e = .returned (.tuple #[.int .i64 2, .bool true]) ∧ Below w.heap.size w w' := by
  have h := int_of (fun W => number_str W tShi (by decide)) w
  unfold Nums at h
  rw [e5] at h
  exact h
theorem k6 (w : World) (v : Value) : Calls Try.prog 11 #[.iface 41 v] w fun e w' => e = .returned (.tuple #[.int .i64 0, .bool false]) ∧ Below w.heap.size w w' :=
  int_of (fun W => number_none W (by decide) (by decide) (by decide) (by decide) v) w
theorem k7 (w : World) : Calls Try.prog 12 #[.iface 3 (.int .i64 5)] w fun e w' => e = .returned (.tuple #[.bool true, .bool true]) ∧ Below w.heap.size w w' := flag_of (fun W => truth_int W 5) w
theorem conf_at (w : World) (x : Cf) : CfAt (w.alloc (.cells #[.int .i64 x.a, .int .i64 x.b, .int .i64 x.c, .int .i64 x.d] 27)) w.heap.size x := heap_alloc_new w _
theorem field_cap (a b c d : Int) (w : World) : (Instr.field 27 (.agg #[.int .i64 a, .int .i64 b, .int .i64 c, .int .i64 d]) 3).run Try.prog w = .ok (.int .i64 d) w := by kernel_rfl
theorem stepA {w a b : World} {o : Obj} (h : Below w.heap.size w a) (k : Below (a.alloc o).heap.size (a.alloc o) b) : Below w.heap.size w b := step (h.alloc (h.size) o) k
set_option maxHeartbeats 2000000 in
set_option maxRecDepth 100000 in
theorem known_any (w : World) : Calls Try.prog 10 #[] w fun e w' => e = .returned (.bool true) ∧ Below w.heap.size w w' := by
  go_enter Try.func10, Try.ntmps10
  go_wp2_with fail
  refine (k1 _ _ (by simp)).mono ?_
  rintro e w1 ⟨rfl, hb⟩
  have HB1 := Lib.hid hb
  clear hb
  go_wp2_with fail
  refine (k2 _ _ (by simp)).mono ?_
  rintro e w2 ⟨rfl, hb⟩
  have HB2 := Lib.hid (stepA HB1.out hb)
  have HC2 := Lib.hid hb
  clear hb
  go_wp2_with fail
  refine (k3 _ _ (by simp)).mono ?_
  rintro e w3 ⟨rfl, hb⟩
  have HB3 := Lib.hid (stepA HB2.out hb)
  have HC3 := Lib.hid (stepA HC2.out hb)
  clear hb
  go_wp2_with fail
  refine (k4 _ _ (by simp)).mono ?_
  rintro e w4 ⟨rfl, hb⟩
  have HB4 := Lib.hid (stepA HB3.out hb)
  have HC4 := Lib.hid (stepA HC3.out hb)
  clear hb
  go_wp2_with fail
  refine (k5 _).mono ?_
  rintro e w5 ⟨rfl, hb⟩
  have HB5 := Lib.hid (stepA HB4.out hb)
  have HC5 := Lib.hid (stepA HC4.out hb)
  clear hb
  go_wp2_with fail
  refine (k6 _ _).mono ?_
  rintro e w6 ⟨rfl, hb⟩
  have HB6 := Lib.hid (step HB5.out hb)
  have HC6 := Lib.hid (step HC5.out hb)
  clear hb
  go_wp2_with fail
  refine (k7 _).mono ?_
  rintro e w7 ⟨rfl, hb⟩
  have HB7 := Lib.hid (step HB6.out hb)
  have HC7 := Lib.hid (step HC6.out hb)
  clear hb
  have hcf := (conf_at w1 ⟨64, 128, 4, 1048576⟩).below HC7.out (by simp)
  have x0 := hcf.cell0
  have x1 := hcf.cell1
  clear hcf
  go_wp2_with fail
  refine (must_any _ 9).mono ?_
  rintro e w8 ⟨rfl, rfl⟩
  go_wp2_with fail
  refine (default_lit _).mono ?_
  rintro e w9 ⟨rfl, hb⟩
  have HB9 := Lib.hid (step HB7.out hb)
  clear hb
  have hfd := fun W => field_cap 1024 128 4 1048576 W
  go_wp2
  go_ret
  exact ⟨rfl, HB9.out⟩
end Go.Proofs.Ytifogkacjfpipaa
