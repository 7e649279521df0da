/- The contracts of what looks at one value: number, truth, wide, Int, Flag, Must, and the statements' own ints, flags; Default. -/
import Derived.Test.YtifogkacjfpipaaNum
namespace Go.Proofs.Ytifogkacjfpipaa
open Go.RowKit
open Go.RuneMath
set_option linter.unusedVariables false

theorem default_any (w : World) : Calls Try.prog 19 #[] w fun e w' => e = .returned Cf.dflt.val ∧ Below w.heap.size w w' := by
  go_enter Try.func19, Try.ntmps19
  go_wp2
  refine bodyPost_ret (v := Cf.dflt.val) (by simp [results, Try.results19, go_sem, Cf.dflt, Cf.val]) rfl ⟨rfl, (Below.refl _ w).alloc (Nat.le_refl _) _⟩
theorem nums_mk {n m : Int} {ok : Bool} {w w' : World} (h : m = n) (hb : Below w.heap.size w w') : Nums n ok w (.returned (.tuple #[.int .i64 m, .bool ok])) w' := ⟨by rw [h], hb⟩
theorem number_i64 (w : World) (n : Int) : Calls Try.prog 22 #[.iface 2 (.int .i64 n)] w (Nums n true w) := by
  have h3 := @no3 2 (by decide) (.int .i64 n)
  have h2 := yes2 (.int .i64 n)
  go_enter Try.func22, Try.ntmps22
  go_wp2
  go_ret2
  exact nums_mk rfl (Below.refl _ w)
theorem number_int (w : World) (n : Int) : Calls Try.prog 22 #[.iface 3 (.int .i64 n)] w (Nums n true w) := by
  have h3 := yes3 (.int .i64 n)
  go_enter Try.func22, Try.ntmps22
  go_wp2
  go_ret2
  exact nums_mk rfl (Below.refl _ w)
theorem wrap_of_i32 {n : Int} (hn : (Lit.int .i32 n).wf = true) : wrap64 n = n := by
  have h0 : (decide ((-2147483648 : Int) ≤ n) && decide (n ≤ 2147483647)) = true := hn
  have h : -2147483648 ≤ n ∧ n ≤ 2147483647 := by simpa using h0
  unfold wrap64
  omega
theorem number_i32 (w : World) (n : Int) (hn : (Lit.int .i32 n).wf = true) : Calls Try.prog 22 #[.iface 21 (.int .i32 n)] w (Nums n true w) := by
  have h3 := @no3 21 (by decide) (.int .i32 n)
  have h2 := @no2 21 (by decide) (.int .i32 n)
  have h21 := yes21 (.int .i32 n)
  have e := Lib.hid (wrap_of_i32 hn)
  clear hn
  go_enter Try.func22, Try.ntmps22
  go_wp2
  go_ret2
  exact nums_mk e.out (Below.refl _ w)
theorem number_str (w : World) (s : ByteArray) (hs : s.size ≤ 140737488355328) : Calls Try.prog 22 #[.iface 9 (.string s)] w (Nums (countB s.data.toList : Nat) true w) := by
  have h3 := @no3 9 (by decide) (.string s)
  have h2 := @no2 9 (by decide) (.string s)
  have h21 := @no21 9 (by decide) (.string s)
  have h9 := yes9 (.string s)
  have C := Lib.hid (fun W => count_any W s hs)
  go_enter Try.func22, Try.ntmps22
  go_wp2_with fail
  refine (C.out _).mono ?_
  rintro e w' ⟨rfl, hb⟩
  go_wp2
  go_ret2
  exact nums_mk rfl hb
theorem number_none (w : World) {t : Nat} (x3 : t ≠ 3) (x2 : t ≠ 2) (x21 : t ≠ 21) (x9 : t ≠ 9) (v : Value) : Calls Try.prog 22 #[.iface t v] w (Nums 0 false w) := by
  have h3 := no3 x3 v
  have h2 := no2 x2 v
  have h21 := no21 x21 v
  have h9 := no9 x9 v
  clear x3 x2 x21 x9
  go_enter Try.func22, Try.ntmps22
  go_wp2
  go_ret2
  exact nums_mk rfl (Below.refl _ w)
theorem number_nil (w : World) : Calls Try.prog 22 #[.nilIface] w (Nums 0 false w) := by
  have h3 := nil3
  have h2 := nil2
  have h21 := nil21
  have h9 := nil9
  go_enter Try.func22, Try.ntmps22
  go_wp2
  go_ret2
  exact nums_mk rfl (Below.refl _ w)
def El.fine : El → Prop
  | .conf _ => True
  | .str s => s.size ≤ 140737488355328
  | .i64 _ => True
  | .int _ => True
  | .i32 n => (Lit.int .i32 n).wf = true
theorem number_el (w : World) (v : El) (hv : v.fine) : Calls Try.prog 22 #[v.val] w (Nums (v.num.getD 0) v.num.isSome w) := by
  cases v with
  | conf x => exact number_none w (by decide) (by decide) (by decide) (by decide) _
  | str s => exact number_str w s hv
  | i64 n => exact number_i64 w n
  | int n => exact number_int w n
  | i32 n => exact number_i32 w n hv
theorem int_of {v : Value} {n : Int} {ok : Bool} (C0 : ∀ W, Calls Try.prog 22 #[v] W (Nums n ok W)) (w : World) : Calls Try.prog 11 #[v] w (Nums n ok w) := by
  have C := Lib.hid C0
  clear C0
  go_enter Try.func11, Try.ntmps11
  go_wp2_with fail
  refine (C.out _).mono ?_
  rintro e w' ⟨rfl, hb⟩
  have HB := Lib.hid hb
  clear hb
  go_wp2
  go_ret2
  exact nums_mk rfl HB.out
/-- What Flag tells of a value. -/
def Flags (b ok : Bool) (w : World) (e : Ending) (w' : World) : Prop := e = .returned (.tuple #[.bool b, .bool ok]) ∧ Below w.heap.size w w'
theorem truth_bool (w : World) (b : Bool) : Calls Try.prog 23 #[.iface 4 (.bool b)] w (Flags b true w) := by
  have h4 := yes4 (.bool b)
  go_enter Try.func23, Try.ntmps23
  go_wp2
  go_ret2
  exact ⟨rfl, Below.refl _ w⟩
theorem truth_int (w : World) (n : Int) : Calls Try.prog 23 #[.iface 3 (.int .i64 n)] w (Flags (n != 0) true w) := by
  have h4 := @no4 3 (by decide) (.int .i64 n)
  have h3 := yes3 (.int .i64 n)
  go_enter Try.func23, Try.ntmps23
  go_wp2
  go_ret2
  exact ⟨rfl, Below.refl _ w⟩
theorem truth_none (w : World) {t : Nat} (x4 : t ≠ 4) (x3 : t ≠ 3) (v : Value) : Calls Try.prog 23 #[.iface t v] w (Flags false false w) := by
  have h4 := no4 x4 v
  have h3 := no3 x3 v
  clear x4 x3
  go_enter Try.func23, Try.ntmps23
  go_wp2
  go_ret2
  exact ⟨rfl, Below.refl _ w⟩
theorem truth_nil (w : World) : Calls Try.prog 23 #[.nilIface] w (Flags false false w) := by
  have h4 := nil4
  have h3 := nil3
  go_enter Try.func23, Try.ntmps23
  go_wp2
  go_ret2
  exact ⟨rfl, Below.refl _ w⟩
theorem flag_of {v : Value} {b ok : Bool} (C0 : ∀ W, Calls Try.prog 23 #[v] W (Flags b ok W)) (w : World) : Calls Try.prog 12 #[v] w (Flags b ok w) := by
  have C := Lib.hid C0
  clear C0
  go_enter Try.func12, Try.ntmps12
  go_wp2_with fail
  refine (C.out _).mono ?_
  rintro e w' ⟨rfl, hb⟩
  have HB := Lib.hid hb
  clear hb
  go_wp2
  go_ret2
  exact ⟨rfl, HB.out⟩
theorem must_any (w : World) (n : Int) : Calls Try.prog 16 #[.iface 2 (.int .i64 n)] w fun e w' => e = .returned (.int .i64 n) ∧ w = w' := by
  have h : ∀ w : World, (Instr.typeAssert (.iface 2 (.int .i64 n)) 20 2 false).run Try.prog w = .ok (.int .i64 n) w := fun w => by kernel_rfl
  go_enter Try.func16, Try.ntmps16
  go_wp2
  go_ret
  exact ⟨rfl, rfl⟩
/-- Of a value that is told a number the statements' own question has its answer. -/
theorem ints_of {v : Value} {n : Int} {ok : Bool} (C0 : ∀ W, Calls Try.prog 22 #[v] W (Nums n ok W)) (w : World) : Calls Try.prog 13 #[v, .int .i64 n, .bool ok] w fun e w' => e = .returned (.bool true) ∧ Below w.heap.size w w' := by
  have C := Lib.hid (fun W => int_of C0 W)
  clear C0
  go_enter Try.func13, Try.ntmps13
  go_wp2_with fail
  refine (C.out _).mono ?_
  rintro e w' ⟨rfl, hb⟩
  have HB := Lib.hid hb
  clear hb
  go_wp2
  go_ret
  exact ⟨rfl, HB.out⟩
theorem flags_of {v : Value} {b ok : Bool} (C0 : ∀ W, Calls Try.prog 23 #[v] W (Flags b ok W)) (w : World) : Calls Try.prog 14 #[v, .bool b, .bool ok] w fun e w' => e = .returned (.bool true) ∧ Below w.heap.size w w' := by
  have C := Lib.hid (fun W => flag_of C0 W)
  clear C0
  go_enter Try.func14, Try.ntmps14
  go_wp2_with fail
  refine (C.out _).mono ?_
  rintro e w' ⟨rfl, hb⟩
  have HB := Lib.hid hb
  clear hb
  go_wp2
  go_ret
  exact ⟨rfl, HB.out⟩
end Go.Proofs.Ytifogkacjfpipaa
