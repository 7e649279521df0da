/- The contracts of the functions over one value: within, narrow, number, truth, Int, Flag, Must; Default. -/
import Derived.WalkKit
import Derived.BigCall
import Derived.Laws.ResultCell
import Derived.Test.YtifogkacjfpipaaConf
namespace Go.Proofs.Ytifogkacjfpipaa
open Go.RowKit
open Go.RuneMath
set_option linter.unusedVariables false

theorem within_any (w : World) (n : Int) : Calls Try.prog 27 #[.int .i64 n] w fun e w' => e = .returned (.bool (within n)) ∧ w = w' := by
  obtain ⟨b, hb⟩ : ∃ b, b = within n := ⟨_, rfl⟩
  rw [← hb]
  have HB := Lib.hid hb
  clear hb
  go_enter Try.func27, Try.ntmps27
  go_wp2
  all_goals
    go_ret
    exact ⟨ret_bool (by rw [HB.out]; unfold within; rw [Bool.eq_iff_iff]; simp; omega), rfl⟩
theorem narrow_any (w : World) (n : Int) : Calls Try.prog 30 #[.int .i64 n] w fun e w' => e = .returned (.int .i64 (narrow n)) ∧ w = w' := by
  obtain ⟨b, hb⟩ : ∃ b, b = within n := ⟨_, rfl⟩
  have C0 := fun W => within_any W n
  rw [← hb] at C0
  have C := Lib.hid C0
  have HB := Lib.hid hb
  clear hb C0
  go_enter Try.func30, Try.ntmps30
  cases b
  all_goals
    go_wp2_with fail
    refine (C.out _).mono ?_
    rintro e w' ⟨rfl, rfl⟩
    go_wp2
    go_ret
    exact ⟨by unfold narrow; rw [← HB.out]; rfl, rfl⟩
/-- What Int tells of a value. -/
def Nums (n : Int) (ok : Bool) (w : World) (e : Ending) (w' : World) : Prop := e = .returned (.tuple #[.int .i64 n, .bool ok]) ∧ Below w.heap.size w w'
theorem ta_gen {T : Nat} {z : Value} {i : TypeInfo} {y : TypeDesc} (hu : Try.prog.underlying T = some y) (hy : ∀ a, y ≠ .interface a) (hi : Try.prog.info? T = some i) (hz : i.zero = some z) (t : Nat) (v : Value) (w : World) : (Instr.typeAssert (.iface t v) 20 T true).run Try.prog w = if t = T then .ok (.tuple #[v, .bool true]) w else .ok (.tuple #[z, .bool false]) w := by
  cases y <;> first | exact absurd rfl (hy _) | skip
  all_goals
    by_cases h : t = T
    · simp [Instr.typeAssert, run_underlying hu, h]
    · simp [Instr.typeAssert, run_underlying hu, h, zeroValue, typeInfo, hi, hz]
theorem zero_of {T : Nat} {z : Value} (h : (Try.prog.info? T).map (fun i => i.zero) = some (some z)) : ∃ i, Try.prog.info? T = some i ∧ i.zero = some z := by
  obtain ⟨i, hi, hz⟩ := Option.map_eq_some_iff.1 h
  exact ⟨i, hi, hz⟩
/-- A value of another type is none of those that are asked for. -/
theorem ta_no {T : Nat} {z : Value} {y : TypeDesc} (hu : Try.prog.underlying T = some y) (hy : ∀ a, y ≠ .interface a) (h : (Try.prog.info? T).map (fun i => i.zero) = some (some z)) {t : Nat} (ht : t ≠ T) (v : Value) (w : World) : (Instr.typeAssert (.iface t v) 20 T true).run Try.prog w = .ok (.tuple #[z, .bool false]) w := by
  obtain ⟨i, hi, hz⟩ := zero_of h
  rw [ta_gen hu hy hi hz, if_neg ht]
theorem ta_yes {T : Nat} {z : Value} {y : TypeDesc} (hu : Try.prog.underlying T = some y) (hy : ∀ a, y ≠ .interface a) (h : (Try.prog.info? T).map (fun i => i.zero) = some (some z)) (v : Value) (w : World) : (Instr.typeAssert (.iface T v) 20 T true).run Try.prog w = .ok (.tuple #[v, .bool true]) w := by
  obtain ⟨i, hi, hz⟩ := zero_of h
  rw [ta_gen hu hy hi hz, if_pos rfl]
theorem no2 {t : Nat} (ht : t ≠ 2) (v : Value) (w : World) : (Instr.typeAssert (.iface t v) 20 2 true).run Try.prog w = .ok (.tuple #[.int .i64 0, .bool false]) w := ta_no Try.underlying2 (fun _ h => by cases h) (by kernel_rfl) ht v w
theorem no3 {t : Nat} (ht : t ≠ 3) (v : Value) (w : World) : (Instr.typeAssert (.iface t v) 20 3 true).run Try.prog w = .ok (.tuple #[.int .i64 0, .bool false]) w := ta_no Try.underlying3 (fun _ h => by cases h) (by kernel_rfl) ht v w
theorem no4 {t : Nat} (ht : t ≠ 4) (v : Value) (w : World) : (Instr.typeAssert (.iface t v) 20 4 true).run Try.prog w = .ok (.tuple #[.bool false, .bool false]) w := ta_no Try.underlying4 (fun _ h => by cases h) (by kernel_rfl) ht v w
theorem no9 {t : Nat} (ht : t ≠ 9) (v : Value) (w : World) : (Instr.typeAssert (.iface t v) 20 9 true).run Try.prog w = .ok (.tuple #[.string ⟨#[]⟩, .bool false]) w := ta_no Try.underlying9 (fun _ h => by cases h) (by kernel_rfl) ht v w
theorem no21 {t : Nat} (ht : t ≠ 21) (v : Value) (w : World) : (Instr.typeAssert (.iface t v) 20 21 true).run Try.prog w = .ok (.tuple #[.int .i32 0, .bool false]) w := ta_no Try.underlying21 (fun _ h => by cases h) (by kernel_rfl) ht v w
theorem no27 {t : Nat} (ht : t ≠ 27) (v : Value) (w : World) : (Instr.typeAssert (.iface t v) 20 27 true).run Try.prog w = .ok (.tuple #[Cf.zero.val, .bool false]) w := ta_no Try.underlying27 (fun _ h => by cases h) (by kernel_rfl) ht v w
theorem yes2 (v : Value) (w : World) : (Instr.typeAssert (.iface 2 v) 20 2 true).run Try.prog w = .ok (.tuple #[v, .bool true]) w := ta_yes Try.underlying2 (fun _ h => by cases h) (z := .int .i64 0) (by kernel_rfl) v w
theorem yes3 (v : Value) (w : World) : (Instr.typeAssert (.iface 3 v) 20 3 true).run Try.prog w = .ok (.tuple #[v, .bool true]) w := ta_yes Try.underlying3 (fun _ h => by cases h) (z := .int .i64 0) (by kernel_rfl) v w
theorem yes4 (v : Value) (w : World) : (Instr.typeAssert (.iface 4 v) 20 4 true).run Try.prog w = .ok (.tuple #[v, .bool true]) w := ta_yes Try.underlying4 (fun _ h => by cases h) (z := .bool false) (by kernel_rfl) v w
theorem yes9 (v : Value) (w : World) : (Instr.typeAssert (.iface 9 v) 20 9 true).run Try.prog w = .ok (.tuple #[v, .bool true]) w := ta_yes Try.underlying9 (fun _ h => by cases h) (z := .string ⟨#[]⟩) (by kernel_rfl) v w
theorem yes21 (v : Value) (w : World) : (Instr.typeAssert (.iface 21 v) 20 21 true).run Try.prog w = .ok (.tuple #[v, .bool true]) w := ta_yes Try.underlying21 (fun _ h => by cases h) (z := .int .i32 0) (by kernel_rfl) v w
theorem yes27 (v : Value) (w : World) : (Instr.typeAssert (.iface 27 v) 20 27 true).run Try.prog w = .ok (.tuple #[v, .bool true]) w := ta_yes Try.underlying27 (fun _ h => by cases h) (z := Cf.zero.val) (by kernel_rfl) v w
theorem nil2 (w : World) : (Instr.typeAssert .nilIface 20 2 true).run Try.prog w = .ok (.tuple #[.int .i64 0, .bool false]) w := by kernel_rfl
theorem nil3 (w : World) : (Instr.typeAssert .nilIface 20 3 true).run Try.prog w = .ok (.tuple #[.int .i64 0, .bool false]) w := by kernel_rfl
theorem nil4 (w : World) : (Instr.typeAssert .nilIface 20 4 true).run Try.prog w = .ok (.tuple #[.bool false, .bool false]) w := by kernel_rfl
theorem nil9 (w : World) : (Instr.typeAssert .nilIface 20 9 true).run Try.prog w = .ok (.tuple #[.string ⟨#[]⟩, .bool false]) w := by kernel_rfl
theorem nil21 (w : World) : (Instr.typeAssert .nilIface 20 21 true).run Try.prog w = .ok (.tuple #[.int .i32 0, .bool false]) w := by kernel_rfl
end Go.Proofs.Ytifogkacjfpipaa
