/- The contract of change: the first element of a list of options, and what it takes, done to a configuration in memory. -/
import Derived.Test.YtifogkacjfpipaaSet
namespace Go.Proofs.Ytifogkacjfpipaa
open Go.RowKit
open Go.RuneMath
set_option linter.unusedVariables false

def El.good (v : El) : Prop := v.fine ∧ v.ok
/-- The slice from place off of block g on holds these elements. -/
def AnysAt (w : World) (g off : Nat) (l : List El) : Prop := ∀ i v, l[i]? = some v → w.cell? ⟨g, off + i, none⟩ = some v.val
theorem AnysAt.below {w w' : World} {g off b : Nat} {l : List El} (h : AnysAt w g off l) (hb : Below b w w') (hg : g < b) : AnysAt w' g off l := fun i v hi => (hb.cell hg).trans (h i v hi)
theorem AnysAt.drop {w : World} {g off : Nat} {l : List El} (h : AnysAt w g off l) (n : Nat) : AnysAt w g (off + n) (l.drop n) := by
  intro i v hi
  rw [List.getElem?_drop] at hi
  rw [Nat.add_assoc]
  exact h (n + i) v hi
def Changes (k n : Nat) (x : Cf) (w : World) (e : Ending) (w' : World) : Prop := e = .returned (.int .i64 (n : Nat)) ∧ CfAt w' k x ∧ Below k w w'
theorem change_conf (w : World) (k g off n cap : Nat) (x y : Cf) (hk : CfAt w k x) (hn : 1 ≤ n) (hc : w.cell? ⟨g, off, none⟩ = some (El.conf y).val) : Calls Try.prog 20 #[.pointer (some ⟨k, 0, none⟩), .slice (some ⟨g, off, none⟩) n cap] w (Changes k 1 y w) := by
  have y27 := yes27 y.val
  unfold El.val at hc
  unfold Cf.val at hc y27
  have HK := Lib.hid hk
  have HL := Lib.hid hk.lt
  have c0 := hk.cells 0 (by omega)
  have c1 := hk.cells 1 (by omega)
  have c2 := hk.cells 2 (by omega)
  have c3 := hk.cells 3 (by omega)
  have f0 := hk.free 0
  have f1 := hk.free 1
  have f2 := hk.free 2
  have f3 := hk.free 3
  have hlt := hk.lt
  clear hk
  go_enter Try.func20, Try.ntmps20
  go_wp2
  go_ret
  have p := (((HK.out.put (j := 0) (by omega) y.a).put (j := 1) (by omega) y.b).put (j := 2) (by omega) y.c).put (j := 3) (by omega) y.d
  have e : (((x.put 0 y.a).put 1 y.b).put 2 y.c).put 3 y.d = y := rfl
  rw [e] at p
  have b := (((((Below.refl k w).setCell (p := ⟨k, 0, none⟩) (Nat.le_refl _) (.int .i64 y.a)).setCell (p := ⟨k, 1, none⟩) (Nat.le_refl _) (.int .i64 y.b)).setCell (p := ⟨k, 2, none⟩) (Nat.le_refl _) (.int .i64 y.c)).setCell (p := ⟨k, 3, none⟩) (Nat.le_refl _) (.int .i64 y.d))
  have hl := b.size
  have hL := HL.out
  refine ⟨rfl, p.below ((Below.refl _ _).alloc (Nat.le_refl _) _) (by omega), b.alloc (by omega) _⟩
theorem change_num (w : World) (k g off n cap : Nat) (x : Cf) {t : Nat} (u : Value) (t27 : t ≠ 27) (t9 : t ≠ 9) (hk : CfAt w k x) (hn : 1 ≤ n) (hc : w.cell? ⟨g, off, none⟩ = some (.iface t u)) : Calls Try.prog 20 #[.pointer (some ⟨k, 0, none⟩), .slice (some ⟨g, off, none⟩) n cap] w (Changes k 0 x w) := by
  have y27 := no27 t27 u
  have y9 := no9 t9 u
  clear t27 t9
  have HK := Lib.hid hk
  clear hk
  go_enter Try.func20, Try.ntmps20
  go_wp2
  go_ret
  exact ⟨rfl, HK.out, Below.refl _ _⟩
theorem change_one (w : World) (k g off cap : Nat) (x : Cf) (s : ByteArray) (hk : CfAt w k x) (hc : w.cell? ⟨g, off, none⟩ = some (El.str s).val) : Calls Try.prog 20 #[.pointer (some ⟨k, 0, none⟩), .slice (some ⟨g, off, none⟩) 1 cap] w (Changes k 0 x w) := by
  have y27 := @no27 9 (by decide) (.string s)
  have y9 := yes9 (.string s)
  have HK := Lib.hid hk
  unfold El.val at hc
  clear hk
  go_enter Try.func20, Try.ntmps20
  go_wp2
  go_ret
  exact ⟨rfl, HK.out, Below.refl _ _⟩
theorem change_two (w : World) (k g off n cap : Nat) (x : Cf) (s : ByteArray) (v : El) (hk : CfAt w k x) (hn : 2 ≤ n) (hs : s.size ≤ 1073741824) (hv : v.fine) (hc : w.cell? ⟨g, off, none⟩ = some (El.str s).val) (hc1 : w.cell? ⟨g, off + 1, none⟩ = some v.val) : Calls Try.prog 20 #[.pointer (some ⟨k, 0, none⟩), .slice (some ⟨g, off, none⟩) n cap] w (Changes k (if setK s v then 2 else 0) (setC x s v) w) := by
  have y27 := @no27 9 (by decide) (.string s)
  have y9 := yes9 (.string s)
  have HK := Lib.hid hk
  have C := Lib.hid (fun W h => set_any W k x s v h hv hs)
  unfold El.val at hc
  obtain ⟨b, hb⟩ : ∃ b, b = setK s v := ⟨_, rfl⟩
  rw [← hb] at C
  rw [← hb]
  obtain ⟨u, hu⟩ : ∃ u, u = v.val := ⟨_, rfl⟩
  rw [← hu] at C hc1
  have hn1 : (1 : Int) < (n : Int) := by omega
  clear hk hv hs hb hu
  cases b
  · go_enter Try.func20, Try.ntmps20
    go_wp2_with fail
    refine (C.out _ HK.out).mono ?_
    rintro e w1 ⟨rfl, h1, h2⟩
    have H1 := Lib.hid h1
    have H2 := Lib.hid h2
    clear h1 h2
    go_wp2
    go_ret
    exact ⟨rfl, H1.out, H2.out⟩
  · go_enter Try.func20, Try.ntmps20
    go_wp2_with fail
    refine (C.out _ HK.out).mono ?_
    rintro e w1 ⟨rfl, h1, h2⟩
    have H1 := Lib.hid h1
    have H2 := Lib.hid h2
    clear h1 h2
    go_wp2
    go_ret
    exact ⟨rfl, H1.out, H2.out⟩
theorem change_any (w : World) (k g off n cap : Nat) (x : Cf) (l : List El) (hk : CfAt w k x) (hl : l.length = n) (hn : 1 ≤ n) (hg : ∀ v ∈ l, v.good) (hc : AnysAt w g off l) : Calls Try.prog 20 #[.pointer (some ⟨k, 0, none⟩), .slice (some ⟨g, off, none⟩) n cap] w (Changes k (chN l) (chC x l) w) := by
  match l, hl with
  | [], hl => simp at hl; omega
  | .conf y :: r, hl => exact change_conf w k g off n cap x y hk hn (hc 0 _ rfl)
  | .i64 m :: r, hl => exact change_num w k g off n cap x _ (by decide) (by decide) hk hn (hc 0 _ rfl)
  | .int m :: r, hl => exact change_num w k g off n cap x _ (by decide) (by decide) hk hn (hc 0 _ rfl)
  | .i32 m :: r, hl => exact change_num w k g off n cap x _ (by decide) (by decide) hk hn (hc 0 _ rfl)
  | [.str s], hl =>
    have : n = 1 := hl.symm
    subst this
    exact change_one w k g off cap x s hk (hc 0 _ rfl)
  | .str s :: v :: r, hl =>
    have h2 : 2 ≤ n := by simp at hl; omega
    exact change_two w k g off n cap x s v hk h2 (hg (.str s) (by simp)).2 (hg v (by simp)).1 (hc 0 _ rfl) (hc 1 _ rfl)
end Go.Proofs.Ytifogkacjfpipaa
