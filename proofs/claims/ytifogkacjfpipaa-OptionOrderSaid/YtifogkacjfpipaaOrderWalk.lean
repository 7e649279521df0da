/- The walk of 'OptionOrder'. -/
import Derived.Test.YtifogkacjfpipaaKnown
import Derived.Deep.RegionHeld3
import Derived.Deep.Cut
import Derived.Deep.CutRange
namespace Go.Proofs.Ytifogkacjfpipaa
open Go.RowKit
open Go.RuneMath
set_option linter.unusedVariables false

theorem mask16 (a : Int) : ∃ x : Nat, bits .and .i64 a 65535 = (x : Int) ∧ x ≤ 65535 := by
  have h1 : (BitVec.ofInt 64 65535).toNat = 2 ^ 16 - 1 := by decide
  have key : (BitVec.ofInt 64 a &&& BitVec.ofInt 64 65535).toNat = (a % ((2 ^ 64 : Nat) : Int)).toNat % 2 ^ 16 := by
    rw [BitVec.toNat_and, BitVec.toNat_ofInt, h1, Nat.and_two_pow_sub_one_eq_mod]
  refine ⟨(a % ((2 ^ 64 : Nat) : Int)).toNat % 2 ^ 16, ?_, by omega⟩
  show IntKind.i64.wrap ((BitVec.ofInt 64 a &&& BitVec.ofInt 64 65535).toNat : Nat) = _
  rw [key, IntKind.wrap_i64]
  omega
theorem rem4 (k : Int) : ∃ c : Int, k.tmod 4 = c ∧ -3 ≤ c ∧ c ≤ 3 := by
  refine ⟨_, rfl, ?_⟩
  cases k with
  | ofNat n =>
    show -3 ≤ ((n % 4 : Nat) : Int) ∧ ((n % 4 : Nat) : Int) ≤ 3
    omega
  | negSucc n =>
    show -3 ≤ -(((n + 1) % 4 : Nat) : Int) ∧ -(((n + 1) % 4 : Nat) : Int) ≤ 3
    omega
/-- A slice of options that lies written out in a block: what Config makes of it. -/
theorem config_row (W : World) (K : Nat) (l : List El) (hl : l.length ≤ maxLen) (hgood : ∀ u ∈ l, u.good) (h : W.heap[K]? = some (.cells (l.map El.val).toArray 20 (0, 0))) :
    Calls Try.prog 9 #[.slice (some ⟨K, 0, none⟩) l.length l.length] W (Configs l W) :=
  config_opts W 0 _ l ⟨by simp, .inr ⟨K, l.length, (l.map El.val).toArray, rfl, Nat.zero_le _, h, Nat.le_refl _, hl, by simp, by simp [List.take_of_length_le]⟩⟩ hgood
theorem config_row_tell (W : World) (K : Nat) (l : List El) (x : Cf) (n : Int) (hl : l.length ≤ maxLen) (hgood : ∀ u ∈ l, u.good) (h : W.heap[K]? = some (.cells (l.map El.val).toArray 20 (0, 0))) (h1 : cfgC l = x) (h2 : cfgE l = n) :
    Calls Try.prog 9 #[.slice (some ⟨K, 0, none⟩) l.length l.length] W fun e w' => e = .returned (.tuple #[.agg #[.int .i64 x.a, .int .i64 x.b, .int .i64 x.c, .int .i64 x.d], .int .i64 n]) ∧ Below W.heap.size W w' := by
  subst h1
  subst h2
  exact config_row W K l hl hgood h
theorem set_word {s : ByteArray} {n : Int} (h : word s < 4) : setK s (.i64 n) = true := by
  unfold setK El.num
  simp [h]
theorem run_word (x : Cf) {s : ByteArray} (n : Int) (l : List El) {j : Nat} (hs : word s = j) (h : j < 4) : run x (.str s :: .i64 n :: l) = run (x.put j (narrow n)) l := by
  rw [run_step _ (by simp)]
  have hk : setK s (.i64 n) = true := set_word (by omega)
  unfold chN chC
  simp only [hk, if_true]
  rw [if_neg (by omega)]
  unfold setC El.num
  simp only [hs, List.drop_succ_cons, List.drop_zero]
theorem narrow_in {n : Int} (h1 : 1 ≤ n) (h2 : n ≤ 1073741824) : narrow n = n := by
  unfold narrow within
  rw [if_pos (by simp [h1, h2])]
theorem ok6 {s t : ByteArray} {x y z : Int} {j k : Nat} (hs : word s = j) (ht : word t = k) (hj : j < 4) (hk : k < 4) (x1 : 1 ≤ x) (x2 : x ≤ 1073741824) (y1 : 1 ≤ y) (y2 : y ≤ 1073741824) (z1 : 1 ≤ z) (z2 : z ≤ 1073741824)
    {c : Cf} (hc : ((Cf.dflt.put j x).put k y).put j z = c) (hv : c.valid = true) : cfgC [.str s, .i64 x, .str t, .i64 y, .str s, .i64 z] = c ∧ cfgE [.str s, .i64 x, .str t, .i64 y, .str s, .i64 z] = 0 := by
  refine cfg_good ?_ hv
  rw [run_word _ _ _ hs hj, run_word _ _ _ ht hk, run_word _ _ _ hs hj, run_nil, narrow_in x1 x2, narrow_in y1 y2, narrow_in z1 z2, hc]
theorem ok4 {s t : ByteArray} {y z : Int} {j k : Nat} (hs : word s = j) (ht : word t = k) (hj : j < 4) (hk : k < 4) (y1 : 1 ≤ y) (y2 : y ≤ 1073741824) (z1 : 1 ≤ z) (z2 : z ≤ 1073741824)
    {c : Cf} (hc : (Cf.dflt.put k y).put j z = c) (hv : c.valid = true) : cfgC [.str t, .i64 y, .str s, .i64 z] = c ∧ cfgE [.str t, .i64 y, .str s, .i64 z] = 0 := by
  refine cfg_good ?_ hv
  rw [run_word _ _ _ ht hk, run_word _ _ _ hs hj, run_nil, narrow_in y1 y2, narrow_in z1 z2, hc]
theorem ok1 {c : Cf} (hv : c.valid = true) : cfgC [.conf c] = c ∧ cfgE [.conf c] = 0 := by
  refine cfg_good ?_ hv
  rw [run_step _ (by simp)]
  rfl
abbrev tSnap : ByteArray := ⟨#[115, 110, 97, 112, 115, 104, 111, 116]⟩
theorem ws0 : word tSegment = 0 := by decide +kernel
theorem ws1 : word tIndex = 1 := by decide +kernel
theorem ws2 : word tSnap = 2 := by decide +kernel
theorem ws3 : word tCap = 3 := by decide +kernel
theorem row_new {V : World} {K : Nat} {o : Obj} (h : K = V.heap.size) : (V.alloc o).heap[K]? = some o := by
  rw [h]
  exact heap_alloc_new V o
theorem row_old {V : World} {K : Nat} {o o2 : Obj} (h : K = V.heap.size) : ((V.alloc o).alloc o2).heap[K]? = some o := by
  rw [Below.heap_alloc _ _ _ (by rw [h, alloc_size]; omega)]
  exact row_new h
abbrev zeros : Obj := .cells #[.int .i64 0, .int .i64 0, .int .i64 0, .int .i64 0] 27
/-- Two cells of an elder world, in a younger one. -/
theorem keep_of {w0 W : World} {a b : Addr} {u v : Value} (ha : w0.cell? a = some u) (hb : w0.cell? b = some v) (h : Below w0.heap.size w0 W) : Below w0.heap.size w0 W ∧ W.cell? a = some u ∧ W.cell? b = some v :=
  ⟨h, (h.cell (World.block_lt_of_cell? _ _ ha)).trans ha, (h.cell (World.block_lt_of_cell? _ _ hb)).trans hb⟩
theorem keep_alloc {w0 W : World} {a b : Addr} {u v : Value} {o : Obj} (ha : w0.cell? a = some u) (hb : w0.cell? b = some v) (h : Below w0.heap.size w0 W ∧ W.cell? a = some u ∧ W.cell? b = some v) : Below w0.heap.size w0 (W.alloc o) ∧ (W.alloc o).cell? a = some u ∧ (W.alloc o).cell? b = some v :=
  keep_of ha hb (h.1.alloc h.1.size _)
theorem below_fill {w0 W : World} {B k : Nat} {p q r s : Value} (hk : B ≤ k) (h : Below B w0 W) : Below B w0 ((((W.setCell ⟨k, 0, none⟩ p).setCell ⟨k, 1, none⟩ q).setCell ⟨k, 2, none⟩ r).setCell ⟨k, 3, none⟩ s) :=
  (((h.setCell (p := ⟨k, 0, none⟩) hk p).setCell (p := ⟨k, 1, none⟩) hk q).setCell (p := ⟨k, 2, none⟩) hk r).setCell (p := ⟨k, 3, none⟩) hk s
theorem zc1 {V W2 : World} {o : Obj} {K : Nat} (hK : K = V.heap.size) (hb : Below ((V.alloc zeros).alloc o).drew.heap.size ((V.alloc zeros).alloc o).drew W2) : CfAt W2 K Cf.zero := by
  subst hK
  have h1 : Below (V.alloc zeros).heap.size (V.alloc zeros) ((V.alloc zeros).alloc o) := (Below.refl _ (V.alloc zeros)).alloc (Nat.le_refl _) o
  have h2 : CfAt ((V.alloc zeros).alloc o) V.heap.size Cf.zero := (zero_at V).below h1 (zero_at V).lt
  have h0 : CfAt ((V.alloc zeros).alloc o).drew V.heap.size Cf.zero := h2
  exact h0.below hb h0.lt
theorem zc2 {V W2 : World} {o : Obj} {K : Nat} (hK : K = (V.alloc o).heap.size) (hb : Below ((V.alloc o).alloc zeros).drew.heap.size ((V.alloc o).alloc zeros).drew W2) : CfAt W2 K Cf.zero := by
  subst hK
  have h0 : CfAt ((V.alloc o).alloc zeros).drew (V.alloc o).heap.size Cf.zero := zero_at (V.alloc o)
  exact h0.below hb h0.lt
theorem CfAt.all {w : World} {k : Nat} {x : Cf} (h : CfAt w k x) : w.cell? ⟨k, 0, none⟩ = some (.int .i64 x.a) ∧ w.cell? ⟨k, 1, none⟩ = some (.int .i64 x.b) ∧ w.cell? ⟨k, 2, none⟩ = some (.int .i64 x.c) ∧ w.cell? ⟨k, 3, none⟩ = some (.int .i64 x.d) ∧
    w.frozen? ⟨k, 0, none⟩ = false ∧ w.frozen? ⟨k, 1, none⟩ = false ∧ w.frozen? ⟨k, 2, none⟩ = false ∧ w.frozen? ⟨k, 3, none⟩ = false := ⟨h.cell0, h.cell1, h.cell2, h.cell3, h.free 0, h.free 1, h.free 2, h.free 3⟩
theorem c6 {s t : ByteArray} {X Y Z : Int} {P : Cf} (hok : cfgC [.str s, .i64 X, .str t, .i64 Y, .str s, .i64 Z] = P ∧ cfgE [.str s, .i64 X, .str t, .i64 Y, .str s, .i64 Z] = 0) (hs : s.size ≤ 1000) (ht : t.size ≤ 1000) (W : World) (K : Nat)
    (h : W.heap[K]? = some (.cells #[.iface 9 (.string s), .iface 2 (.int .i64 X), .iface 9 (.string t), .iface 2 (.int .i64 Y), .iface 9 (.string s), .iface 2 (.int .i64 Z)] 20 (0, 0))) :
    Calls Try.prog 9 #[.slice (some ⟨K, 0, none⟩) 6 6] W fun e w' => e = .returned (.tuple #[.agg #[.int .i64 P.a, .int .i64 P.b, .int .i64 P.c, .int .i64 P.d], .int .i64 0]) ∧ Below W.heap.size W w' :=
  config_row_tell W K [.str s, .i64 X, .str t, .i64 Y, .str s, .i64 Z] P 0 (by simp [maxLen]) (by simp; exact ⟨good_str (by omega), good_i64 _, good_str (by omega), good_i64 _, good_str (by omega), good_i64 _⟩) h hok.1 hok.2
theorem c4 {s t : ByteArray} {Y Z : Int} {P : Cf} (hok : cfgC [.str t, .i64 Y, .str s, .i64 Z] = P ∧ cfgE [.str t, .i64 Y, .str s, .i64 Z] = 0) (hs : s.size ≤ 1000) (ht : t.size ≤ 1000) (W : World) (K : Nat)
    (h : W.heap[K]? = some (.cells #[.iface 9 (.string t), .iface 2 (.int .i64 Y), .iface 9 (.string s), .iface 2 (.int .i64 Z)] 20 (0, 0))) :
    Calls Try.prog 9 #[.slice (some ⟨K, 0, none⟩) 4 4] W fun e w' => e = .returned (.tuple #[.agg #[.int .i64 P.a, .int .i64 P.b, .int .i64 P.c, .int .i64 P.d], .int .i64 0]) ∧ Below W.heap.size W w' :=
  config_row_tell W K [.str t, .i64 Y, .str s, .i64 Z] P 0 (by simp [maxLen]) (by simp; exact ⟨good_str (by omega), good_i64 _, good_str (by omega), good_i64 _⟩) h hok.1 hok.2
theorem c1 {P : Cf} (hok : cfgC [.conf P] = P ∧ cfgE [.conf P] = 0) (W : World) (K : Nat) (h : W.heap[K]? = some (.cells #[.iface 27 (.agg #[.int .i64 P.a, .int .i64 P.b, .int .i64 P.c, .int .i64 P.d])] 20 (0, 0))) :
    Calls Try.prog 9 #[.slice (some ⟨K, 0, none⟩) 1 1] W fun e w' => e = .returned (.tuple #[.agg #[.int .i64 P.a, .int .i64 P.b, .int .i64 P.c, .int .i64 P.d], .int .i64 0]) ∧ Below W.heap.size W w' :=
  config_row_tell W K [.conf P] P 0 (by simp [maxLen]) (by simp; exact good_conf _) h hok.1 hok.2
theorem within_in {n : Int} (h1 : 1 ≤ n) (h2 : n ≤ 1073741824) : within n = true := by
  unfold within
  simp [h1, h2]
theorem put_valid {x : Cf} {k : Nat} {n : Int} (h : x.valid = true) (h1 : 1 ≤ n) (h2 : n ≤ 1073741824) : (x.put k n).valid = true := by
  have hw := within_in h1 h2
  unfold Cf.valid at h ⊢
  simp only [Bool.and_eq_true] at h
  obtain ⟨⟨⟨ha, hb⟩, hc⟩, hd⟩ := h
  unfold Cf.put
  split
  · simp [hw, hb, hc, hd]
  · split
    · simp [hw, ha, hc, hd]
    · split
      · simp [hw, ha, hb, hd]
      · split
        · simp [hw, ha, hb, hc]
        · simp [ha, hb, hc, hd]
theorem put_last {j k : Nat} (p : Cf) (x y z : Int) (hj : j < 4) (hk : k < 4) : (p.put k y).put j z = ((p.put j x).put k y).put j z := by
  match j, hj, k, hk with
  | 0, _, 0, _ => rfl
  | 0, _, 1, _ => rfl
  | 0, _, 2, _ => rfl
  | 0, _, 3, _ => rfl
  | 1, _, 0, _ => rfl
  | 1, _, 1, _ => rfl
  | 1, _, 2, _ => rfl
  | 1, _, 3, _ => rfl
  | 2, _, 0, _ => rfl
  | 2, _, 1, _ => rfl
  | 2, _, 2, _ => rfl
  | 2, _, 3, _ => rfl
  | 3, _, 0, _ => rfl
  | 3, _, 1, _ => rfl
  | 3, _, 2, _ => rfl
  | 3, _, 3, _ => rfl
theorem CfAt.on {w w' : World} {k : Nat} {x : Cf} {o : Obj} (h : CfAt w k x) (hb : Below (w.alloc o).heap.size (w.alloc o) w') : CfAt w' k x :=
  (h.below ((Below.refl _ w).alloc (Nat.le_refl _) o) h.lt).below hb (by have := h.lt; rw [alloc_size]; omega)
theorem on {w W : World} {a : Addr} {u : Value} (h : Below w.heap.size w W) (ha : w.cell? a = some u) : W.cell? a = some u := (h.cell (World.block_lt_of_cell? _ _ ha)).trans ha
theorem eq_conf (P : Cf) (W : World) : (binOp .eql 27 (.agg #[.int .i64 P.a, .int .i64 P.b, .int .i64 P.c, .int .i64 P.d]) (.agg #[.int .i64 P.a, .int .i64 P.b, .int .i64 P.c, .int .i64 P.d])).run Try.prog W = .ok (.bool true) W := by
  rw [run_eql_struct]
  simp [go_sem, Op.eqFields]
theorem order_nth {j k : Nat} {y z : Int} {P : Cf} (hj : (j : Int) < 4) (hk : (k : Int) < 4) (hjk : Int.tmod ((j : Int) + 1) 4 = (k : Int)) (hP : (Cf.dflt.put k y).put j z = P) :
    ∃ m n : Nat, Int.tmod ((j : Int) + 2) 4 = (m : Int) ∧ Int.tmod ((j : Int) + 3) 4 = (n : Int) ∧ m < 4 ∧ n < 4 ∧ P.nth j = z ∧ P.nth k = y ∧ P.nth m = Cf.dflt.nth m ∧ P.nth n = Cf.dflt.nth n := by
  subst hP
  have hj' : j < 4 := by omega
  match j, hj' with
  | 0, _ =>
    obtain rfl : k = 1 := by have : ((1 : Nat) : Int) = (k : Int) := hjk; omega
    exact ⟨2, 3, rfl, rfl, by omega, by omega, rfl, rfl, rfl, rfl⟩
  | 1, _ =>
    obtain rfl : k = 2 := by have : ((2 : Nat) : Int) = (k : Int) := hjk; omega
    exact ⟨3, 0, rfl, rfl, by omega, by omega, rfl, rfl, rfl, rfl⟩
  | 2, _ =>
    obtain rfl : k = 3 := by have : ((3 : Nat) : Int) = (k : Int) := hjk; omega
    exact ⟨0, 1, rfl, rfl, by omega, by omega, rfl, rfl, rfl, rfl⟩
  | 3, _ =>
    obtain rfl : k = 0 := by have : ((0 : Nat) : Int) = (k : Int) := hjk; omega
    exact ⟨1, 2, rfl, rfl, by omega, by omega, rfl, rfl, rfl, rfl⟩
set_option maxHeartbeats 4000000 in
set_option maxRecDepth 100000 in
theorem order_at (w : World) (a b c d e : Int) (j k : Nat) (s t : ByteArray) (hd : d.tmod 4 = e) (h1 : -3 ≤ e) (h2 : e ≤ 3) (hj : (e + 4).tmod 4 = (j : Int)) (hj4 : j < 4) (hk4 : k < 4) (hk : Int.tmod ((j : Int) + 1) 4 = (k : Int))
    (hs : #[Value.string tSegment, .string tIndex, .string tSnap, .string tCap][j]? = some (.string s)) (ht : #[Value.string tSegment, .string tIndex, .string tSnap, .string tCap][k]? = some (.string t)) (hs0 : s.size ≤ 1000) (ht0 : t.size ≤ 1000) (hws : word s = j) (hwt : word t = k) :
    Calls Try.prog 5 #[.int .i64 a, .int .i64 b, .int .i64 c, .int .i64 d] w fun e w' => e = .returned (.bool true) ∧ Below w.heap.size w w' := by
  obtain ⟨x, hx, hx1⟩ := mask16 a
  obtain ⟨y, hy, hy1⟩ := mask16 b
  obtain ⟨z, hz, hz1⟩ := mask16 c
  have hPv : ((Cf.dflt.put k (1 + (y : Int))).put j (1 + (z : Int))).valid = true := put_valid (put_valid (by decide) (by omega) (by omega)) (by omega) (by omega)
  obtain ⟨P, hP⟩ : ∃ P : Cf, (Cf.dflt.put k (1 + (y : Int))).put j (1 + (z : Int)) = P := ⟨_, rfl⟩
  rw [hP] at hPv
  have hP6 : ((Cf.dflt.put j (1 + (x : Int))).put k (1 + (y : Int))).put j (1 + (z : Int)) = P := by rw [← hP]; exact (put_last _ _ _ _ hj4 hk4).symm
  have C6 := Lib.hid (c6 (s := s) (t := t) (X := 1 + x) (Y := 1 + y) (Z := 1 + z) (P := P) (ok6 hws hwt hj4 hk4 (by omega) (by omega) (by omega) (by omega) (by omega) (by omega) hP6 hPv) hs0 ht0)
  have C4 := Lib.hid (c4 (s := s) (t := t) (Y := 1 + y) (Z := 1 + z) (P := P) (ok4 hws hwt hj4 hk4 (by omega) (by omega) (by omega) (by omega) hP hPv) hs0 ht0)
  have C1 := Lib.hid (c1 (ok1 hPv))
  have HP := Lib.hid hP
  have HK := Lib.hid hk
  have j1 : (0 : Int) ≤ (j : Int) := by omega
  have j2 : (j : Int) < 4 := by omega
  have k1 : (0 : Int) ≤ (k : Int) := by omega
  have k2 : (k : Int) < 4 := by omega
  clear hP hP6 hPv hws hwt hs0 ht0 hj4 hk4 hk
  go_enter Try.func5, Try.ntmps5
  go_wp2
  obtain ⟨w0, hw0⟩ : ∃ w0, w0 = w.alloc (.cells #[.string tSegment, .string tIndex, .string tSnap, .string tCap] 9) := ⟨_, rfl⟩
  have hB0 : Below w.heap.size w w0 := by rw [hw0]; exact (Below.refl _ w).alloc (Nat.le_refl _) _
  have hn0 : w0.cell? ⟨w.heap.size, j, none⟩ = some (.string s) := by rw [hw0, cell_of_row _ _ j _ _ _ (heap_alloc_new w _)]; exact hs
  have hn1 : w0.cell? ⟨w.heap.size, k, none⟩ = some (.string t) := by rw [hw0, cell_of_row _ _ k _ _ _ (heap_alloc_new w _)]; exact ht
  have hS0 : Below w0.heap.size w0 w0.drew ∧ w0.drew.cell? ⟨w.heap.size, j, none⟩ = some (.string s) ∧ w0.drew.cell? ⟨w.heap.size, k, none⟩ = some (.string t) := ⟨(Below.refl _ w0).drew, hn0, hn1⟩
  rw [← hw0]
  have HB0 := Lib.hid hB0
  clear hw0 hB0 hx hy hz hd hj hs ht hx1 hy1 hz1 h1 h2
  have i1 : IntKind.i64.wrap ((j : Int) + 1) = (j : Int) + 1 := by rw [IntKind.wrap_i64]; omega
  have i2 : IntKind.i64.wrap (k : Int) = (k : Int) := by rw [IntKind.wrap_i64]; omega
  have i3 : Int.tmod ((j : Int) + 1) 4 = (k : Int) := HK.out
  go_cut [14, 15] from 36 to 63 (fun s14 s15 wx => ∃ p : Nat, s14 = .pointer (some ⟨p, 0, none⟩) ∧ s15 = .int .i64 0 ∧ CfAt wx p P ∧ w0.heap.size ≤ p ∧ Below w0.heap.size w0 wx)
  case first =>
    go_region_held3 (fun W => Below w0.heap.size w0 W ∧ W.cell? ⟨w.heap.size, j, none⟩ = some (.string s) ∧ W.cell? ⟨w.heap.size, k, none⟩ = some (.string t))
      (first | exact hS0 | exact keep_of hn0 hn1 hSc | exact keep_of hn0 hn1 (hSc.alloc hSc.size _) | exact keep_of hn0 hn1 (below_fill (by simp) hSc) | exact keep_alloc hn0 hn1 ‹_›)
      (first | (go_at_call 9; refine (C6.out _ _ ?_).mono ?_; (first | exact row_new (by simp) | exact row_old (by simp)); rintro e w' ⟨rfl, hb⟩; have hSc := (And.left ‹Below w0.heap.size w0 _ ∧ _›).trans (hb.mono (Below.size (And.left ‹Below w0.heap.size w0 _ ∧ _›))); (first | have hzc := zc1 (K := w0.heap.size) (by simp) hb | have hzc := zc2 (K := w0.heap.size + 1) (by simp) hb | skip); (try have hzf := hzc.all)))
    all_goals
      go_wp2
      go_meet
      first
        | exact ⟨_, rfl, rfl, (fill_at hzc P).1, by omega, below_fill (by omega) hSc⟩
        | exact ⟨_, rfl, rfl, conf_at _ P, hSc.size, hSc.alloc hSc.size _⟩
  case rest =>
    obtain ⟨p, rfl, rfl, hp, hple, hbc⟩ := hcut
    have hm0 : wc.cell? ⟨w.heap.size, j, none⟩ = some (.string s) := (keep_of hn0 hn1 hbc).2.1
    have hm1 : wc.cell? ⟨w.heap.size, k, none⟩ = some (.string t) := (keep_of hn0 hn1 hbc).2.2
    have hR0 : Below wc.heap.size wc wc.drew ∧ wc.drew.cell? ⟨w.heap.size, j, none⟩ = some (.string s) ∧ wc.drew.cell? ⟨w.heap.size, k, none⟩ = some (.string t) := ⟨(Below.refl _ wc).drew, hm0, hm1⟩
    have HPP := Lib.hid hp
    have HBC := Lib.hid (HB0.out.trans (hbc.mono HB0.out.size))
    clear hp hbc hn0 hn1 hS0 HB0
    go_wp2
    go_cut [16, 17] from 64 to 84 (fun s16 s17 wx => ∃ q : Nat, s16 = .pointer (some ⟨q, 0, none⟩) ∧ s17 = .int .i64 0 ∧ CfAt wx q P ∧ wc.heap.size ≤ q ∧ Below wc.heap.size wc wx)
    case first =>
      go_region_held3 (fun W => Below wc.heap.size wc W ∧ W.cell? ⟨w.heap.size, j, none⟩ = some (.string s) ∧ W.cell? ⟨w.heap.size, k, none⟩ = some (.string t))
        (first | exact hR0 | exact keep_of hm0 hm1 hSc | exact keep_of hm0 hm1 (hSc.alloc hSc.size _) | exact keep_of hm0 hm1 (below_fill (by simp) hSc) | exact keep_alloc hm0 hm1 ‹_›)
        (first | (go_at_call 9; refine (C4.out _ _ ?_).mono ?_; (first | exact row_new (by simp) | exact row_old (by simp)); rintro e w' ⟨rfl, hb⟩; have hSc := (And.left ‹Below wc.heap.size wc _ ∧ _›).trans (hb.mono (Below.size (And.left ‹Below wc.heap.size wc _ ∧ _›))); (first | have hzc := zc1 (K := wc.heap.size) (by simp) hb | have hzc := zc2 (K := wc.heap.size + 1) (by simp) hb | skip); (try have hzf := hzc.all)))
      all_goals
        go_wp2
        go_meet
        first
          | exact ⟨_, rfl, rfl, (fill_at hzc P).1, by omega, below_fill (by omega) hSc⟩
          | exact ⟨_, rfl, rfl, conf_at _ P, hSc.size, hSc.alloc hSc.size _⟩
    case rest =>
      obtain ⟨q, rfl, rfl, hq, hqle, hbd⟩ := hcut
      have hp1 := HPP.out.below hbd HPP.out.lt
      have HQ := Lib.hid hq
      have HPQ := Lib.hid hp1
      have HBD := Lib.hid (HBC.out.trans (hbd.mono HBC.out.size))
      clear hq hp1 hbd HBC HPP hm0 hm1 hR0
      obtain ⟨m, n, hm, hn, hm4, hn4, hvj, hvk, hvm, hvn⟩ := order_nth (j := j) (k := k) (y := 1 + (y : Int)) (z := 1 + (z : Int)) (P := P) j2 k2 HK.out HP.out
      clear i1 i2 i3
      have c0 := HPQ.out.cell0
      have c1' := HPQ.out.cell1
      have c2 := HPQ.out.cell2
      have c3 := HPQ.out.cell3
      go_wp2_with fail
      refine (C1.out _ _ ?_).mono ?_
      · exact row_new (by simp)
      rintro e w6 ⟨rfl, hb⟩
      have x6 := HPQ.out.on hb
      have y6 := HQ.out.on hb
      have HB6 := Lib.hid (stepA HBD.out hb)
      have g0 := x6.cell0
      have g1 := x6.cell1
      have g2 := x6.cell2
      have g3 := x6.cell3
      have l0 := x6.lt
      have l1 := y6.lt
      have X6 := Lib.hid x6
      have Y6 := Lib.hid y6
      clear hb x6 y6 c0 c1' c2 c3
      have HVJ := Lib.hid hvj
      have HVK := Lib.hid hvk
      have HVM := Lib.hid hvm
      have HVN := Lib.hid hvn
      have HMM := Lib.hid hm
      have HNN := Lib.hid hn
      clear hvj hvk hvm hvn hm hn
      go_wp2_with fail
      obtain ⟨w7, hw7⟩ : ∃ w7, w7 = ((w6.alloc (.cells #[.int .i64 P.a, .int .i64 P.b, .int .i64 P.c, .int .i64 P.d] 27)).alloc (.cells #[.int .i64 P.a, .int .i64 P.b, .int .i64 P.c, .int .i64 P.d] 3)).alloc (.cells #[.int .i64 1024, .int .i64 128, .int .i64 4, .int .i64 1048576] 3) := ⟨_, rfl⟩
      rw [← hw7]
      have hb7 : Below w6.heap.size w6 w7 := by rw [hw7]; exact (((Below.refl _ w6).alloc (Nat.le_refl _) _).alloc (by simp) _).alloc (by simp; omega) _
      have x7 := X6.out.below hb7 l0
      have y7 := Y6.out.below hb7 l1
      have r7 : CfAt w7 w6.heap.size P := by rw [hw7]; exact ((conf_at w6 P).below ((Below.refl _ _).alloc (Nat.le_refl _) _) (conf_at w6 P).lt).below ((Below.refl _ _).alloc (Nat.le_refl _) _) (by rw [alloc_size, alloc_size]; omega)
      have lr : ∀ i, i < 4 → w7.cell? ⟨w6.heap.size + 1, i, none⟩ = some (.int .i64 (P.nth i)) := by
        intro i hi
        rw [hw7, World.cell?_alloc_past _ _ _ (by rw [alloc_size, alloc_size]; omega)]
        have := row4 (w6.alloc (.cells #[.int .i64 P.a, .int .i64 P.b, .int .i64 P.c, .int .i64 P.d] 27)) P i hi
        rw [alloc_size] at this
        exact this
      have dr : ∀ i, i < 4 → w7.cell? ⟨w6.heap.size + 1 + 1, i, none⟩ = some (.int .i64 (Cf.dflt.nth i)) := by
        intro i hi
        rw [hw7]
        have := row4 ((w6.alloc (.cells #[.int .i64 P.a, .int .i64 P.b, .int .i64 P.c, .int .i64 P.d] 27)).alloc (.cells #[.int .i64 P.a, .int .i64 P.b, .int .i64 P.c, .int .i64 P.d] 3)) Cf.dflt i hi
        rw [alloc_size, alloc_size] at this
        exact this
      have lj := lr j (by omega)
      have lk := lr k (by omega)
      have lm := lr m hm4
      have ln := lr n hn4
      have dm := dr m hm4
      have dn := dr n hn4
      rw [HVJ.out] at lj
      rw [HVK.out] at lk
      rw [HVM.out] at lm
      rw [HVN.out] at ln
      have HW7 := Lib.hid (HB6.out.trans (hb7.mono HB6.out.size))
      have a0 := x7.cell0
      have a1 := x7.cell1
      have a2 := x7.cell2
      have a3 := x7.cell3
      have b0 := y7.cell0
      have b1 := y7.cell1
      have b2 := y7.cell2
      have b3 := y7.cell3
      have e0 := r7.cell0
      have e1 := r7.cell1
      have e2 := r7.cell2
      have e3 := r7.cell3
      clear hw7 hb7 x7 y7 r7 lr dr g0 g1 g2 g3 l0 l1
      have hm4I : (m : Int) < 4 := by omega
      have hn4I : (n : Int) < 4 := by omega
      have hm0I : (0 : Int) ≤ (m : Int) := by omega
      have hn0I : (0 : Int) ≤ (n : Int) := by omega
      have i1 : IntKind.i64.wrap ((j : Int) + 1) = (j : Int) + 1 := by rw [IntKind.wrap_i64]; omega
      have i4 : IntKind.i64.wrap ((j : Int) + 2) = (j : Int) + 2 := by rw [IntKind.wrap_i64]; omega
      have i6 : IntKind.i64.wrap ((j : Int) + 3) = (j : Int) + 3 := by rw [IntKind.wrap_i64]; omega
      have i2 : IntKind.i64.wrap (k : Int) = (k : Int) := by rw [IntKind.wrap_i64]; omega
      have i8 : IntKind.i64.wrap (m : Int) = (m : Int) := by rw [IntKind.wrap_i64]; omega
      have i9 : IntKind.i64.wrap (n : Int) = (n : Int) := by rw [IntKind.wrap_i64]; omega
      have i3 : Int.tmod ((j : Int) + 1) 4 = (k : Int) := HK.out
      have i5 : Int.tmod ((j : Int) + 2) 4 = (m : Int) := HMM.out
      have i7 : Int.tmod ((j : Int) + 3) 4 = (n : Int) := HNN.out
      have heq := fun W => eq_conf P W
      simp only [List.append_eq, List.cons_append, List.nil_append]
      go_region_held3 (fun W => Below w7.heap.size w7 W ∧ W.cell? ⟨p, 0, none⟩ = some (.int .i64 P.a) ∧ W.cell? ⟨p, 1, none⟩ = some (.int .i64 P.b) ∧ W.cell? ⟨p, 2, none⟩ = some (.int .i64 P.c) ∧ W.cell? ⟨p, 3, none⟩ = some (.int .i64 P.d) ∧
          W.cell? ⟨q, 0, none⟩ = some (.int .i64 P.a) ∧ W.cell? ⟨q, 1, none⟩ = some (.int .i64 P.b) ∧ W.cell? ⟨q, 2, none⟩ = some (.int .i64 P.c) ∧ W.cell? ⟨q, 3, none⟩ = some (.int .i64 P.d) ∧
          W.cell? ⟨w6.heap.size, 0, none⟩ = some (.int .i64 P.a) ∧ W.cell? ⟨w6.heap.size, 1, none⟩ = some (.int .i64 P.b) ∧ W.cell? ⟨w6.heap.size, 2, none⟩ = some (.int .i64 P.c) ∧ W.cell? ⟨w6.heap.size, 3, none⟩ = some (.int .i64 P.d) ∧
          W.cell? ⟨w6.heap.size + 1, j, none⟩ = some (.int .i64 (1 + (z : Int))) ∧ W.cell? ⟨w6.heap.size + 1, k, none⟩ = some (.int .i64 (1 + (y : Int))) ∧ W.cell? ⟨w6.heap.size + 1, m, none⟩ = some (.int .i64 (Cf.dflt.nth m)) ∧ W.cell? ⟨w6.heap.size + 1, n, none⟩ = some (.int .i64 (Cf.dflt.nth n)) ∧
          W.cell? ⟨w6.heap.size + 1 + 1, m, none⟩ = some (.int .i64 (Cf.dflt.nth m)) ∧ W.cell? ⟨w6.heap.size + 1 + 1, n, none⟩ = some (.int .i64 (Cf.dflt.nth n)))
        (first | exact ⟨(Below.refl _ w7).drew, a0, a1, a2, a3, b0, b1, b2, b3, e0, e1, e2, e3, lj, lk, lm, ln, dm, dn⟩ | exact ⟨hSc, on hSc a0, on hSc a1, on hSc a2, on hSc a3, on hSc b0, on hSc b1, on hSc b2, on hSc b3, on hSc e0, on hSc e1, on hSc e2, on hSc e3, on hSc lj, on hSc lk, on hSc lm, on hSc ln, on hSc dm, on hSc dn⟩)
        (first | (go_at_call 10; refine (known_any _).mono ?_; rintro e w8 ⟨rfl, hb⟩; have hSc := ((Below.refl w7.heap.size w7).drew).trans hb))
      go_wp2
      go_ret
      exact ⟨rfl, HW7.out.trans (hSc.mono HW7.out.size)⟩
theorem order_any (w : World) (a b c d : Int) : Calls Try.prog 5 #[.int .i64 a, .int .i64 b, .int .i64 c, .int .i64 d] w fun e w' => e = .returned (.bool true) ∧ Below w.heap.size w w' := by
  obtain ⟨e, he, h1, h2⟩ := rem4 d
  have go : ∀ j k : Nat, ∀ s t : ByteArray, (e + 4).tmod 4 = (j : Int) → j < 4 → k < 4 → Int.tmod ((j : Int) + 1) 4 = (k : Int) → #[Value.string tSegment, .string tIndex, .string tSnap, .string tCap][j]? = some (.string s) → #[Value.string tSegment, .string tIndex, .string tSnap, .string tCap][k]? = some (.string t) → s.size ≤ 1000 → t.size ≤ 1000 → word s = j → word t = k →
      Calls Try.prog 5 #[.int .i64 a, .int .i64 b, .int .i64 c, .int .i64 d] w fun e w' => e = .returned (.bool true) ∧ Below w.heap.size w w' :=
    fun j k s t p1 p2 p3 p4 p5 p6 p7 p8 p9 p10 => order_at w a b c d e j k s t he h1 h2 p1 p2 p3 p4 p5 p6 p7 p8 p9 p10
  obtain rfl | rfl | rfl | rfl | rfl | rfl | rfl : e = -3 ∨ e = -2 ∨ e = -1 ∨ e = 0 ∨ e = 1 ∨ e = 2 ∨ e = 3 := by omega
  · exact go 1 2 tIndex tSnap (by decide) (by decide) (by decide) (by decide) rfl rfl (by decide) (by decide) ws1 ws2
  · exact go 2 3 tSnap tCap (by decide) (by decide) (by decide) (by decide) rfl rfl (by decide) (by decide) ws2 ws3
  · exact go 3 0 tCap tSegment (by decide) (by decide) (by decide) (by decide) rfl rfl (by decide) (by decide) ws3 ws0
  · exact go 0 1 tSegment tIndex (by decide) (by decide) (by decide) (by decide) rfl rfl (by decide) (by decide) ws0 ws1
  · exact go 1 2 tIndex tSnap (by decide) (by decide) (by decide) (by decide) rfl rfl (by decide) (by decide) ws1 ws2
  · exact go 2 3 tSnap tCap (by decide) (by decide) (by decide) (by decide) rfl rfl (by decide) (by decide) ws2 ws3
  · exact go 3 0 tCap tSegment (by decide) (by decide) (by decide) (by decide) rfl rfl (by decide) (by decide) ws3 ws0
end Go.Proofs.Ytifogkacjfpipaa
