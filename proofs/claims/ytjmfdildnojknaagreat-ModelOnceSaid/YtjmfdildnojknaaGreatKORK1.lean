/- Parts of a proof. -/
import Derived.Below
import Derived.Lib.Hide
import Derived.OrdersHeld
import Derived.WalkKit
import Derived.ProofKit
import Derived.Test.YtjmfdildnojknaaGreatRows
import Derived.IntWalk
import Derived.BigFrame
import Derived.BigQuiet
import Derived.Deep.QuietTactic
import Derived.Outline
import Derived.Deep.Cut
import Derived.Deep.CutRange
set_option maxRecDepth 100000
set_option maxHeartbeats 16000000
set_option linter.unusedVariables false
namespace Go.Proofs.YtjmfdildnojknaaGreat
open Go Go.RowKit
theorem exq {α : Sort _} (a : α) : ∃ x, x = a := ⟨a, rfl⟩
theorem qh {p : Prop} (h : p) : Hid p := h
theorem bal (w : World) (o : Obj) : Below w.heap.size w (w.alloc o) := (Below.refl _ _).alloc (Nat.le_refl _) _
theorem wbq {w W : World} {o : Obj} (e : W = w.alloc o) : Below w.heap.size w W := by rw [e]; exact bal w o
theorem hwq {w W : World} {o : Obj} (e : W = w.alloc o) : Hid (Below w.heap.size w W) := wbq e
section
variable {P : Program} {ops : Array Oper} {Q : Exit → Act → World → Prop} {md : Region.Mode} {S : World → Prop}
theorem ht (i : Nat) {v : Value} {o1 : Option Nat} {o2 o3 o4 o5 o6} {fuel : Nat} {listed l2 : Array Bool} {a a2 : Act} {w : World}
    (h : wpAnyH P md ops Q S fuel l2 a2 w)
    (hi : ops[i]? = some ⟨o1, o2, o3, o4, o5, o6⟩ := by exact rfl)
    (hk : (Region.noSelect ops && (Region.free md ops listed i && (Region.ready md ops listed).contains i)) = true := by kernel_rfl)
    (hQ : ∀ c a w, Q (.panic c) (a.put o1 v) w → Q (.panic c) a w := by exact fun _ _ _ h => h) (hS : S w := by assumption)
    (hy : YieldsIf P ops S ⟨o1, o2, o3, o4, o5, o6⟩ v a := by first | exact .inr ⟨by rfl, rfl⟩ | exact .inl ⟨by rfl, by intro W hSw; (try dsimp only at hSw); go_simp; (try with_reducible rfl)⟩)
    (hl : listed.setIfInBounds i true = l2 := by (try simp only [List.setIfInBounds_toArray, List.set_cons_zero, List.set_cons_succ]); exact rfl)
    (ha : a.put o1 v = a2 := by (try simp only [Act.put, List.setIfInBounds_toArray, List.set_cons_zero, List.set_cons_succ]); exact rfl) : wpAnyH P md ops Q S (fuel + 1) listed a w := by
  simp only [Bool.and_eq_true] at hk
  obtain ⟨h1, h2, h3⟩ := hk
  subst hl ha
  exact wpAnyH_take hi h1 h2 h3 hQ hy hS h
end
end Go.Proofs.YtjmfdildnojknaaGreat
namespace Go.VarMath
abbrev AllB (bs : List Nat) : Prop := ∀ x ∈ bs, x < 256
def two64 : Nat := 18446744073709551616
theorem two64_val : two64 = 18446744073709551616 := rfl
def zig (n : Int) : Nat := if 0 ≤ n then 2 * n.toNat else 2 * (-n).toNat - 1
def zag (u : Nat) : Int := if u % 2 = 0 then ((u / 2 : Nat) : Int) else -((u / 2 : Nat) : Int) - 1
theorem zig_zag (u : Nat) : zig (zag u) = u := by
 unfold zig zag
 by_cases h : u % 2 = 0
 · rw [if_pos h, if_pos (by omega)]; omega
 rw [if_neg h, if_neg (by omega)]; omega
theorem zig_lt {n : Int} (h0 : -9223372036854775808 ≤ n) (h1 : n ≤ 9223372036854775807) : zig n < 18446744073709551616 := by
 unfold zig; split <;> omega
theorem zag_in {u : Nat} (h : u < 18446744073709551616) : -9223372036854775808 ≤ zag u ∧ zag u ≤ 9223372036854775807 := by
 unfold zag; split <;> omega
theorem zig_nonneg {n : Int} (h : 0 ≤ n) : (zig n : Int) = 2 * n := by unfold zig; rw [if_pos h]; omega
theorem zig_neg {n : Int} (h : n < 0) : (zig n : Int) = -2 * n - 1 := by unfold zig; rw [if_neg (by omega)]; omega
theorem zig_nat (k : Nat) : zig (k : Int) = 2 * k := by unfold zig; rw [if_pos (by omega)]; omega
def gr : Nat → Nat → List Nat
 | 0, u => [u]
 | f + 1, u => if u < 128 then [u] else (u % 128 + 128) :: gr f (u / 128)
def encU (u : Nat) : List Nat := gr 9 u
def encN (n : Int) : List Nat := encU (zig n)
def val : List Nat → Nat
 | [] => 0
 | b :: r => b % 128 + 128 * val r
def AllHi (p : List Nat) : Prop := ∀ x ∈ p, 128 ≤ x ∧ x < 256
theorem AllHi.nil : AllHi [] := fun x h => by cases h
theorem AllHi.cons {b : Nat} {p : List Nat} (hb : 128 ≤ b ∧ b < 256) (hp : AllHi p) : AllHi (b :: p) := by
 intro x hx
 rcases List.mem_cons.1 hx with h | h
 · rw [h]; exact hb
 exact hp x h
theorem AllHi.snoc {b : Nat} {p : List Nat} (hp : AllHi p) (hb : 128 ≤ b ∧ b < 256) : AllHi (p ++ [b]) := by
 intro x hx
 rcases List.mem_append.1 hx with h | h
 · exact hp x h
 simp at h; rw [h]; exact hb
theorem gr_small (f u : Nat) (h : u < 128) : gr f u = [u] := by
 cases f with
 | zero => rfl
 | succ f => simp [gr, h]
theorem gr_big (f u : Nat) (h : ¬ u < 128) : gr (f + 1) u = (u % 128 + 128) :: gr f (u / 128) := by simp [gr, h]
theorem gr_shape : ∀ f u, u < 128 ^ (f + 1) → ∃ p x, gr f u = p ++ [x] ∧ AllHi p ∧ x < 128 ∧ p.length ≤ f ∧ (x = 0 → p = [] ∧ u = 0)
 | 0, u, h => ⟨[], u, rfl, AllHi.nil, by simpa using h, by simp, fun h => ⟨rfl, h⟩⟩
 | f + 1, u, h => by
   by_cases hu : u < 128
   · exact ⟨[], u, by rw [gr_small _ _ hu]; rfl, AllHi.nil, hu, by simp, fun h => ⟨rfl, h⟩⟩
   have h2 : u / 128 < 128 ^ (f + 1) := by
    rw [Nat.div_lt_iff_lt_mul (by omega)]
    rwa [← Nat.pow_succ]
   obtain ⟨p, x, e, hp, hx, hl, hz⟩ := gr_shape f (u / 128) h2
   refine ⟨(u % 128 + 128) :: p, x, by rw [gr_big _ _ hu, e]; rfl, AllHi.cons (by omega) hp, hx, by simp; omega, fun h0 => ?_⟩
   have := (hz h0).2
   omega
theorem val_gr : ∀ f u, u < 128 ^ (f + 1) → val (gr f u) = u
 | 0, u, h => by
   have : u < 128 := by simpa using h
   simp [gr, val]; omega
 | f + 1, u, h => by
   by_cases hu : u < 128
   · rw [gr_small _ _ hu]; simp [val]; omega
   have h2 : u / 128 < 128 ^ (f + 1) := by
    rw [Nat.div_lt_iff_lt_mul (by omega)]
    rwa [← Nat.pow_succ]
   rw [gr_big _ _ hu]
   simp only [val]
   rw [val_gr f _ h2]
   omega
theorem pow10 : (128 : Nat) ^ (9 + 1) = 1180591620717411303424 := by decide
theorem lt10 {u : Nat} (h : u < 18446744073709551616) : u < 128 ^ (9 + 1) := by rw [pow10]; omega
theorem val_enc {u : Nat} (h : u < 18446744073709551616) : val (encU u) = u := val_gr 9 u (lt10 h)
theorem enc_shape {u : Nat} (h : u < 18446744073709551616) : ∃ p x, encU u = p ++ [x] ∧ AllHi p ∧ x < 128 ∧ p.length ≤ 9 ∧ (x = 0 → p = [] ∧ u = 0) := gr_shape 9 u (lt10 h)
theorem enc_all {u : Nat} (h : u < 18446744073709551616) : AllB (encU u) := by
 obtain ⟨p, x, e, hp, hx, _, _⟩ := enc_shape h
 rw [e]
 intro y hy
 rcases List.mem_append.1 hy with h | h
 · exact (hp y h).2
 simp at h; omega
theorem enc_len {u : Nat} (h : u < 18446744073709551616) : 1 ≤ (encU u).length ∧ (encU u).length ≤ 10 := by
 obtain ⟨p, x, e, hp, hx, hl, _⟩ := enc_shape h
 rw [e, List.length_append]
 simp; omega
def scan : Nat → List Nat → Option (List Nat)
 | 0, _ => none
 | _ + 1, [] => none
 | f + 1, b :: r => if b < 128 then some [b] else (scan f r).map (b :: ·)
theorem scan_hi : ∀ (p : List Nat) (f : Nat) (r : List Nat), AllHi p → p.length ≤ f → scan f (p ++ r) = (scan (f - p.length) r).map (p ++ ·)
 | [], f, r, _, _ => by
   rw [List.nil_append]
   have : (fun l : List Nat => [] ++ l) = id := by funext l; rfl
   rw [this, Option.map_id]; rfl
 | b :: p, 0, r, _, h => by simp at h
 | b :: p, f + 1, r, hp, h => by
   have hb := hp b (by simp)
   have ih := scan_hi p f r (fun x hx => hp x (by simp [hx])) (by simpa using h)
   show (if b < 128 then some [b] else (scan f (p ++ r)).map (b :: ·)) = _
   rw [if_neg (by omega), ih, Option.map_map, List.length_cons, Nat.add_sub_add_right]
   rfl
theorem scan_end {p : List Nat} {x : Nat} {f : Nat} (hp : AllHi p) (hx : x < 128) (hf : p.length < f) (r : List Nat) : scan f (p ++ x :: r) = some (p ++ [x]) := by
 rw [scan_hi p f _ hp (by omega)]
 obtain ⟨k, hk⟩ : ∃ k, f - p.length = k + 1 := ⟨f - p.length - 1, by omega⟩
 rw [hk]
 simp [scan, hx]
theorem scan_all {p : List Nat} {f : Nat} (hp : AllHi p) (hf : p.length ≤ f) : scan f p = none := by
 have := scan_hi p f [] hp hf
 rw [List.append_nil] at this
 rw [this]
 cases f - p.length <;> rfl
theorem scan_full {p : List Nat} (hp : AllHi p) (r : List Nat) : scan p.length (p ++ r) = none := by
 rw [scan_hi p _ _ hp (Nat.le_refl _), Nat.sub_self]; rfl
def getB (bs : List Nat) : Int × Nat := match scan 10 bs with
 | none => (0, 0)
 | some l => if encU (val l % two64) = l then (zag (val l % two64), l.length) else (0, 0)
theorem getB_none {bs : List Nat} (h : scan 10 bs = none) : getB bs = (0, 0) := by unfold getB; rw [h]
theorem getB_some {bs l : List Nat} (h : scan 10 bs = some l) : getB bs = if encU (val l % two64) = l then (zag (val l % two64), l.length) else (0, 0) := by unfold getB; rw [h]
theorem scan_enc {u : Nat} (h : u < 18446744073709551616) (r : List Nat) : scan 10 (encU u ++ r) = some (encU u) := by
 obtain ⟨p, x, e, hp, hx, hl, _⟩ := enc_shape h
 rw [e, List.append_assoc]
 exact scan_end hp hx (by omega) r
theorem getB_enc {u : Nat} (h : u < 18446744073709551616) (r : List Nat) : getB (encU u ++ r) = (zag u, (encU u).length) := by
 rw [getB_some (scan_enc h r), val_enc h]
 have e : u % two64 = u := Nat.mod_eq_of_lt h
 rw [e, if_pos rfl]
theorem getB_nil : getB [] = (0, 0) := rfl
theorem val_snoc : ∀ (p : List Nat) (x : Nat), val (p ++ [x]) = val p + 128 ^ p.length * (x % 128)
 | [], x => by simp [val]
 | b :: p, x => by
   rw [List.cons_append, val, val, val_snoc p x, List.length_cons, Nat.pow_succ, Nat.mul_add, Nat.mul_comm (128 ^ p.length) 128, Nat.mul_assoc]
   omega
theorem val_lt : ∀ p : List Nat, val p < 128 ^ p.length
 | [] => by simp [val]
 | b :: p => by
   have := val_lt p
   rw [val, List.length_cons, Nat.pow_succ]
   omega
theorem gr_val : ∀ (p : List Nat) (x f : Nat), AllHi p → x < 128 → (x = 0 → p = []) → p.length ≤ f → gr f (val (p ++ [x])) = p ++ [x]
 | [], x, f, _, hx, _, _ => by
   rw [List.nil_append]
   have : val [x] = x := by simp [val]; omega
   rw [this, gr_small _ _ hx]
 | b :: p, x, 0, _, _, _, h => by simp at h
 | b :: p, x, f + 1, hp, hx, hz, h => by
   have hb := hp b (by simp)
   have hx0 : x ≠ 0 := fun h0 => by have := hz h0; simp at this
   have ih := gr_val p x f (fun y hy => hp y (by simp [hy])) hx (fun h0 => absurd h0 hx0) (by simpa using h)
   have hpos : 1 ≤ val (p ++ [x]) := by
    rw [val_snoc]
    have h1 : 1 ≤ 128 ^ p.length := Nat.pow_pos (by omega)
    have h2 : 1 ≤ x % 128 := by omega
    have := Nat.mul_le_mul h1 h2
    omega
   rw [List.cons_append, val, gr_big _ _ (by omega)]
   have e1 : (b % 128 + 128 * val (p ++ [x])) % 128 + 128 = b := by omega
   have e2 : (b % 128 + 128 * val (p ++ [x])) / 128 = val (p ++ [x]) := by omega
   rw [e1, e2, ih]
theorem pow9 : (128 : Nat) ^ 9 = 9223372036854775808 := by decide
theorem canon {p : List Nat} {x : Nat} (hp : AllHi p) (hx : x < 128) (hl : p.length ≤ 9) :
 encU (val (p ++ [x]) % two64) = p ++ [x] ↔ (x = 0 → p = []) ∧ (p.length = 9 → x ≤ 1) := by
 have hv := val_lt p
 have hs := val_snoc p x
 have hxm : x % 128 = x := Nat.mod_eq_of_lt hx
 rw [hxm] at hs
 have hmod : val (p ++ [x]) % two64 < 18446744073709551616 := Nat.mod_lt _ (by decide)
 constructor
 · intro h
   constructor
   · intro h0
     obtain ⟨q, y, e, hq, hy, hlq, hz⟩ := enc_shape hmod
     rw [h] at e
     have e1 := List.append_inj' e rfl
     have : y = 0 := by have := e1.2; simp at this; omega
     rw [e1.1]
     exact (hz this).1
   intro h9
   have h2 := val_enc hmod
   rw [h] at h2
   have h3 : val (p ++ [x]) < 18446744073709551616 := by rw [h2]; exact hmod
   rw [hs, h9, pow9] at h3
   omega
 rintro ⟨h0, h9⟩
 have hlt : val (p ++ [x]) < 18446744073709551616 := by
  by_cases h : p.length = 9
  · have := h9 h
    rw [hs, h, pow9]
    rw [h, pow9] at hv
    omega
  have h8 : p.length + 1 ≤ 9 := by omega
  have h1 := val_lt (p ++ [x])
  rw [List.length_append, List.length_singleton] at h1
  have h2 : (128 : Nat) ^ (p.length + 1) ≤ 128 ^ 9 := Nat.pow_le_pow_right (by omega) h8
  rw [pow9] at h2
  omega
 have e : val (p ++ [x]) % two64 = val (p ++ [x]) := Nat.mod_eq_of_lt hlt
 rw [e]
 exact gr_val p x 9 hp hx h0 hl
def textB (s : List Nat) : List Nat := encU (2 * s.length) ++ s
def cutB (bs : List Nat) (most : Int) : List Nat × Nat :=
 if (getB bs).2 = 0 ∨ (getB bs).1 < 0 ∨ most < (getB bs).1 ∨ (bs.length : Int) - ((getB bs).2 : Int) < (getB bs).1 then ([], 0)
 else ((bs.drop (getB bs).2).take (getB bs).1.toNat, (getB bs).2 + (getB bs).1.toNat)
theorem zag_even (k : Nat) : zag (2 * k) = (k : Int) := by unfold zag; rw [if_pos (by omega)]; omega
theorem getB_text {s : List Nat} (h : s.length < 9223372036854775808) (r : List Nat) : getB (textB s ++ r) = ((s.length : Int), (encU (2 * s.length)).length) := by
 unfold textB
 rw [List.append_assoc, getB_enc (by omega), zag_even]
def beB : Nat → Nat → List Nat
 | 0, _ => []
 | k + 1, u => (u / 256 ^ k % 256) :: beB k u
def unbe (bs : List Nat) : Nat := bs.foldl (fun a b => a * 256 + b) 0
def low64 (n : Int) : Nat := (n % 18446744073709551616).toNat
def longB (n : Int) : List Nat := beB 8 (low64 n)
def sg64 (u : Nat) : Int := if u < 9223372036854775808 then (u : Int) else (u : Int) - 18446744073709551616
def backB (bs : List Nat) : Int × Bool := if bs.length < 8 then (0, false) else (sg64 (unbe (bs.take 8)), true)
theorem length_beB : ∀ k u, (beB k u).length = k
 | 0, _ => rfl
 | k + 1, u => by simp [beB, length_beB k u]
theorem beB_all : ∀ k u, AllB (beB k u)
 | 0, _ => fun x h => by cases h
 | k + 1, u => by
   intro x hx
   rcases List.mem_cons.1 hx with h | h
   · rw [h]; exact Nat.mod_lt _ (by omega)
   exact beB_all k u x h
theorem length_longB (n : Int) : (longB n).length = 8 := length_beB 8 _
theorem longB_all (n : Int) : AllB (longB n) := beB_all 8 _
theorem unbe_fold : ∀ k u a, (beB k u).foldl (fun a b => a * 256 + b) a = a * 256 ^ k + u % 256 ^ k
 | 0, u, a => by simp [beB, Nat.mod_one]
 | k + 1, u, a => by
   rw [beB, List.foldl_cons, unbe_fold k u]
   have h := Nat.mod_mul (x := u) (a := 256 ^ k) (b := 256)
   rw [Nat.pow_succ, h, Nat.add_mul, Nat.mul_assoc, Nat.mul_comm 256 (256 ^ k), Nat.mul_comm (u / 256 ^ k % 256) (256 ^ k)]
   omega
theorem pow8 : (256 : Nat) ^ 8 = 18446744073709551616 := by decide
theorem low64_lt (n : Int) : low64 n < 18446744073709551616 := by unfold low64; omega
theorem unbe_long (n : Int) : unbe (longB n) = low64 n := by
 unfold unbe longB
 rw [unbe_fold, pow8, Nat.zero_mul, Nat.zero_add, Nat.mod_eq_of_lt (low64_lt n)]
theorem sg64_low64 {n : Int} (h0 : -9223372036854775808 ≤ n) (h1 : n ≤ 9223372036854775807) : sg64 (low64 n) = n := by
 unfold sg64 low64
 split <;> omega
theorem backB_long {n : Int} (h0 : -9223372036854775808 ≤ n) (h1 : n ≤ 9223372036854775807) (r : List Nat) : backB (longB n ++ r) = (n, true) := by
 unfold backB
 rw [if_neg (by rw [List.length_append, length_longB]; omega)]
 have : (longB n ++ r).take 8 = longB n := by
  rw [List.take_append_of_le_length (by rw [length_longB]; omega), List.take_of_length_le (by rw [length_longB]; omega)]
 rw [this, unbe_long, sg64_low64 h0 h1]
theorem backB_short {bs : List Nat} (h : bs.length < 8) : backB bs = (0, false) := by unfold backB; rw [if_pos h]
theorem beB_take : ∀ i k u, i < k → (beB k u).take (i + 1) = (beB k u).take i ++ [u / 256 ^ (k - 1 - i) % 256]
 | i, 0, u, h => by omega
 | 0, k + 1, u, _ => by simp [beB]
 | i + 1, k + 1, u, h => by
   have ih := beB_take i k u (by omega)
   rw [beB, List.take_succ_cons, ih, List.take_succ_cons, List.cons_append]
   congr 3
   have : k + 1 - 1 - (i + 1) = k - 1 - i := by omega
   rw [this]
theorem unbe_take (bs : List Nat) (i : Nat) (h : i < bs.length) : unbe (bs.take (i + 1)) = unbe (bs.take i) * 256 + bs.getD i 0 := by
 unfold unbe
 rw [List.take_succ_eq_append_getElem h, List.foldl_append, List.getD_eq_getElem?_getD, List.getElem?_eq_getElem h]
 rfl
theorem fold_lt : ∀ (bs : List Nat) (a : Nat), AllB bs → bs.foldl (fun a b => a * 256 + b) a < (a + 1) * 256 ^ bs.length
 | [], a, _ => by simp
 | b :: bs, a, h => by
   have hb := h b (by simp)
   have ih := fold_lt bs (a * 256 + b) (fun x hx => h x (by simp [hx]))
   rw [List.foldl_cons, List.length_cons, Nat.pow_succ, Nat.mul_comm (256 ^ bs.length) 256, ← Nat.mul_assoc]
   exact Nat.lt_of_lt_of_le ih (Nat.mul_le_mul_right _ (by omega))
theorem unbe_lt {bs : List Nat} (h : AllB bs) : unbe bs < 256 ^ bs.length := by
 have := fold_lt bs 0 h
 simpa [unbe] using this
theorem scan_len : ∀ (f : Nat) (bs l : List Nat), scan f bs = some l → l.length ≤ f ∧ l.length ≤ bs.length
 | 0, bs, l, h => by cases h
 | f + 1, [], l, h => by cases h
 | f + 1, b :: r, l, h => by
   unfold scan at h
   split at h
   · cases h; simp
   obtain ⟨t, ht, rfl⟩ := Option.map_eq_some_iff.1 h
   have := scan_len f r t ht
   simp; omega
theorem getB_bounds (bs : List Nat) : (getB bs).2 ≤ 10 ∧ (getB bs).2 ≤ bs.length ∧ -9223372036854775808 ≤ (getB bs).1 ∧ (getB bs).1 ≤ 9223372036854775807 := by
 rcases h : scan 10 bs with _ | l
 · rw [getB_none h]; simp
 rw [getB_some h]
 have h2 := scan_len 10 bs l h
 split
 · have h3 := zag_in (u := val l % two64) (Nat.mod_lt _ (by decide))
   simp only
   omega
 simp
theorem cutB_no {bs : List Nat} {most : Int} (h : (getB bs).2 = 0 ∨ (getB bs).1 < 0 ∨ most < (getB bs).1 ∨ (bs.length : Int) - ((getB bs).2 : Int) < (getB bs).1) : cutB bs most = ([], 0) := by
 unfold cutB; rw [if_pos h]
theorem cutB_yes {bs : List Nat} {most : Int} (h : ¬ ((getB bs).2 = 0 ∨ (getB bs).1 < 0 ∨ most < (getB bs).1 ∨ (bs.length : Int) - ((getB bs).2 : Int) < (getB bs).1)) : cutB bs most = ((bs.drop (getB bs).2).take (getB bs).1.toNat, (getB bs).2 + (getB bs).1.toNat) := by
 unfold cutB; rw [if_neg h]
end Go.VarMath
namespace Go.CrcMath
def poly : Nat := 2197175160
def bstep (c : Nat) : Nat := if c % 2 = 1 then c / 2 ^^^ poly else c / 2
def bsteps : Nat → Nat → Nat
 | 0, c => c
 | n + 1, c => bstep (bsteps n c)
def nxt (c b : Nat) : Nat := bsteps 8 (c ^^^ b)
def run (c : Nat) (bs : List Nat) : Nat := bs.foldl nxt c
def full : Nat := 4294967295
theorem full_lt : full < 4294967296 := by unfold full; omega
def cpl (c : Nat) : Nat := full ^^^ c
def ofB (bs : List Nat) : Nat := cpl (run full bs)
def leB (c : Nat) : List Nat := [c % 256, c / 256 % 256, c / 65536 % 256, c / 16777216 % 256]
def sealB (bs : List Nat) : List Nat := leB (ofB bs) ++ bs
def unl : List Nat → Nat
 | [] => 0
 | b :: bs => b + 256 * unl bs
def okB (bs : List Nat) : Bool := decide (4 ≤ bs.length) && decide (unl (bs.take 4) = ofB (bs.drop 4))
abbrev AllB (bs : List Nat) : Prop := ∀ x ∈ bs, x < 256
theorem bstep_lt {c : Nat} (h : c < 4294967296) : bstep c < 4294967296 := by
 unfold bstep
 split
 · exact Nat.xor_lt_two_pow (n := 32) (by omega) (by decide)
 omega
theorem bsteps_lt {c : Nat} (h : c < 4294967296) : ∀ n, bsteps n c < 4294967296
 | 0 => h
 | n + 1 => bstep_lt (bsteps_lt h n)
theorem xor_lt {c b : Nat} (h : c < 4294967296) (hb : b < 4294967296) : c ^^^ b < 4294967296 := Nat.xor_lt_two_pow (n := 32) h hb
theorem nxt_lt {c b : Nat} (h : c < 4294967296) (hb : b < 256) : nxt c b < 4294967296 := bsteps_lt (xor_lt h (by omega)) 8
theorem run_lt : ∀ (bs : List Nat) (c : Nat), c < 4294967296 → AllB bs → run c bs < 4294967296
 | [], c, h, _ => h
 | b :: bs, c, h, hb => run_lt bs (nxt c b) (nxt_lt h (hb b (by simp))) (fun x hx => hb x (by simp [hx]))
theorem cpl_lt {c : Nat} (h : c < 4294967296) : cpl c < 4294967296 := xor_lt full_lt h
theorem cpl_eq (c : Nat) : cpl c = full ^^^ c := rfl
theorem ofB_lt {bs : List Nat} (h : AllB bs) : ofB bs < 4294967296 := cpl_lt (run_lt bs _ full_lt h)
theorem run_snoc (c : Nat) (a : List Nat) (b : Nat) : run c (a ++ [b]) = nxt (run c a) b := by simp [run, List.foldl_append]
theorem xor_div2 (x y : Nat) : (x ^^^ y) / 2 = x / 2 ^^^ y / 2 := by
 have := Nat.shiftRight_xor_distrib (a := x) (b := y) (i := 1)
 simpa [Nat.shiftRight_eq_div_pow] using this
theorem xor_mod2 (x y : Nat) : (x ^^^ y) % 2 = (x % 2 + y % 2) % 2 := by
 have h : (x ^^^ y) % 2 ^ 1 = x % 2 ^ 1 ^^^ y % 2 ^ 1 := Nat.xor_mod_two_pow
 simp only [Nat.pow_one] at h
 rw [h]
 rcases Nat.mod_two_eq_zero_or_one x with hx | hx <;> rcases Nat.mod_two_eq_zero_or_one y with hy | hy <;> simp [hx, hy]
theorem bstep_xor (x y : Nat) : bstep (x ^^^ y) = bstep x ^^^ bstep y := by
 unfold bstep
 rw [xor_mod2, xor_div2]
 rcases Nat.mod_two_eq_zero_or_one x with hx | hx <;> rcases Nat.mod_two_eq_zero_or_one y with hy | hy
 · simp [hx, hy]
 · simp [hx, hy, Nat.xor_assoc]
 · simp only [hx, hy]; simp [Nat.xor_assoc, Nat.xor_comm poly]
 simp only [hx, hy]; simp [Nat.xor_assoc]; rw [Nat.xor_comm poly, Nat.xor_assoc, Nat.xor_self, Nat.xor_zero]
theorem bsteps_xor (x y : Nat) : ∀ n, bsteps n (x ^^^ y) = bsteps n x ^^^ bsteps n y
 | 0 => rfl
 | n + 1 => by unfold bsteps; rw [bsteps_xor x y n, bstep_xor]
theorem bsteps_add (m x : Nat) : ∀ n, bsteps (m + n) x = bsteps n (bsteps m x)
 | 0 => rfl
 | n + 1 => by show bstep (bsteps (m + n) x) = bstep (bsteps n (bsteps m x)); rw [bsteps_add m x n]
theorem bstep_double (u : Nat) : bstep (2 * u) = u := by unfold bstep; rw [if_neg (by omega)]; omega
theorem steps8_256 (u : Nat) : bsteps 8 (256 * u) = u := by
 have e : 256 * u = 2 * (2 * (2 * (2 * (2 * (2 * (2 * (2 * u))))))) := by omega
 rw [e]
 simp only [bsteps, bstep_double]
theorem low_xor (t u : Nat) (h : t < 256) : t ^^^ 256 * u = t + 256 * u := by
 have h1 : 2 ^ 8 * u + t = 2 ^ 8 * u ||| t := Nat.two_pow_add_eq_or_of_lt (i := 8) (b := t) (by simpa using h) u
 have e2 : 2 ^ 8 * u ||| t = t ^^^ 2 ^ 8 * u := by
  apply Nat.eq_of_testBit_eq
  intro i
  rw [Nat.testBit_or, Nat.testBit_xor]
  by_cases hi : i < 8
  · have h2 : Nat.testBit (2 ^ 8 * u) i = false := by rw [Nat.testBit_two_pow_mul]; simp; omega
    rw [h2]; simp
  have h3 : Nat.testBit t i = false := Nat.testBit_lt_two_pow (Nat.lt_of_lt_of_le h (Nat.pow_le_pow_right (n := 2) (i := 8) (by decide) (by omega)))
  rw [h3]; simp
 have h4 : 2 ^ 8 * u = 256 * u := rfl
 rw [h4] at h1 e2
 omega
theorem nxt_xor (c d b t : Nat) : nxt (c ^^^ d) (b ^^^ t) = nxt c b ^^^ bsteps 8 (d ^^^ t) := by
 unfold nxt
 rw [← bsteps_xor]
 congr 1
 rw [Nat.xor_assoc, Nat.xor_assoc, ← Nat.xor_assoc d b t, Nat.xor_comm d b, Nat.xor_assoc]
theorem peel (d t u : Nat) (h : t < 256) : bsteps 8 (d ^^^ (t + 256 * u)) = bsteps 8 (d ^^^ t) ^^^ u := by
 rw [← low_xor t u h, ← Nat.xor_assoc, bsteps_xor, steps8_256]
theorem four (c a0 a1 a2 a3 t0 t1 t2 t3 : Nat) (h0 : t0 < 256) (h1 : t1 < 256) (h2 : t2 < 256) :
 run c [a0 ^^^ t0, a1 ^^^ t1, a2 ^^^ t2, a3 ^^^ t3] = run c [a0, a1, a2, a3] ^^^ bsteps 32 (t0 + 256 * (t1 + 256 * (t2 + 256 * t3))) := by
 have e : bsteps 32 (t0 + 256 * (t1 + 256 * (t2 + 256 * t3))) = bsteps 8 (bsteps 8 (bsteps 8 (bsteps 8 t0 ^^^ t1) ^^^ t2) ^^^ t3) := by
  have p0 := peel 0 t0 (t1 + 256 * (t2 + 256 * t3)) h0
  simp only [Nat.zero_xor] at p0
  rw [show (32 : Nat) = 8 + (8 + (8 + 8)) from rfl, bsteps_add, p0, bsteps_add, peel _ _ _ h1, bsteps_add, peel _ _ _ h2]
 rw [e]
 have q0 : nxt c (a0 ^^^ t0) = nxt c a0 ^^^ bsteps 8 t0 := by have := nxt_xor c 0 a0 t0; simpa using this
 simp only [run, List.foldl_cons, List.foldl_nil]
 rw [q0, nxt_xor, nxt_xor, nxt_xor]
theorem leB_all (c : Nat) : AllB (leB c) := by intro x hx; simp [leB] at hx; omega
theorem sealB_all {bs : List Nat} (h : AllB bs) : AllB (sealB bs) := by
 intro x hx
 rcases List.mem_append.1 hx with h1 | h1
 · exact leB_all _ x h1
 exact h x h1
theorem length_sealB (bs : List Nat) : (sealB bs).length = bs.length + 4 := by simp [sealB, leB]
theorem unl_leB {c : Nat} (h : c < 4294967296) : unl (leB c) = c := by simp only [leB, unl]; omega
theorem leB_unl {b0 b1 b2 b3 : Nat} (h0 : b0 < 256) (h1 : b1 < 256) (h2 : b2 < 256) (h3 : b3 < 256) : leB (unl [b0, b1, b2, b3]) = [b0, b1, b2, b3] := by
 simp only [leB, unl]
 congr 1
 · omega
 congr 1
 · omega
 congr 1
 · omega
 congr 1; omega
theorem take_sealB (bs : List Nat) : (sealB bs).take 4 = leB (ofB bs) := by simp [sealB, leB]
theorem drop_sealB (bs : List Nat) : (sealB bs).drop 4 = bs := by simp [sealB, leB]
theorem four_of {bs : List Nat} (h : 4 ≤ bs.length) : ∃ b0 b1 b2 b3 r, bs = b0 :: b1 :: b2 :: b3 :: r := by
 match bs, h with
 | b0 :: b1 :: b2 :: b3 :: r, _ => exact ⟨b0, b1, b2, b3, r, rfl⟩
theorem okB_short {bs : List Nat} (h : bs.length < 4) : okB bs = false := by simp [okB]; omega
theorem okB_seal {bs : List Nat} (h : AllB bs) : okB (sealB bs) = true := by
 simp only [okB, length_sealB, take_sealB, drop_sealB, unl_leB (ofB_lt h)]; simp
theorem okB_long {bs : List Nat} (h : 4 ≤ bs.length) : okB bs = decide (unl (bs.take 4) = ofB (bs.drop 4)) := by simp [okB, h]
theorem sealB_drop {bs : List Nat} (h : 4 ≤ bs.length) (hb : AllB bs) : sealB (bs.drop 4) = bs ↔ okB bs = true := by
 obtain ⟨b0, b1, b2, b3, r, rfl⟩ := four_of h
 have h0 := hb b0 (by simp)
 have h1 := hb b1 (by simp)
 have h2 := hb b2 (by simp)
 have h3 := hb b3 (by simp)
 have hr : AllB r := fun x hx => hb x (by simp [hx])
 rw [okB_long h]
 simp only [List.drop_succ_cons, List.drop_zero, List.take_succ_cons, List.take_zero, decide_eq_true_eq]
 constructor
 · intro e
   have e2 : leB (ofB r) = [b0, b1, b2, b3] := by
    have := congrArg (List.take 4) e
    simpa [sealB, leB] using this
   rw [← e2, unl_leB (ofB_lt hr)]
 intro e
 show leB (ofB r) ++ r = _
 rw [← e, leB_unl h0 h1 h2 h3]; rfl
end Go.CrcMath
namespace Go.SeqMath
def rightB (n : Int) : Bool := decide (0 ≤ n) && decide (n ≤ 2147483647)
def addI (n k : Int) : Int := if rightB n = true then (n + k) % 2147483648 else -1
def lastI (n c : Int) : Int := if 1 ≤ c ∧ c ≤ 16 then addI n (c - 1) else -1
def followsB (l f : Int) : Bool := if l = -1 then decide (f = 0) else rightB l && decide (f = addI l 1)
def gapI (a b : Int) : Int := if rightB a = true ∧ rightB b = true then (b - a) % 2147483648 else -1
theorem right_yes {n : Int} (h0 : 0 ≤ n) (h1 : n ≤ 2147483647) : rightB n = true := by unfold rightB; simp [h0, h1]
theorem right_no {n : Int} (h : n < 0 ∨ 2147483647 < n) : rightB n = false := by
 unfold rightB
 rcases h with h | h
 · rw [decide_eq_false (by omega)]; rfl
 rw [decide_eq_false (p := n ≤ 2147483647) (by omega), Bool.and_false]
theorem of_right {n : Int} (h : rightB n = true) : 0 ≤ n ∧ n ≤ 2147483647 := by unfold rightB at h; simpa using h
theorem add_yes {n : Int} (h0 : 0 ≤ n) (h1 : n ≤ 2147483647) (k : Int) : addI n k = (n + k) % 2147483648 := by unfold addI; rw [if_pos (right_yes h0 h1)]
theorem add_no {n : Int} (h : rightB n = false) (k : Int) : addI n k = -1 := by unfold addI; rw [if_neg (by rw [h]; decide)]
theorem last_yes {c : Int} (h0 : 1 ≤ c) (h1 : c ≤ 16) (n : Int) : lastI n c = addI n (c - 1) := by unfold lastI; rw [if_pos ⟨h0, h1⟩]
theorem last_no {c : Int} (h : c < 1 ∨ 16 < c) (n : Int) : lastI n c = -1 := by unfold lastI; rw [if_neg (by omega)]
theorem gap_yes {a b : Int} (a0 : 0 ≤ a) (a1 : a ≤ 2147483647) (b0 : 0 ≤ b) (b1 : b ≤ 2147483647) : gapI a b = (b - a) % 2147483648 := by
 unfold gapI; rw [if_pos ⟨right_yes a0 a1, right_yes b0 b1⟩]
theorem follows_none (f : Int) : followsB (-1) f = decide (f = 0) := by unfold followsB; rw [if_pos rfl]
theorem follows_yes {l : Int} (h0 : 0 ≤ l) (h1 : l ≤ 2147483647) (f : Int) : followsB l f = decide (f = addI l 1) := by
 unfold followsB; rw [if_neg (by omega), right_yes h0 h1, Bool.true_and]
theorem follows_no {l : Int} (h : l ≠ -1) (h2 : rightB l = false) (f : Int) : followsB l f = false := by
 unfold followsB; rw [if_neg h, h2, Bool.false_and]
/- What the two laws say, of the plain functions. -/
theorem gap_add {x k : Int} (x0 : 0 ≤ x) (x1 : x ≤ 2147483647) (k0 : 0 ≤ k) (k1 : k ≤ 2147483647) : gapI x (addI x k) = k := by
 rw [add_yes x0 x1, gap_yes x0 x1 (by omega) (by omega)]; omega
theorem add_add {x : Int} (x0 : 0 ≤ x) (x1 : x ≤ 2147483647) (j k : Int) : addI (addI x j) k = addI x (j + k) := by
 rw [add_yes x0 x1, add_yes x0 x1, add_yes (by omega) (by omega)]; omega
end Go.SeqMath
namespace Go.BatMath
open Go.SeqMath
open Go.VarMath (textB cutB encU longB beB unbe low64 sg64 backB)
open Go.CrcMath (sealB okB)
abbrev AllB (bs : List Nat) : Prop := ∀ x ∈ bs, x < 256
def bl (s : ByteArray) : List Nat := s.data.toList.map UInt8.toNat
def sb (l : List Nat) : ByteArray := ⟨(l.map UInt8.ofNat).toArray⟩
theorem sb_bl (s : ByteArray) : sb (bl s) = s := by
 unfold sb bl
 rw [List.map_map]
 have : (UInt8.ofNat ∘ UInt8.toNat) = id := by funext x; simp
 rw [this, List.map_id]
theorem bl_sb {l : List Nat} (h : AllB l) : bl (sb l) = l := by
 unfold sb bl
 simp only [List.map_map]
 have : l.map (UInt8.toNat ∘ UInt8.ofNat) = l.map id := List.map_congr_left fun x hx => by
  have := h x hx
  simp only [Function.comp, id, UInt8.toNat_ofNat']
  omega
 rw [this, List.map_id]
theorem bl_len (s : ByteArray) : (bl s).length = s.size := by simp [bl]
theorem bl_all (s : ByteArray) : AllB (bl s) := by
 intro x hx
 obtain ⟨c, _, rfl⟩ := List.mem_map.1 hx
 exact c.toNat_lt
structure Rc where
 key : ByteArray
 val : ByteArray
structure Bat where
 base : Int
 prod : Int
 epoch : Int
 seq : Int
 txn : Bool
 marker : Int
 recs : List Rc
def Bat.zero : Bat := ⟨0, 0, 0, 0, false, 0, []⟩
def Bat.at (b : Bat) (n : Int) : Bat := { b with base := n }
theorem Bat.ext_of {a b : Bat} (h0 : a.base = b.base) (h1 : a.prod = b.prod) (h2 : a.epoch = b.epoch) (h3 : a.seq = b.seq) (h4 : a.txn = b.txn) (h5 : a.marker = b.marker) (h6 : a.recs = b.recs) : a = b := by
 cases a; cases b; simp only at h0 h1 h2 h3 h4 h5 h6; subst h0 h1 h2 h3 h4 h5 h6; rfl
abbrev In64 (n : Int) : Prop := -9223372036854775808 ≤ n ∧ n ≤ 9223372036854775807
structure Bat.wf (b : Bat) : Prop where
 base : In64 b.base
 prod : In64 b.prod
 epoch : In64 b.epoch
 seq : In64 b.seq
 marker : In64 b.marker
theorem zero_wf : Bat.zero.wf := ⟨by decide, by decide, by decide, by decide, by decide⟩
def headB (b : Bat) : Bool := decide (0 ≤ b.prod) && (decide (0 ≤ b.epoch) && decide (b.epoch ≤ 32767))
def noneB (b : Bat) : Bool := decide (b.prod = -1) && (decide (b.epoch = -1) && (decide (b.seq = -1) && !b.txn))
def longRec (r : Rc) : Prop := 64 < r.key.size ∨ 64 < r.val.size
noncomputable def rightE (b : Bat) : Int :=
 if b.base < 0 ∨ 1099511627776 < b.base then 18
 else if b.marker ≠ 0 then
  if (b.marker = 1 ∨ b.marker = 2) ∧ headB b = true ∧ b.seq = -1 ∧ b.txn = true ∧ b.recs = [] then 0 else 12
 else if (noneB b = true ∨ headB b = true ∧ rightB b.seq = true) ∧ b.recs ≠ [] then
  open Classical in if 16 < b.recs.length ∨ ∃ r ∈ b.recs, longRec r then 13 else 0
 else 12
theorem head_of {b : Bat} (h : headB b = true) : 0 ≤ b.prod ∧ 0 ≤ b.epoch ∧ b.epoch ≤ 32767 := by unfold headB at h; simpa using h
theorem none_of {b : Bat} (h : noneB b = true) : b.prod = -1 ∧ b.epoch = -1 ∧ b.seq = -1 ∧ b.txn = false := by unfold noneB at h; simpa using h
structure Ok (b : Bat) : Prop where
 base0 : 0 ≤ b.base
 base1 : b.base ≤ 1099511627776
 prod : -1 ≤ b.prod
 epoch0 : -1 ≤ b.epoch
 epoch1 : b.epoch ≤ 32767
 seq0 : -1 ≤ b.seq
 seq1 : b.seq ≤ 2147483647
 marker0 : 0 ≤ b.marker
 marker1 : b.marker ≤ 2
 recs : b.recs.length ≤ 16
 texts : ∀ r ∈ b.recs, r.key.size ≤ 64 ∧ r.val.size ≤ 64
theorem ok_of {b : Bat} (h : rightE b = 0) : Ok b := by
 unfold rightE at h
 split at h
 · omega
 rename_i hb
 split at h
 · split at h
   · rename_i hm hh
     obtain ⟨h1, h2, h3, h4, h5⟩ := hh
     obtain ⟨p0, p1, p2⟩ := head_of h2
     exact ⟨by omega, by omega, by omega, by omega, by omega, by omega, by omega, by omega, by omega, by rw [h5]; simp, by rw [h5]; intro r hr; cases hr⟩
   omega
 rename_i hm
 split at h
 · rename_i hh
   split at h
   · omega
   rename_i hl
   have hl1 : b.recs.length ≤ 16 := by
    by_cases h16 : 16 < b.recs.length
    · exact absurd (.inl h16) hl
    omega
   have hl2 : ∀ r ∈ b.recs, r.key.size ≤ 64 ∧ r.val.size ≤ 64 := by
    intro r hr
    refine ⟨?_, ?_⟩
    · by_cases h64 : 64 < r.key.size
      · exact absurd (.inr ⟨r, hr, .inl h64⟩) hl
      omega
    by_cases h64 : 64 < r.val.size
    · exact absurd (.inr ⟨r, hr, .inr h64⟩) hl
    omega
   rcases hh.1 with h1 | ⟨h1, h2⟩
   · obtain ⟨q1, q2, q3, q4⟩ := none_of h1
     exact ⟨by omega, by omega, by omega, by omega, by omega, by omega, by omega, by omega, by omega, hl1, hl2⟩
   obtain ⟨p0, p1, p2⟩ := head_of h1
   obtain ⟨s0, s1⟩ := of_right h2
   exact ⟨by omega, by omega, by omega, by omega, by omega, by omega, by omega, by omega, by omega, hl1, hl2⟩
 omega
def flagN (b : Bat) : Nat := (2 * b.marker + (if b.txn = true then 1 else 0)).toNat % 256
def epochN (b : Bat) : Nat := (b.epoch % 65536).toNat
def recB (r : Rc) : List Nat := textB (bl r.key) ++ textB (bl r.val)
def recsB (l : List Rc) : List Nat := l.flatMap recB
def frontB (b : Bat) : List Nat := flagN b :: (longB b.prod ++ (epochN b / 256 :: epochN b % 256 :: (longB b.seq ++ [b.recs.length % 256])))
def bodyB (b : Bat) : List Nat := frontB b ++ recsB b.recs
def bytesB (b : Bat) : List Nat := longB b.base ++ (beB 4 (sealB (bodyB b)).length ++ sealB (bodyB b))
theorem recsB_cons (r : Rc) (l : List Rc) : recsB (r :: l) = recB r ++ recsB l := rfl
theorem recsB_snoc (l : List Rc) (r : Rc) : recsB (l ++ [r]) = recsB l ++ recB r := by simp [recsB]
theorem front_len (b : Bat) : (frontB b).length = 20 := by simp [frontB, VarMath.length_longB]
theorem text_len {s : List Nat} (hl : s.length < 9223372036854775808) : s.length + 1 ≤ (textB s).length ∧ (textB s).length ≤ s.length + 10 := by
 have := VarMath.enc_len (u := 2 * s.length) (by omega)
 unfold textB
 rw [List.length_append]
 omega
theorem rec_len {r : Rc} (h : r.key.size ≤ 64 ∧ r.val.size ≤ 64) : 2 ≤ (recB r).length ∧ (recB r).length ≤ 148 := by
 have h1 := text_len (s := bl r.key) (by rw [bl_len]; omega)
 have h2 := text_len (s := bl r.val) (by rw [bl_len]; omega)
 rw [bl_len] at h1 h2
 unfold recB
 rw [List.length_append]
 omega
theorem recs_len : ∀ {l : List Rc}, (∀ r ∈ l, r.key.size ≤ 64 ∧ r.val.size ≤ 64) → 2 * l.length ≤ (recsB l).length ∧ (recsB l).length ≤ 148 * l.length
 | [], _ => by simp [recsB]
 | r :: l, h => by
   have h1 := rec_len (h r (by simp))
   have h2 := recs_len (l := l) fun x hx => h x (by simp [hx])
   rw [recsB_cons, List.length_append, List.length_cons]
   omega
theorem body_len (b : Bat) : (bodyB b).length = 20 + (recsB b.recs).length := by unfold bodyB; rw [List.length_append, front_len]
theorem bytes_len (b : Bat) : (bytesB b).length = 36 + (recsB b.recs).length := by
 unfold bytesB
 rw [List.length_append, List.length_append, VarMath.length_longB, VarMath.length_beB, CrcMath.length_sealB, body_len]
 omega
theorem ok_len {b : Bat} (h : Ok b) : (bytesB b).length ≤ 2404 ∧ 36 ≤ (bytesB b).length := by
 have h1 := (recs_len h.texts).2
 have h2 := h.recs
 rw [bytes_len]
 omega
theorem text_all {s : List Nat} (h : AllB s) (hl : s.length < 9223372036854775808) : AllB (textB s) := by
 unfold textB
 intro x hx
 rcases List.mem_append.1 hx with h1 | h1
 · exact VarMath.enc_all (by omega) x h1
 exact h x h1
theorem all_app {a b : List Nat} (ha : AllB a) (hb : AllB b) : AllB (a ++ b) := by
 intro x hx
 rcases List.mem_append.1 hx with h | h
 · exact ha x h
 exact hb x h
theorem all_cons {a : Nat} {b : List Nat} (ha : a < 256) (hb : AllB b) : AllB (a :: b) := by
 intro x hx
 rcases List.mem_cons.1 hx with h | h
 · rw [h]; exact ha
 exact hb x h
theorem all_nil : AllB [] := fun x h => by cases h
theorem rec_all {r : Rc} (h : r.key.size < 9223372036854775808 ∧ r.val.size < 9223372036854775808) : AllB (recB r) :=
 all_app (text_all (bl_all _) (by rw [bl_len]; exact h.1)) (text_all (bl_all _) (by rw [bl_len]; exact h.2))
theorem recs_all : ∀ {l : List Rc}, (∀ r ∈ l, r.key.size < 9223372036854775808 ∧ r.val.size < 9223372036854775808) → AllB (recsB l)
 | [], _ => all_nil
 | r :: l, h => by
   rw [recsB_cons]
   exact all_app (rec_all (h r (by simp))) (recs_all fun x hx => h x (by simp [hx]))
theorem flag_lt (b : Bat) : flagN b < 256 := Nat.mod_lt _ (by omega)
theorem epoch_lt (b : Bat) : epochN b < 65536 := by unfold epochN; omega
theorem front_all (b : Bat) : AllB (frontB b) := by
 have h1 := epoch_lt b
 exact all_cons (flag_lt b) (all_app (VarMath.longB_all _) (all_cons (by omega) (all_cons (by omega) (all_app (VarMath.longB_all _) (all_cons (by omega) all_nil)))))
theorem body_all {b : Bat} (h : Ok b) : AllB (bodyB b) := all_app (front_all b) (recs_all fun r hr => by have := h.texts r hr; omega)
theorem bytes_all {b : Bat} (h : Ok b) : AllB (bytesB b) := all_app (VarMath.longB_all _) (all_app (VarMath.beB_all 4 _) (CrcMath.sealB_all (body_all h)))
theorem cut_text_any {s : List Nat} (h : s.length < 9223372036854775808) (r : List Nat) (most : Int) (hm : (s.length : Int) ≤ most) : cutB (textB s ++ r) most = (s, (textB s).length) := by
 have h1 := VarMath.enc_len (u := 2 * s.length) (by omega)
 have hlen : (textB s ++ r).length = (encU (2 * s.length)).length + s.length + r.length := by simp [textB]; try omega
 have hg := VarMath.getB_text h r
 rw [VarMath.cutB_yes (by rw [hg, hlen]; simp only; omega), hg]
 simp only [Int.toNat_natCast]
 congr 1
 · unfold textB
   rw [List.append_assoc, List.drop_append_of_le_length (Nat.le_refl _), List.drop_length, List.nil_append, List.take_append_of_le_length (Nat.le_refl _), List.take_length]
 simp [textB]
def recsD : Nat → List Nat → Nat → Option (List Rc × Nat)
 | 0, _, i => some ([], i)
 | n + 1, x, i =>
   if (cutB (x.drop i) (x.length : Int)).2 = 0 ∨ (cutB (x.drop (i + (cutB (x.drop i) (x.length : Int)).2)) (x.length : Int)).2 = 0 then none
   else (recsD n x (i + (cutB (x.drop i) (x.length : Int)).2 + (cutB (x.drop (i + (cutB (x.drop i) (x.length : Int)).2)) (x.length : Int)).2)).map fun p =>
    (⟨sb (cutB (x.drop i) (x.length : Int)).1, sb (cutB (x.drop (i + (cutB (x.drop i) (x.length : Int)).2)) (x.length : Int)).1⟩ :: p.1, p.2)
theorem recsD_step {n i k m : Nat} {x a c : List Nat} (h1 : cutB (x.drop i) (x.length : Int) = (a, k)) (h2 : cutB (x.drop (i + k)) (x.length : Int) = (c, m)) (hk : k ≠ 0) (hm : m ≠ 0) :
 recsD (n + 1) x i = (recsD n x (i + k + m)).map fun p => (⟨sb a, sb c⟩ :: p.1, p.2) := by
 show (if (cutB (x.drop i) (x.length : Int)).2 = 0 ∨ _ then _ else _) = _
 rw [h1]
 simp only
 rw [h2]
 simp only
 rw [if_neg (by omega)]
theorem recsD_fell {n i k m : Nat} {x a c : List Nat} (h1 : cutB (x.drop i) (x.length : Int) = (a, k)) (h2 : cutB (x.drop (i + k)) (x.length : Int) = (c, m)) (h : k = 0 ∨ m = 0) :
 recsD (n + 1) x i = none := by
 show (if (cutB (x.drop i) (x.length : Int)).2 = 0 ∨ _ then _ else _) = _
 rw [h1]
 simp only
 rw [h2]
 simp only
 rw [if_pos h]
theorem recsD_enc : ∀ (l : List Rc) (p r : List Nat), (∀ c ∈ l, c.key.size ≤ 64 ∧ c.val.size ≤ 64) → recsD l.length (p ++ (recsB l ++ r)) p.length = some (l, p.length + (recsB l).length)
 | [], p, r, _ => by simp [recsD, recsB]
 | c :: l, p, r, h => by
   obtain ⟨hc1, hc2⟩ := h c (by simp)
   have e1 : (p ++ (recsB (c :: l) ++ r)).drop p.length = textB (bl c.key) ++ (textB (bl c.val) ++ (recsB l ++ r)) := by
    rw [List.drop_append_of_le_length (Nat.le_refl _), List.drop_length, List.nil_append, recsB_cons, recB]
    simp only [List.append_assoc]
   have e2 : (p ++ (recsB (c :: l) ++ r)).drop (p.length + (textB (bl c.key)).length) = textB (bl c.val) ++ (recsB l ++ r) := by
    rw [← List.drop_drop, e1, List.drop_append_of_le_length (Nat.le_refl _), List.drop_length, List.nil_append]
   have l1 := text_len (s := bl c.key) (by rw [bl_len]; omega)
   have l2 := text_len (s := bl c.val) (by rw [bl_len]; omega)
   have hx : (p ++ (recsB (c :: l) ++ r)).length = p.length + ((textB (bl c.key)).length + (textB (bl c.val)).length + (recsB l).length + r.length) := by
    rw [recsB_cons, recB]
    simp only [List.length_append]
   have c1 := cut_text_any (s := bl c.key) (by rw [bl_len]; omega) (textB (bl c.val) ++ (recsB l ++ r)) ((p ++ (recsB (c :: l) ++ r)).length : Int) (by rw [hx]; omega)
   have c2 := cut_text_any (s := bl c.val) (by rw [bl_len]; omega) (recsB l ++ r) ((p ++ (recsB (c :: l) ++ r)).length : Int) (by rw [hx]; omega)
   rw [← e1] at c1
   rw [← e2] at c2
   rw [List.length_cons, recsD_step c1 c2 (by omega) (by omega)]
   have ih := recsD_enc l (p ++ recB c) r (fun x hx => h x (by simp [hx]))
   have e3 : p ++ recB c ++ (recsB l ++ r) = p ++ (recsB (c :: l) ++ r) := by rw [recsB_cons]; simp only [List.append_assoc]
   have e4 : (p ++ recB c).length = p.length + (textB (bl c.key)).length + (textB (bl c.val)).length := by rw [recB]; simp only [List.length_append]; omega
   rw [e3, e4] at ih
   rw [ih, sb_bl, sb_bl]
   simp only [Option.map_some, recsB_cons, recB, List.length_append]
   congr 2
   omega
def epD (n : Nat) : Int := if n = 65535 then -1 else (n : Int)
def innerOf (r : Option (List Rc × Nat)) (p e s : Int) (t : Bool) (m : Int) (len : Nat) : Bat × Bool :=
 match r with
 | none => (Bat.zero, false)
 | some q => (⟨0, p, e, s, t, m, q.1⟩, decide (q.2 = len))
def innerD (x : List Nat) : Bat × Bool :=
 if x.length < 20 then (Bat.zero, false)
 else innerOf (recsD (x.getD 19 0) x 20) (backB (x.drop 1)).1 (epD (x.getD 9 0 * 256 + x.getD 10 0)) (backB (x.drop 11)).1 (decide (x.getD 0 0 % 2 = 1)) ((x.getD 0 0 / 2 : Nat) : Int) x.length
theorem getD_drop (x : List Nat) (k : Nat) : x.getD k 0 = (x.drop k).getD 0 0 := by
 rw [List.getD_eq_getElem?_getD, List.getD_eq_getElem?_getD, List.getElem?_drop, Nat.add_zero]
theorem drop_cons_app (a : Nat) (l r : List Nat) (k : Nat) (h : l.length = k) : (a :: (l ++ r)).drop (k + 1) = r := by
 rw [List.drop_succ_cons, ← h, List.drop_append_of_le_length (Nat.le_refl _), List.drop_length, List.nil_append]
theorem inner_body {b : Bat} (h : Ok b) (hw : b.wf) : innerD (bodyB b) = (b.at 0, true) := by
 have hl := body_len b
 have hx : bodyB b = flagN b :: (longB b.prod ++ (epochN b / 256 :: epochN b % 256 :: (longB b.seq ++ (b.recs.length % 256 :: recsB b.recs)))) := by simp [bodyB, frontB]
 have d1 : (bodyB b).drop 1 = longB b.prod ++ (epochN b / 256 :: epochN b % 256 :: (longB b.seq ++ (b.recs.length % 256 :: recsB b.recs))) := by rw [hx]; rfl
 have d9 : (bodyB b).drop 9 = epochN b / 256 :: epochN b % 256 :: (longB b.seq ++ (b.recs.length % 256 :: recsB b.recs)) := by rw [hx]; exact drop_cons_app _ _ _ 8 (VarMath.length_longB _)
 have d10 : (bodyB b).drop 10 = epochN b % 256 :: (longB b.seq ++ (b.recs.length % 256 :: recsB b.recs)) := by rw [show (10 : Nat) = 9 + 1 from rfl, ← List.drop_drop, d9]; rfl
 have d11 : (bodyB b).drop 11 = longB b.seq ++ (b.recs.length % 256 :: recsB b.recs) := by rw [show (11 : Nat) = 10 + 1 from rfl, ← List.drop_drop, d10]; rfl
 have d19 : (bodyB b).drop 19 = b.recs.length % 256 :: recsB b.recs := by rw [show (19 : Nat) = 10 + 9 from rfl, ← List.drop_drop, d10]; exact drop_cons_app _ _ _ 8 (VarMath.length_longB _)
 have g0 : (bodyB b).getD 0 0 = flagN b := by rw [hx]; rfl
 have g9 : (bodyB b).getD 9 0 = epochN b / 256 := by rw [getD_drop, d9]; rfl
 have g10 : (bodyB b).getD 10 0 = epochN b % 256 := by rw [getD_drop, d10]; rfl
 have hr := h.recs
 have g19 : (bodyB b).getD 19 0 = b.recs.length := by rw [getD_drop, d19]; show b.recs.length % 256 = _; omega
 have hb : recsD b.recs.length (bodyB b) 20 = some (b.recs, (bodyB b).length) := by
  have := recsD_enc b.recs (frontB b) [] h.texts
  rw [front_len, List.append_nil] at this
  rw [body_len]
  exact this
 obtain ⟨h1, h2, h3, h4, h5, h6, h7, h8, h9, _, _⟩ := h
 obtain ⟨w1, w2, w3, w4, w5⟩ := hw
 unfold innerD
 rw [if_neg (by omega), g19, hb]
 unfold innerOf
 simp only
 rw [d1, d11, g0, g9, g10, VarMath.backB_long w2.1 w2.2, VarMath.backB_long w4.1 w4.2]
 have hf : flagN b = (2 * b.marker + (if b.txn = true then 1 else 0)).toNat := by
  unfold flagN
  split <;> omega
 rw [Prod.mk.injEq]
 refine ⟨Bat.ext_of rfl rfl ?_ rfl ?_ ?_ rfl, by simp⟩
 · show epD (epochN b / 256 * 256 + epochN b % 256) = b.epoch
   unfold epD epochN
   split <;> omega
 · show decide (flagN b % 2 = 1) = b.txn
   rw [hf]
   cases b.txn
   · rw [if_neg (by decide)]; exact decide_eq_false (by omega)
   rw [if_pos rfl]; exact decide_eq_true (by omega)
 show ((flagN b / 2 : Nat) : Int) = b.marker
 rw [hf]
 split <;> omega
structure Good (p : List Nat) (b : Bat) : Prop where
 right : rightE b = 0
 wf : b.wf
 pre : bytesB b <+: p
structure Out where
 b : Bat
 n : Nat
 e : Int
def lenD (p : List Nat) : Nat := unbe ((p.drop 8).take 4)
def fellD (p : List Nat) : Int := if p.length < 12 then 12 else if 4096 < lenD p + 12 then 13 else 12
structure Reads (p : List Nat) (o : Out) : Prop where
 fine : o.e = 0 → Good p o.b ∧ o.n = (bytesB o.b).length
 fell : o.e ≠ 0 → o.b = Bat.zero ∧ o.n = 0 ∧ o.e = fellD p
 all : ∀ b, Good p b → o.e = 0 ∧ o.b = b
theorem fell_pos (p : List Nat) : fellD p ≠ 0 := by unfold fellD; split <;> (try split) <;> decide
theorem out_ext {a b : Out} (h0 : a.b = b.b) (h1 : a.n = b.n) (h2 : a.e = b.e) : a = b := by cases a; cases b; simp only at h0 h1 h2; rw [h0, h1, h2]
theorem reads_one {p : List Nat} {o o' : Out} (h : Reads p o) (h' : Reads p o') : o = o' := by
 by_cases h0 : o.e = 0
 · obtain ⟨g, hn⟩ := h.fine h0
   obtain ⟨h1, h2⟩ := h'.all _ g
   obtain ⟨_, hn'⟩ := h'.fine h1
   exact out_ext h2.symm (by rw [hn, hn', h2]) (by rw [h0, h1])
 by_cases h1 : o'.e = 0
 · obtain ⟨g, _⟩ := h'.fine h1
   exact absurd (h.all _ g).1 h0
 obtain ⟨a1, a2, a3⟩ := h.fell h0
 obtain ⟨b1, b2, b3⟩ := h'.fell h1
 exact out_ext (by rw [a1, b1]) (by rw [a2, b2]) (by rw [a3, b3])
theorem good_parts {p : List Nat} {b : Bat} (h : Good p b) :
 (bytesB b).length = lenD p + 12 ∧ 12 ≤ p.length ∧ lenD p + 12 ≤ 4096 ∧ lenD p + 12 ≤ p.length ∧ (p.drop 12).take (lenD p) = sealB (bodyB b) ∧ p.take (12 + lenD p) = bytesB b ∧ (backB p) = (b.base, true) := by
 obtain ⟨r, rfl⟩ := h.pre
 have ho := ok_of h.right
 have hl := ok_len ho
 have hb := bytes_len b
 have hs := CrcMath.length_sealB (bodyB b)
 have hbl := body_len b
 have e8 : (bytesB b ++ r).drop 8 = beB 4 (sealB (bodyB b)).length ++ (sealB (bodyB b) ++ r) := by
  unfold bytesB
  rw [List.append_assoc, List.drop_append, VarMath.length_longB, List.drop_of_length_le (by rw [VarMath.length_longB]; exact Nat.le_refl _)]
  simp
 have e12 : (bytesB b ++ r).drop 12 = sealB (bodyB b) ++ r := by
  rw [show (12 : Nat) = 8 + 4 from rfl, ← List.drop_drop, e8, List.drop_append, VarMath.length_beB, List.drop_of_length_le (by rw [VarMath.length_beB]; exact Nat.le_refl _)]
  simp
 have hn : lenD (bytesB b ++ r) = (sealB (bodyB b)).length := by
  unfold lenD
  rw [e8, List.take_append_of_le_length (by rw [VarMath.length_beB]; exact Nat.le_refl _), List.take_of_length_le (by rw [VarMath.length_beB]; exact Nat.le_refl _)]
  unfold unbe
  rw [VarMath.unbe_fold]
  omega
 have hlen : (bytesB b).length = lenD (bytesB b ++ r) + 12 := by omega
 refine ⟨hlen, by rw [List.length_append]; omega, by omega, by rw [List.length_append]; omega, ?_, ?_, ?_⟩
 · rw [e12, hn, List.take_append_of_le_length (Nat.le_refl _), List.take_length]
 · rw [Nat.add_comm, ← hlen, List.take_append_of_le_length (Nat.le_refl _), List.take_length]
 unfold bytesB
 rw [List.append_assoc]
 exact VarMath.backB_long h.wf.base.1 h.wf.base.2 _
theorem good_open {p : List Nat} {b : Bat} (h : Good p b) : okB ((p.drop 12).take (lenD p)) = true ∧ ((p.drop 12).take (lenD p)).drop 4 = bodyB b ∧ innerD (bodyB b) = (b.at 0, true) := by
 obtain ⟨_, _, _, _, h5, _, _⟩ := good_parts h
 have ho := ok_of h.right
 rw [h5]
 exact ⟨CrcMath.okB_seal (body_all ho), CrcMath.drop_sealB _, inner_body ho h.wf⟩
theorem good_one {p : List Nat} {a b : Bat} (ha : Good p a) (hb : Good p b) : a = b := by
 obtain ⟨_, h2, h3⟩ := good_open ha
 obtain ⟨_, h5, h6⟩ := good_open hb
 obtain ⟨_, _, _, _, _, _, h7⟩ := good_parts ha
 obtain ⟨_, _, _, _, _, _, h8⟩ := good_parts hb
 rw [← h2, h5, h6] at h3
 have e : a.at 0 = b.at 0 := (Prod.mk.inj h3).1.symm
 rw [h7] at h8
 have e2 : a.base = b.base := (Prod.mk.inj h8).1
 have f : ∀ x : Bat, (x.at 0).at x.base = x := fun x => rfl
 rw [← f a, ← f b, e, e2]
theorem right_at {b : Bat} (h : rightE b = 0) {n : Int} (h0 : 0 ≤ n) (h1 : n ≤ 1099511627776) : rightE (b.at n) = 0 := by
 have hb := ok_of h
 have e : ∀ {c : Bat}, ¬ (c.base < 0 ∨ 1099511627776 < c.base) → rightE c = rightE { c with base := 0 } := by
  intro c hc
  unfold rightE
  rw [if_neg hc]
  exact (if_neg (by show ¬ ((0 : Int) < 0 ∨ (1099511627776 : Int) < 0); decide)).symm
 have := hb.base0
 have := hb.base1
 rw [e (by show ¬ (n < 0 ∨ 1099511627776 < n); omega)]
 rw [e (by omega)] at h
 exact h
noncomputable def sizeB (b : Bat) : Int := if rightE b = 0 then ((bytesB b).length : Int) else 0
noncomputable def readD (p : List Nat) : Out :=
 if p.length < 12 then ⟨Bat.zero, 0, 12⟩
 else if 4096 < lenD p + 12 then ⟨Bat.zero, 0, 13⟩
 else if p.length < lenD p + 12 then ⟨Bat.zero, 0, 12⟩
 else if okB ((p.drop 12).take (lenD p)) = false then ⟨Bat.zero, 0, 12⟩
 else open Classical in
  if (innerD (((p.drop 12).take (lenD p)).drop 4)).2 = true ∧ rightE ((innerD (((p.drop 12).take (lenD p)).drop 4)).1.at (backB p).1) = 0 ∧ bytesB ((innerD (((p.drop 12).take (lenD p)).drop 4)).1.at (backB p).1) = p.take (12 + lenD p)
  then ⟨(innerD (((p.drop 12).take (lenD p)).drop 4)).1.at (backB p).1, lenD p + 12, 0⟩ else ⟨Bat.zero, 0, 12⟩
theorem sg64_in {u : Nat} (h : u < 18446744073709551616) : In64 (sg64 u) := by unfold sg64 In64; split <;> omega
theorem back_in {p : List Nat} (h : AllB p) : In64 (backB p).1 := by
 unfold backB
 split
 · exact ⟨by decide, by decide⟩
 have := VarMath.unbe_lt (bs := p.take 8) fun x hx => h x (List.mem_of_mem_take hx)
 rename_i h8
 rw [List.length_take, Nat.min_eq_left (by omega), VarMath.pow8] at this
 exact sg64_in this
theorem getD_lt {p : List Nat} (h : AllB p) (k : Nat) : p.getD k 0 < 256 := by
 rw [List.getD_eq_getElem?_getD]
 rcases hk : p[k]? with _ | x
 · decide
 exact h x (List.mem_of_getElem? hk)
theorem drop_all {p : List Nat} (h : AllB p) (k : Nat) : AllB (p.drop k) := fun x hx => h x (List.mem_of_mem_drop hx)
theorem take_all {p : List Nat} (h : AllB p) (k : Nat) : AllB (p.take k) := fun x hx => h x (List.mem_of_mem_take hx)
theorem inner_wf {x : List Nat} (h : AllB x) : (innerD x).1.wf := by
 unfold innerD
 split
 · exact zero_wf
 unfold innerOf
 split
 · exact zero_wf
 have h9 := getD_lt h 9
 have h10 := getD_lt h 10
 have h0 := getD_lt h 0
 refine ⟨by show In64 0; decide, back_in (drop_all h 1), ?_, back_in (drop_all h 11), ?_⟩
 · show In64 (epD (x.getD 9 0 * 256 + x.getD 10 0))
   unfold epD In64
   split <;> omega
 show In64 ((x.getD 0 0 / 2 : Nat) : Int)
 unfold In64
 omega
theorem at_wf {b : Bat} (h : b.wf) {n : Int} (hn : In64 n) : (b.at n).wf := ⟨hn, h.prod, h.epoch, h.seq, h.marker⟩
theorem reads_readD {p : List Nat} (hp : AllB p) : Reads p (readD p) := by
 have bad : ∀ (o : Out), o = ⟨Bat.zero, 0, fellD p⟩ → (∀ b, ¬ Good p b) → Reads p o := by
  rintro o rfl h
  exact ⟨fun h0 => absurd h0 (fell_pos p), fun _ => ⟨rfl, rfl, rfl⟩, fun b hb => absurd hb (h b)⟩
 unfold readD
 by_cases h1 : p.length < 12
 · rw [if_pos h1]
   refine bad _ (by unfold fellD; rw [if_pos h1]) fun b hb => ?_
   have := (good_parts hb).2.1
   omega
 rw [if_neg h1]
 by_cases h2 : 4096 < lenD p + 12
 · rw [if_pos h2]
   refine bad _ (by unfold fellD; rw [if_neg h1, if_pos h2]) fun b hb => ?_
   have := (good_parts hb).2.2.1
   omega
 rw [if_neg h2]
 have hf : fellD p = 12 := by unfold fellD; rw [if_neg h1, if_neg h2]
 by_cases h3 : p.length < lenD p + 12
 · rw [if_pos h3]
   refine bad _ (by rw [hf]) fun b hb => ?_
   have := (good_parts hb).2.2.2.1
   omega
 rw [if_neg h3]
 by_cases h4 : okB ((p.drop 12).take (lenD p)) = false
 · rw [if_pos h4]
   refine bad _ (by rw [hf]) fun b hb => ?_
   have := (good_open hb).1
   rw [this] at h4
   cases h4
 rw [if_neg h4]
 split
 · rename_i h5
   obtain ⟨h6, h7, h8⟩ := h5
   have hall : AllB (((p.drop 12).take (lenD p)).drop 4) := drop_all (take_all (drop_all hp 12) _) 4
   have hg : Good p ((innerD (((p.drop 12).take (lenD p)).drop 4)).1.at (backB p).1) := ⟨h7, at_wf (inner_wf hall) (back_in hp), by rw [h8]; exact List.take_prefix _ _⟩
   refine ⟨fun _ => ⟨hg, (good_parts hg).1.symm⟩, fun h => absurd rfl h, fun b hb => ⟨rfl, good_one hg hb⟩⟩
 rename_i h5
 refine bad _ (by rw [hf]) fun b hb => h5 ?_
 obtain ⟨_, g2, g3⟩ := good_open hb
 obtain ⟨_, _, _, _, _, g6, g7⟩ := good_parts hb
 rw [g2, g3, g7]
 exact ⟨rfl, hb.right, g6.symm⟩
theorem readD_of {p : List Nat} (hp : AllB p) {o : Out} (h : Reads p o) : o = readD p := reads_one h (reads_readD hp)
theorem right_few (b : Bat) : rightE b = 0 ∨ rightE b = 12 ∨ rightE b = 13 ∨ rightE b = 18 := by
 unfold rightE
 repeat' split
 all_goals simp
theorem recsD_short : ∀ (n : Nat) (x : List Nat) (i : Nat) (l : List Rc) (e : Nat), recsD n x i = some (l, e) → l.length = n ∧ ∀ r ∈ l, r.key.size ≤ x.length ∧ r.val.size ≤ x.length
 | 0, x, i, l, e, h => by
   cases h
   exact ⟨rfl, fun r hr => by cases hr⟩
 | n + 1, x, i, l, e, h => by
   have sz : ∀ j, (sb (cutB (x.drop j) (x.length : Int)).1).size ≤ x.length := by
    intro j
    have h1 : (sb (cutB (x.drop j) (x.length : Int)).1).size = (cutB (x.drop j) (x.length : Int)).1.length := by simp [sb, ByteArray.size]
    rw [h1]
    by_cases hc : (VarMath.getB (x.drop j)).2 = 0 ∨ (VarMath.getB (x.drop j)).1 < 0 ∨ (x.length : Int) < (VarMath.getB (x.drop j)).1 ∨ ((x.drop j).length : Int) - ((VarMath.getB (x.drop j)).2 : Int) < (VarMath.getB (x.drop j)).1
    · rw [VarMath.cutB_no hc]; simp
    rw [VarMath.cutB_yes hc]
    simp only [List.length_take]
    omega
   rcases h1 : cutB (x.drop i) (x.length : Int) with ⟨a, k⟩
   rcases h2 : cutB (x.drop (i + k)) (x.length : Int) with ⟨c, m⟩
   have s1 := sz i
   have s2 := sz (i + k)
   rw [h1] at s1
   rw [h2] at s2
   by_cases hz : k = 0 ∨ m = 0
   · rw [recsD_fell h1 h2 hz] at h
     cases h
   rw [recsD_step h1 h2 (by omega) (by omega)] at h
   obtain ⟨q, hq, he⟩ := Option.map_eq_some_iff.1 h
   obtain ⟨l', e'⟩ := q
   obtain ⟨i1, i2⟩ := recsD_short n x _ l' e' hq
   simp only [Prod.mk.injEq] at he
   obtain ⟨rfl, rfl⟩ := he
   refine ⟨by rw [List.length_cons, i1], fun r hr => ?_⟩
   rcases List.mem_cons.1 hr with rfl | hr
   · exact ⟨s1, s2⟩
   exact i2 r hr
theorem inner_short {x : List Nat} {b : Bat} {ok : Bool} (hx : ∀ c ∈ x, c < 256) (h : innerD x = (b, ok)) : b.recs.length ≤ 255 ∧ ∀ r ∈ b.recs, r.key.size ≤ x.length ∧ r.val.size ≤ x.length := by
 have hn := getD_lt hx 19
 unfold innerD at h
 split at h
 · cases h
   exact ⟨by simp [Bat.zero], fun r hr => by cases hr⟩
 unfold innerOf at h
 split at h
 · cases h
   exact ⟨by simp [Bat.zero], fun r hr => by cases hr⟩
 rename_i q hq
 cases h
 obtain ⟨h1, h2⟩ := recsD_short _ _ _ _ _ hq
 refine ⟨?_, h2⟩
 show q.1.length ≤ 255
 omega
end Go.BatMath
namespace Go.Proofs.YtjmfdildnojknaaGreat
open Go.RowKit
open Go.SeqMath
open Go.BatMath
structure RecsAt (w : World) (ad : Option Addr) (len cap : Nat) (l : List Rc) : Prop where
 length : l.length = len
 fits : len ≤ cap
 room : ad = none → cap = 0
 cells : len = 0 ∨ ∃ b off, ad = some ⟨b, off, none⟩ ∧ b < w.heap.size ∧ ∀ i r, l[i]? = some r → w.cell? ⟨b, off + i * 2, none⟩ = some (.string r.key) ∧ w.cell? ⟨b, off + i * 2 + 1, none⟩ = some (.string r.val)
theorem RecsAt.keep {w w' : World} {ad : Option Addr} {len cap : Nat} {l : List Rc} (h : RecsAt w ad len cap l) (hb : Below w.heap.size w w') : RecsAt w' ad len cap l := by
 refine ⟨h.length, h.fits, h.room, ?_⟩
 rcases h.cells with h0 | ⟨b, off, e, hlt, hc⟩
 · exact .inl h0
 refine .inr ⟨b, off, e, Nat.lt_of_lt_of_le hlt hb.size, fun i r hi => ?_⟩
 obtain ⟨h1, h2⟩ := hc i r hi
 exact ⟨(hb.cell (p := ⟨b, _, none⟩) hlt).trans h1, (hb.cell (p := ⟨b, _, none⟩) hlt).trans h2⟩
theorem recsAt_nil (w : World) : RecsAt w none 0 0 [] := ⟨rfl, Nat.le_refl _, fun _ => rfl, .inl rfl⟩
theorem refSeq_any (n : Int) (w : World) (r : Bool) (hr : rightB n = r) :
 Calls Tryz.prog 112 #[.int .i64 n] w fun e w' => e = .returned (.bool r) ∧ w = w' := by
 subst hr
 by_cases h0 : 0 ≤ n
 rotate_left
 · have h0' : n < 0 := by omega
   rw [right_no (.inl h0')]
   go_enter Tryz.func112, Tryz.ntmps112
   go_wp2
   go_ret
   exact ⟨rfl, rfl⟩
 by_cases h1 : n ≤ 2147483647
 · rw [right_yes h0 h1]
   go_enter Tryz.func112, Tryz.ntmps112
   go_wp2
   go_ret
   exact ⟨rfl, rfl⟩
 have h1' : 2147483647 < n := by omega
 rw [right_no (.inr h1')]
 go_enter Tryz.func112, Tryz.ntmps112
 go_wp2
 go_ret
 exact ⟨rfl, rfl⟩
theorem refHead_any (w : World) (b0 b1 b2 b3 : Int) (b4 : Bool) (b5 : Int) (ad : Option Addr) (len cap : Nat) (r : Bool) (hr : (decide (0 ≤ b1) && (decide (0 ≤ b2) && decide (b2 ≤ 32767))) = r) :
 Calls Tryz.prog 111 #[.agg #[.int .i64 b0, .int .i64 b1, .int .i64 b2, .int .i64 b3, .bool b4, .int .i64 b5, .slice ad len cap]] w fun e w' => e = .returned (.bool r) ∧ Below w.heap.size w w' := by
 by_cases h0 : 0 ≤ b1
 rotate_left
 · obtain rfl : r = false := by rw [← hr]; simp [h0]
   have h0' : b1 < 0 := by omega
   clear hr
   go_enter Tryz.func111, Tryz.ntmps111
   go_wp2
   go_ret
   exact ⟨rfl, (bal _ _)⟩
 by_cases h1 : 0 ≤ b2
 · by_cases h2 : b2 ≤ 32767
   · obtain rfl : r = true := by rw [← hr]; simp [h0, h1, h2]
     clear hr
     go_enter Tryz.func111, Tryz.ntmps111
     go_wp2
     go_ret
     exact ⟨rfl, (bal _ _)⟩
   obtain rfl : r = false := by rw [← hr]; simp [h2]
   have h2' : 32767 < b2 := by omega
   clear hr
   go_enter Tryz.func111, Tryz.ntmps111
   go_wp2
   go_ret
   exact ⟨rfl, (bal _ _)⟩
 obtain rfl : r = false := by rw [← hr]; simp [h1]
 have h1' : b2 < 0 := by omega
 clear hr
 go_enter Tryz.func111, Tryz.ntmps111
 go_wp2
 go_ret
 exact ⟨rfl, (bal _ _)⟩
def BoxAt (w : World) (k : Nat) (b0 b1 b2 b3 : Int) (b4 : Bool) (b5 : Int) (v : Value) : Prop := w.heap[k]? = some (.cells #[.int .i64 b0, .int .i64 b1, .int .i64 b2, .int .i64 b3, .bool b4, .int .i64 b5, v] 29 (0, 0))
section
variable {w : World} {k : Nat} {b0 b1 b2 b3 : Int} {b4 : Bool} {b5 : Int} {v : Value}
theorem BoxAt.c0 (h : BoxAt w k b0 b1 b2 b3 b4 b5 v) : w.cell? ⟨k, 0, none⟩ = some (.int .i64 b0) := by rw [cell_of_row _ _ 0 _ _ _ h]; rfl
theorem BoxAt.c1 (h : BoxAt w k b0 b1 b2 b3 b4 b5 v) : w.cell? ⟨k, 1, none⟩ = some (.int .i64 b1) := by rw [cell_of_row _ _ 1 _ _ _ h]; rfl
theorem BoxAt.c2 (h : BoxAt w k b0 b1 b2 b3 b4 b5 v) : w.cell? ⟨k, 2, none⟩ = some (.int .i64 b2) := by rw [cell_of_row _ _ 2 _ _ _ h]; rfl
theorem BoxAt.c3 (h : BoxAt w k b0 b1 b2 b3 b4 b5 v) : w.cell? ⟨k, 3, none⟩ = some (.int .i64 b3) := by rw [cell_of_row _ _ 3 _ _ _ h]; rfl
theorem BoxAt.c4 (h : BoxAt w k b0 b1 b2 b3 b4 b5 v) : w.cell? ⟨k, 4, none⟩ = some (.bool b4) := by rw [cell_of_row _ _ 4 _ _ _ h]; rfl
theorem BoxAt.c5 (h : BoxAt w k b0 b1 b2 b3 b4 b5 v) : w.cell? ⟨k, 5, none⟩ = some (.int .i64 b5) := by rw [cell_of_row _ _ 5 _ _ _ h]; rfl
theorem BoxAt.c6 (h : BoxAt w k b0 b1 b2 b3 b4 b5 v) : w.cell? ⟨k, 6, none⟩ = some v := by rw [cell_of_row _ _ 6 _ _ _ h]; rfl
theorem BoxAt.free (h : BoxAt w k b0 b1 b2 b3 b4 b5 v) (j : Nat) : w.frozen? ⟨k, j, none⟩ = false := frozen_of_row w k j _ _ h
theorem BoxAt.lt (h : BoxAt w k b0 b1 b2 b3 b4 b5 v) : k < w.heap.size := lt_of_block h
theorem BoxAt.keep {w' : World} {B : Nat} (h : BoxAt w k b0 b1 b2 b3 b4 b5 v) (hb : Below B w w') (hk : k < B) : BoxAt w' k b0 b1 b2 b3 b4 b5 v := by
 unfold BoxAt at *
 rw [hb.block k hk]
 exact h
theorem BoxAt.on {w' : World} (h : BoxAt w k b0 b1 b2 b3 b4 b5 v) (hb : Below w.heap.size w w') : BoxAt w' k b0 b1 b2 b3 b4 b5 v := h.keep hb h.lt
theorem boxAt_new (w : World) (b0 b1 b2 b3 : Int) (b4 : Bool) (b5 : Int) (v : Value) : BoxAt (w.alloc (.cells #[.int .i64 b0, .int .i64 b1, .int .i64 b2, .int .i64 b3, .bool b4, .int .i64 b5, v] 29)) w.heap.size b0 b1 b2 b3 b4 b5 v := heap_alloc_new w _
end
theorem bcell {W w1 : World} (hb : Below W.heap.size W w1) : (∀ b o, b < W.heap.size → w1.cell? ⟨b, o, none⟩ = W.cell? ⟨b, o, none⟩) ∧ (∀ b o, b < W.heap.size → w1.frozen? ⟨b, o, none⟩ = W.frozen? ⟨b, o, none⟩) :=
 ⟨fun b o h => hb.cell (p := ⟨b, o, none⟩) h, fun b o h => hb.frozen (p := ⟨b, o, none⟩) h⟩
/- rightE, shape by shape -/
theorem e_low {b : Bat} (h : b.base < 0) : rightE b = 18 := by unfold rightE; rw [if_pos (.inl h)]
theorem e_high {b : Bat} (h : 1099511627776 < b.base) : rightE b = 18 := by unfold rightE; rw [if_pos (.inr h)]
theorem e_mark {b : Bat} (h0 : 0 ≤ b.base) (h1 : b.base ≤ 1099511627776) (hm : b.marker ≠ 0) : rightE b = if (b.marker = 1 ∨ b.marker = 2) ∧ headB b = true ∧ b.seq = -1 ∧ b.txn = true ∧ b.recs = [] then 0 else 12 := by
 unfold rightE; rw [if_neg (by omega), if_pos hm]
theorem e_data {b : Bat} (h0 : 0 ≤ b.base) (h1 : b.base ≤ 1099511627776) (hm : b.marker = 0) (h : ¬ ((noneB b = true ∨ headB b = true ∧ rightB b.seq = true) ∧ b.recs ≠ [])) : rightE b = 12 := by
 unfold rightE; rw [if_neg (by omega), if_neg (by omega), if_neg h]
theorem e_long {b : Bat} (h0 : 0 ≤ b.base) (h1 : b.base ≤ 1099511627776) (hm : b.marker = 0) (h : (noneB b = true ∨ headB b = true ∧ rightB b.seq = true) ∧ b.recs ≠ []) (hl : 16 < b.recs.length ∨ ∃ r ∈ b.recs, longRec r) : rightE b = 13 := by
 unfold rightE; rw [if_neg (by omega), if_neg (by omega), if_pos h, if_pos hl]
theorem e_fine {b : Bat} (h0 : 0 ≤ b.base) (h1 : b.base ≤ 1099511627776) (hm : b.marker = 0) (h : (noneB b = true ∨ headB b = true ∧ rightB b.seq = true) ∧ b.recs ≠ []) (hl : ¬ (16 < b.recs.length ∨ ∃ r ∈ b.recs, longRec r)) : rightE b = 0 := by
 unfold rightE; rw [if_neg (by omega), if_neg (by omega), if_pos h, if_neg hl]
def Says (n : Int) (w : World) (e : Ending) (w' : World) : Prop := e = .returned (.int .i64 n) ∧ Below w.heap.size w w'
theorem says_mk {n m : Int} {w w' : World} (h : m = n) (hb : Below w.heap.size w w') : Says n w (.returned (.int .i64 m)) w' := ⟨by rw [h], hb⟩
theorem plain_mark (w : World) (b : Bat) (ad : Option Addr) (cap : Nat) (hr : RecsAt w ad b.recs.length cap b.recs) (h0 : 0 ≤ b.base) (h1 : b.base ≤ 1099511627776) (hm : b.marker ≠ 0) :
 Calls Tryz.prog 79 #[.agg #[.int .i64 b.base, .int .i64 b.prod, .int .i64 b.epoch, .int .i64 b.seq, .bool b.txn, .int .i64 b.marker, .slice ad b.recs.length cap]] w (Says (rightE b) w) := by
 have he := e_mark h0 h1 hm
 have he0 : (b.marker = 1 ∨ b.marker = 2) ∧ headB b = true ∧ b.seq = -1 ∧ b.txn = true ∧ b.recs.length = 0 → rightE b = 0 := by
  rintro ⟨q1, q2, q3, q4, q5⟩
  rw [he, if_pos ⟨q1, q2, q3, q4, List.eq_nil_of_length_eq_zero q5⟩]
 have he1 : ¬ ((b.marker = 1 ∨ b.marker = 2) ∧ headB b = true ∧ b.seq = -1 ∧ b.txn = true ∧ b.recs.length = 0) → rightE b = 12 := by
  intro q
  rw [he, if_neg]
  rintro ⟨q1, q2, q3, q4, q5⟩
  exact q ⟨q1, q2, q3, q4, by rw [q5]; rfl⟩
 obtain ⟨ev, hev⟩ := exq (rightE b)
 rw [← hev] at he0 he1 ⊢
 have hh : headB b = (decide (0 ≤ b.prod) && (decide (0 ≤ b.epoch) && decide (b.epoch ≤ 32767))) := rfl
 obtain ⟨hd, hdd⟩ := exq (headB b)
 rw [← hdd] at he0 he1 hh
 clear he hev hdd
 obtain ⟨base, prod, epoch, seq, txn, marker, recs⟩ := b
 simp only at h0 h1 hm he0 he1 hh hr ⊢
 obtain ⟨len, hlen⟩ := exq recs.length
 rw [← hlen] at he0 he1 hr ⊢
 have HH := qh hh.symm
 have HE0 := qh he0
 have HE1 := qh he1
 have HR := qh hr
 have hm0 : (marker == 0) = false := by simpa using hm
 have hm0' : (marker != 0) = true := by simpa using hm
 clear hh he0 he1 hr hlen
 by_cases hm12 : marker = 1 ∨ marker = 2
 rotate_left
 · have hm1 : (marker != 1) = true := by simp; omega
   have hm2 : (marker != 2) = true := by simp; omega
   go_enter Tryz.func79, Tryz.ntmps79
   go_wp2
   go_ret
   exact says_mk ((HE1.out fun h => hm12 h.1).symm) (bal _ _)
 cases hd
 · rcases hm12 with rfl | rfl
   all_goals
    go_enter Tryz.func79, Tryz.ntmps79
    go_wp2_with (go_at_call 111; refine (refHead_any _ _ _ _ _ _ _ _ _ _ false HH.out).mono ?_; rintro e w1 ⟨rfl, hb⟩; obtain ⟨hc, hf⟩ := bcell hb; have HB := qh hb; clear hb)
    go_ret
    exact says_mk ((HE1.out (by simp)).symm) ((bal _ _).trans (HB.out.mono (by simp)))
 by_cases hs : seq = -1
 · subst hs
   cases txn
   · rcases hm12 with rfl | rfl
     all_goals
      go_enter Tryz.func79, Tryz.ntmps79
      go_wp2_with (go_at_call 111; refine (refHead_any _ _ _ _ _ _ _ _ _ _ true HH.out).mono ?_; rintro e w1 ⟨rfl, hb⟩; obtain ⟨hc, hf⟩ := bcell hb; have HB := qh hb; clear hb)
      go_ret
      exact says_mk ((HE1.out (by simp)).symm) ((bal _ _).trans (HB.out.mono (by simp)))
   by_cases hl : len = 0
   · subst hl
     rcases hm12 with rfl | rfl
     all_goals
      go_enter Tryz.func79, Tryz.ntmps79
      go_wp2_with (go_at_call 111; refine (refHead_any _ _ _ _ _ _ _ _ _ _ true HH.out).mono ?_; rintro e w1 ⟨rfl, hb⟩; obtain ⟨hc, hf⟩ := bcell hb; have HB := qh hb; clear hb)
      go_ret
      exact says_mk ((HE0.out (by simp)).symm) ((bal _ _).trans (HB.out.mono (by simp)))
   have hl' : 0 < len := by omega
   rcases hm12 with rfl | rfl
   all_goals
    go_enter Tryz.func79, Tryz.ntmps79
    go_wp2_with (go_at_call 111; refine (refHead_any _ _ _ _ _ _ _ _ _ _ true HH.out).mono ?_; rintro e w1 ⟨rfl, hb⟩; obtain ⟨hc, hf⟩ := bcell hb; have HB := qh hb; clear hb)
    go_ret
    exact says_mk ((HE1.out (by simp; omega)).symm) ((bal _ _).trans (HB.out.mono (by simp)))
 have hs1 : (seq == -1) = false := by simpa using hs
 have hs2 : (seq != -1) = true := by simpa using hs
 rcases hm12 with rfl | rfl
 all_goals
  go_enter Tryz.func79, Tryz.ntmps79
  go_wp2_with (go_at_call 111; refine (refHead_any _ _ _ _ _ _ _ _ _ _ true HH.out).mono ?_; rintro e w1 ⟨rfl, hb⟩; obtain ⟨hc, hf⟩ := bcell hb; have HB := qh hb; clear hb)
  go_ret
  exact says_mk ((HE1.out (by simp [hs])).symm) ((bal _ _).trans (HB.out.mono (by simp)))
def TextsOk (l : List Rc) : Prop := ∀ r ∈ l, r.key.size ≤ 140737488355328 ∧ r.val.size ≤ 140737488355328
def PlainAt (w : World) (l : List Rc) (v : Value) (wr : World) : Prop := ∃ j : Nat, j ≤ l.length ∧ v = .int .i64 j ∧ (∀ i r, i < j → l[i]? = some r → ¬ longRec r) ∧ Below w.heap.size w wr
theorem plainAt_start (w W : World) (l : List Rc) (h : Below w.heap.size w W) : PlainAt w l (.int .i64 0) W := ⟨0, Nat.zero_le _, rfl, fun i r hi => by omega, h⟩
theorem not_long {l : List Rc} (h : ∀ i r, i < l.length → l[i]? = some r → ¬ longRec r) : ¬ ∃ r ∈ l, longRec r := by
 rintro ⟨r, hr, hl⟩
 obtain ⟨i, hi, rfl⟩ := List.getElem_of_mem hr
 exact h i _ hi (List.getElem?_eq_getElem hi) hl
theorem none_no {b : Bat} (h : noneB b = false) : b.prod ≠ -1 ∨ b.epoch ≠ -1 ∨ b.seq ≠ -1 ∨ b.txn = true := by
 by_cases h1 : b.prod = -1
 rotate_left
 · exact .inl h1
 by_cases h2 : b.epoch = -1
 · by_cases h3 : b.seq = -1
   · cases h4 : b.txn
     · simp [noneB, h1, h2, h3, h4] at h
     exact .inr (.inr (.inr rfl))
   exact .inr (.inr (.inl h3))
 exact .inr (.inl h2)
theorem plain_data (w : World) (b : Bat) (ad : Option Addr) (cap : Nat) (hr : RecsAt w ad b.recs.length cap b.recs) (ht : TextsOk b.recs) (h0 : 0 ≤ b.base) (h1 : b.base ≤ 1099511627776) (hm : b.marker = 0) (hL : b.recs.length ≤ 140737488355328) :
 Calls Tryz.prog 79 #[.agg #[.int .i64 b.base, .int .i64 b.prod, .int .i64 b.epoch, .int .i64 b.seq, .bool b.txn, .int .i64 b.marker, .slice ad b.recs.length cap]] w (Says (rightE b) w) := by
 have hne : (b.recs ≠ []) = (0 < b.recs.length) := propext List.length_pos_iff.symm
 have e12 := e_data h0 h1 hm
 have e13 := e_long h0 h1 hm
 have e0 := e_fine h0 h1 hm
 rw [hne] at e12 e13 e0
 obtain ⟨ev, hev⟩ := exq (rightE b)
 rw [← hev] at e12 e13 e0 ⊢
 have hh : (decide (0 ≤ b.prod) && (decide (0 ≤ b.epoch) && decide (b.epoch ≤ 32767))) = headB b := rfl
 have hnn : noneB b = true → b.prod = -1 ∧ b.epoch = -1 ∧ b.seq = -1 ∧ b.txn = false := none_of
 have hnf : noneB b = false → b.prod ≠ -1 ∨ b.epoch ≠ -1 ∨ b.seq ≠ -1 ∨ b.txn = true := none_no
 obtain ⟨hd, hdd⟩ := exq (headB b)
 obtain ⟨nn, hnd⟩ := exq (noneB b)
 rw [← hdd] at e12 e13 e0 hh
 rw [← hnd] at e12 e13 e0 hnn hnf
 clear hev hdd hnd hne
 obtain ⟨base, prod, epoch, seq, txn, marker, recs⟩ := b
 simp only at h0 h1 hm e12 e13 e0 hh hr ht hL hnn hnf ⊢
 obtain ⟨rt, hrt⟩ : ∃ rt, rightB seq = rt := ⟨_, rfl⟩
 rw [hrt] at e12 e13 e0
 obtain ⟨len, hlen⟩ := exq recs.length
 rw [← hlen] at e12 e13 e0 hr hL ⊢
 have HH := qh hh
 have HRT := qh hrt
 have HN := qh hnn
 have HF := qh hnf
 have E12 := qh e12
 have E13 := qh e13
 have E0 := qh e0
 have HR := qh hr
 have HT := qh ht
 have HLEN := qh hlen
 clear hh hrt hnn hnf e12 e13 e0 hr ht hlen
 subst hm
 go_enter Tryz.func79, Tryz.ntmps79
 go_upto_region 7 with fail
 go_cut [3] from 6 (fun s3 wx => s3 = .bool nn ∧ Hid (BoxAt wx w.heap.size base prod epoch seq txn 0 (.slice ad len cap)) ∧ Hid (Below w.heap.size w wx))
 case first =>
  cases h1 : (prod == -1)
  · obtain rfl : nn = false := by
     cases nn
     · rfl
     have := (HN.out rfl).1; subst this; cases h1
    go_wp2
    go_meet
    case rel => exact ⟨rfl, boxAt_new w _ _ _ _ _ _ _, (bal _ _)⟩
  cases h2 : (epoch == -1)
  · obtain rfl : nn = false := by
     cases nn
     · rfl
     have := (HN.out rfl).2.1; subst this; cases h2
    go_wp2
    go_meet
    case rel => exact ⟨rfl, boxAt_new w _ _ _ _ _ _ _, (bal _ _)⟩
  cases h3 : (seq == -1)
  · obtain rfl : nn = false := by
     cases nn
     · rfl
     have := (HN.out rfl).2.2.1; subst this; cases h3
    go_wp2
    go_meet
    case rel => exact ⟨rfl, boxAt_new w _ _ _ _ _ _ _, (bal _ _)⟩
  cases txn
  · obtain rfl : nn = true := by
     cases nn
     · rcases HF.out rfl with h | h | h | h
       · exact absurd (by simpa using h1) h
       · exact absurd (by simpa using h2) h
       · exact absurd (by simpa using h3) h
       cases h
     rfl
    go_wp2
    go_meet
    case rel => exact ⟨rfl, boxAt_new w _ _ _ _ _ _ _, (bal _ _)⟩
  obtain rfl : nn = false := by
   cases nn
   · rfl
   have := (HN.out rfl).2.2.2; cases this
  go_wp2
  go_meet
  case rel => exact ⟨rfl, boxAt_new w _ _ _ _ _ _ _, (bal _ _)⟩
 case rest =>
  obtain ⟨rfl, HBX, HBW⟩ := hcut
  have hblt := HBX.out.lt
  have hc0 := HBX.out.c0
  have hc1 := HBX.out.c1
  have hc2 := HBX.out.c2
  have hc3 := HBX.out.c3
  have hc4 := HBX.out.c4
  have hc5 := HBX.out.c5
  have hc6 := HBX.out.c6
  go_upto_region 8 with fail
  go_cut [82] from 64 (fun s82 wx => s82 = .bool (!((nn || (hd && rt)) && decide (0 < len))) ∧ Hid (BoxAt wx w.heap.size base prod epoch seq txn 0 (.slice ad len cap)) ∧ Hid (Below w.heap.size w wx))
  case first =>
   cases nn
   rotate_left
   · by_cases hl : 0 < len
     · have hz : ((len : Int) == 0) = false := by simp; omega
       have hz2 : decide (0 < len) = true := by simp [hl]
       have HZ2 := qh hz2
       clear hz2
       go_wp2
       go_meet
       case rel => exact ⟨by rw [HZ2.out]; simp, HBX, HBW⟩
     obtain rfl : len = 0 := by omega
     clear hl
     go_wp2
     go_meet
     case rel => exact ⟨by simp, HBX, HBW⟩
   cases hd
   · go_wp2_with (go_at_call 111; refine (refHead_any _ _ _ _ _ _ _ _ _ _ false HH.out).mono ?_; rintro e w1 ⟨rfl, hb⟩; obtain ⟨hc, hf⟩ := bcell hb; have HB := qh hb; clear hb)
     go_meet
     case rel => exact ⟨by simp, HBX.out.on HB.out, HBW.out.trans (HB.out.mono HBW.out.size)⟩
   cases rt
   · go_wp2_with (first | (go_at_call 111; refine (refHead_any _ _ _ _ _ _ _ _ _ _ true HH.out).mono ?_; rintro e w1 ⟨rfl, hb⟩; obtain ⟨hc, hf⟩ := bcell hb; have HB := qh hb; clear hb) | (go_at_call 112; refine (refSeq_any _ _ false HRT.out).mono ?_; rintro e w' ⟨rfl, rfl⟩))
     go_meet
     case rel => exact ⟨by simp, HBX.out.on HB.out, HBW.out.trans (HB.out.mono HBW.out.size)⟩
   by_cases hl : 0 < len
   · have hz : ((len : Int) == 0) = false := by simp; omega
     have hz2 : decide (0 < len) = true := by simp [hl]
     have HZ2 := qh hz2
     clear hz2
     go_wp2_with (first | (go_at_call 111; refine (refHead_any _ _ _ _ _ _ _ _ _ _ true HH.out).mono ?_; rintro e w1 ⟨rfl, hb⟩; obtain ⟨hc, hf⟩ := bcell hb; have HB := qh hb; clear hb) | (go_at_call 112; refine (refSeq_any _ _ true HRT.out).mono ?_; rintro e w' ⟨rfl, rfl⟩))
     go_meet
     case rel => exact ⟨by rw [HZ2.out]; simp, HBX.out.on HB.out, HBW.out.trans (HB.out.mono HBW.out.size)⟩
   obtain rfl : len = 0 := by omega
   clear hl
   go_wp2_with (first | (go_at_call 111; refine (refHead_any _ _ _ _ _ _ _ _ _ _ true HH.out).mono ?_; rintro e w1 ⟨rfl, hb⟩; obtain ⟨hc, hf⟩ := bcell hb; have HB := qh hb; clear hb) | (go_at_call 112; refine (refSeq_any _ _ true HRT.out).mono ?_; rintro e w' ⟨rfl, rfl⟩))
   go_meet
   case rel => exact ⟨by simp, HBX.out.on HB.out, HBW.out.trans (HB.out.mono HBW.out.size)⟩
  case rest =>
   clear hc0 hc1 hc2 hc3 hc4 hc5 hc6
   obtain ⟨rfl, HBX2, HBW2⟩ := hcut
   obtain ⟨cnd, hcn⟩ : ∃ cnd, cnd = ((nn || (hd && rt)) && decide (0 < len)) := ⟨_, rfl⟩
   rw [← hcn]
   cases cnd
   · have HC := qh hcn.symm
     clear hcn
     go_wp2
     go_ret
     refine says_mk (E12.out ?_).symm HBW2.out
     rintro ⟨q1, q2⟩
     have hx := HC.out
     rcases q1 with q1 | ⟨q1, q3⟩
     · rw [q1] at hx; simp at hx; omega
     rw [q1, q3] at hx; simp at hx; omega
   have hcn2 : (nn = true ∨ hd = true ∧ rt = true) ∧ 0 < len := by simpa using hcn.symm
   have HC := qh hcn2
   have hlen := hcn2.2
   clear hcn hcn2
   have hc6 := HBX2.out.c6
   by_cases h16 : 16 < len
   · go_wp2
     go_ret
     exact says_mk (E13.out HC.out (.inl h16)).symm HBW2.out
   have h16' : len ≤ 16 := by omega
   go_wp2_with fail
   go_loopw [90] (fun v90 wr => PlainAt w recs v90 wr) (fun v90 _ => len - (intOf v90).toNat)
   case atStart => exact plainAt_start w _ recs HBW2.out
   obtain ⟨j, hj, rfl, hno, hbel⟩ := hrel
   have HNO := qh hno
   have HBEL := qh hbel
   rw [← HLEN.out] at hj
   clear hno hbel
   by_cases hlt : j < len
   rotate_left
   · obtain rfl : j = len := by omega
     go_wp2
     go_ret
     refine says_mk (E0.out HC.out ?_).symm HBEL.out
     rintro (h | h)
     · omega
     exact not_long (by rw [← HLEN.out]; exact HNO.out) h
   obtain ⟨r, hrj⟩ : ∃ r, recs[j]? = some r := by
    have hjl : j < recs.length := by rw [← HLEN.out]; exact hlt
    exact ⟨_, List.getElem?_eq_getElem hjl⟩
   obtain ⟨bk, off, rfl, hbk, hcell⟩ : ∃ bk off, ad = some ⟨bk, off, none⟩ ∧ bk < w.heap.size ∧ ∀ i r, recs[i]? = some r → wr.cell? ⟨bk, off + i * 2, none⟩ = some (.string r.key) ∧ wr.cell? ⟨bk, off + i * 2 + 1, none⟩ = some (.string r.val) := by
    rcases HR.out.cells with h | ⟨bk, off, e, hlt, hc⟩
    · omega
    exact ⟨bk, off, e, hlt, fun i r hi => ⟨(HBEL.out.cell (p := ⟨bk, _, none⟩) hlt).trans (hc i r hi).1, (HBEL.out.cell (p := ⟨bk, _, none⟩) hlt).trans (hc i r hi).2⟩⟩
   obtain ⟨hk, hv⟩ := hcell j r hrj
   obtain ⟨hs1, hs2⟩ := HT.out r (List.mem_of_getElem? hrj)
   obtain ⟨ks, vs⟩ := r
   simp only at hk hv hs1 hs2
   have HRJ := qh hrj
   have HMEM : Hid ((⟨ks, vs⟩ : Rc) ∈ recs) := List.mem_of_getElem? hrj
   clear hcell hrj
   by_cases hk64 : 64 < ks.size
   · go_wp2
     go_ret
     exact says_mk (E13.out HC.out (.inr ⟨⟨ks, vs⟩, HMEM.out, .inl hk64⟩)).symm (HBEL.out.alloc HBEL.out.size _)
   have hk64' : ks.size ≤ 64 := by omega
   by_cases hv64 : 64 < vs.size
   · go_wp2
     go_ret
     exact says_mk (E13.out HC.out (.inr ⟨⟨ks, vs⟩, HMEM.out, .inr hv64⟩)).symm (HBEL.out.alloc HBEL.out.size _)
   have hv64' : vs.size ≤ 64 := by omega
   have HNO2 : Hid (∀ i r, i < j + 1 → recs[i]? = some r → ¬ longRec r) := by
    intro i r hi hir
    by_cases e : i = j
    · subst e
      rw [HRJ.out] at hir
      cases hir
      rintro (h | h)
      · exact hk64 h
      exact hv64 h
    exact HNO.out i r (by omega) hir
   have HLE : Hid (j + 1 ≤ recs.length) := by show _ ≤ _; rw [← HLEN.out]; exact hlt
   go_wp2
   go_roundw
   case rel => (repeat apply Exists.intro); exact ⟨⟨j + 1, HLE.out, by go_num, HNO2.out, HBEL.out.alloc HBEL.out.size _⟩, rfl⟩
   simp [intOf]; omega
theorem plain_any (w : World) (b : Bat) (ad : Option Addr) (cap : Nat) (hr : RecsAt w ad b.recs.length cap b.recs) (ht : TextsOk b.recs) (hL : b.recs.length ≤ 140737488355328) :
 Calls Tryz.prog 79 #[.agg #[.int .i64 b.base, .int .i64 b.prod, .int .i64 b.epoch, .int .i64 b.seq, .bool b.txn, .int .i64 b.marker, .slice ad b.recs.length cap]] w (Says (rightE b) w) := by
 by_cases h0 : b.base < 0
 · rw [e_low h0]
   go_enter Tryz.func79, Tryz.ntmps79
   go_wp2
   go_ret
   exact says_mk rfl (bal _ _)
 have h0' : 0 ≤ b.base := by omega
 by_cases h1 : 1099511627776 < b.base
 · rw [e_high h1]
   go_enter Tryz.func79, Tryz.ntmps79
   go_wp2
   go_ret
   exact says_mk rfl (bal _ _)
 by_cases hm : b.marker = 0
 · have e : (.int .i64 b.marker : Value) = .int .i64 b.marker := rfl
   exact plain_data w b ad cap hr ht h0' (by omega) hm hL
 exact plain_mark w b ad cap hr h0' (by omega) hm
end Go.Proofs.YtjmfdildnojknaaGreat
