/- Plain mathematics of chapter 2's numbers and texts as bytes: groups of seven bits, what a row of bytes begins with, eight bytes of a number. No condition on any program. Plain mathematics of the sums of chapter 1: one bit's bstep, a byte's eight bsteps, a row's sum, the four bytes of a sum; that a bstep is linear and takes nothing but 0 to 0, so that up to 32 bits side by side that are turned turn the sum. No condition on any program. Plain mathematics of chapter 5's numbers, which go round: what is a number, steps on and back, the last of a batch, what follows, a gap. No condition on any program. Plain mathematics of chapter 6: a batch, which errors it has, the bytes of one that is right, what bytes begin with one, and what reading them gives. No condition on any program. Plain mathematics of chapters 10 and 14, as the document's own answer has them: what is known of a producer, which batch is taken, what is known behind one, tables, what was aborted; rows that a partition may have. No condition on any program. Plain mathematics of a log without files, as the document's own answer has it: what put, Produce, Mark make of a row. No condition on any program. Chapter 8, plain: batches that were added, the entries that they get, where an offset is looked for, bytes. Chapter 8, plain: what a binary search finds; what a cut leaves. Plain mathematics of chapter 9: batches that stand one behind the other at the beginning of bytes; which of them end at or ahead of an offset; where they lie. No condition on any program. -/

/-! Plain mathematics of chapter 2's numbers and texts as bytes: groups of seven bits, what a row of bytes begins with, eight bytes of a number. No condition on any program. -/
namespace Go.VarMath

abbrev AllB (bs : List Nat) : Prop := ∀ x ∈ bs, x < 256
def two64 : Nat := 18446744073709551616
theorem two64_val : two64 = 18446744073709551616 := rfl
def zig (n : Int) : Nat := if 0 ≤ n then 2 * n.toNat else 2 * (-n).toNat - 1
def zag (u : Nat) : Int := if u % 2 = 0 then ((u / 2 : Nat) : Int) else -((u / 2 : Nat) : Int) - 1
theorem zig_zag (u : Nat) : zig (zag u) = u := by
  unfold zig zag
  by_cases h : u % 2 = 0
  · rw [if_pos h, if_pos (by omega)]; omega
  · rw [if_neg h, if_neg (by omega)]; omega
theorem zig_lt {n : Int} (h0 : -9223372036854775808 ≤ n) (h1 : n ≤ 9223372036854775807) : zig n < 18446744073709551616 := by
  unfold zig; split <;> omega
theorem zag_in {u : Nat} (h : u < 18446744073709551616) : -9223372036854775808 ≤ zag u ∧ zag u ≤ 9223372036854775807 := by
  unfold zag; split <;> omega
theorem zig_nonneg {n : Int} (h : 0 ≤ n) : (zig n : Int) = 2 * n := by unfold zig; rw [if_pos h]; omega
theorem zig_neg {n : Int} (h : n < 0) : (zig n : Int) = -2 * n - 1 := by unfold zig; rw [if_neg (by omega)]; omega
theorem zig_nat (k : Nat) : zig (k : Int) = 2 * k := by unfold zig; rw [if_pos (by omega)]; omega
/-- Groups of seven bits, no more than f + 1 of them. -/
def gr : Nat → Nat → List Nat
  | 0, u => [u]
  | f + 1, u => if u < 128 then [u] else (u % 128 + 128) :: gr f (u / 128)
def encU (u : Nat) : List Nat := gr 9 u
def encN (n : Int) : List Nat := encU (zig n)
def val : List Nat → Nat
  | [] => 0
  | b :: r => b % 128 + 128 * val r
def AllHi (p : List Nat) : Prop := ∀ x ∈ p, 128 ≤ x ∧ x < 256
theorem AllHi.nil : AllHi [] := fun x h => by cases h
theorem AllHi.cons {b : Nat} {p : List Nat} (hb : 128 ≤ b ∧ b < 256) (hp : AllHi p) : AllHi (b :: p) := by
  intro x hx
  rcases List.mem_cons.1 hx with h | h
  · rw [h]; exact hb
  · exact hp x h
theorem AllHi.snoc {b : Nat} {p : List Nat} (hp : AllHi p) (hb : 128 ≤ b ∧ b < 256) : AllHi (p ++ [b]) := by
  intro x hx
  rcases List.mem_append.1 hx with h | h
  · exact hp x h
  · simp at h; rw [h]; exact hb
theorem AllHi.all {p : List Nat} (hp : AllHi p) : AllB p := fun x hx => (hp x hx).2
theorem gr_small (f u : Nat) (h : u < 128) : gr f u = [u] := by
  cases f with
  | zero => rfl
  | succ f => simp [gr, h]
theorem gr_big (f u : Nat) (h : ¬ u < 128) : gr (f + 1) u = (u % 128 + 128) :: gr f (u / 128) := by simp [gr, h]
theorem gr_shape : ∀ f u, u < 128 ^ (f + 1) → ∃ p x, gr f u = p ++ [x] ∧ AllHi p ∧ x < 128 ∧ p.length ≤ f ∧ (x = 0 → p = [] ∧ u = 0)
  | 0, u, h => ⟨[], u, rfl, AllHi.nil, by simpa using h, by simp, fun h => ⟨rfl, h⟩⟩
  | f + 1, u, h => by
    by_cases hu : u < 128
    · exact ⟨[], u, by rw [gr_small _ _ hu]; rfl, AllHi.nil, hu, by simp, fun h => ⟨rfl, h⟩⟩
    · have h2 : u / 128 < 128 ^ (f + 1) := by
        rw [Nat.div_lt_iff_lt_mul (by omega)]
        rwa [← Nat.pow_succ]
      obtain ⟨p, x, e, hp, hx, hl, hz⟩ := gr_shape f (u / 128) h2
      refine ⟨(u % 128 + 128) :: p, x, by rw [gr_big _ _ hu, e]; rfl, AllHi.cons (by omega) hp, hx, by simp; omega, fun h0 => ?_⟩
      have := (hz h0).2
      omega
theorem val_gr : ∀ f u, u < 128 ^ (f + 1) → val (gr f u) = u
  | 0, u, h => by
    have : u < 128 := by simpa using h
    simp [gr, val]; omega
  | f + 1, u, h => by
    by_cases hu : u < 128
    · rw [gr_small _ _ hu]; simp [val]; omega
    · have h2 : u / 128 < 128 ^ (f + 1) := by
        rw [Nat.div_lt_iff_lt_mul (by omega)]
        rwa [← Nat.pow_succ]
      rw [gr_big _ _ hu]
      simp only [val]
      rw [val_gr f _ h2]
      omega
theorem pow10 : (128 : Nat) ^ (9 + 1) = 1180591620717411303424 := by decide
theorem lt10 {u : Nat} (h : u < 18446744073709551616) : u < 128 ^ (9 + 1) := by rw [pow10]; omega
theorem val_enc {u : Nat} (h : u < 18446744073709551616) : val (encU u) = u := val_gr 9 u (lt10 h)
theorem enc_shape {u : Nat} (h : u < 18446744073709551616) : ∃ p x, encU u = p ++ [x] ∧ AllHi p ∧ x < 128 ∧ p.length ≤ 9 ∧ (x = 0 → p = [] ∧ u = 0) := gr_shape 9 u (lt10 h)
theorem enc_all {u : Nat} (h : u < 18446744073709551616) : AllB (encU u) := by
  obtain ⟨p, x, e, hp, hx, _, _⟩ := enc_shape h
  rw [e]
  intro y hy
  rcases List.mem_append.1 hy with h | h
  · exact (hp y h).2
  · simp at h; omega
theorem enc_len {u : Nat} (h : u < 18446744073709551616) : 1 ≤ (encU u).length ∧ (encU u).length ≤ 10 := by
  obtain ⟨p, x, e, hp, hx, hl, _⟩ := enc_shape h
  rw [e, List.length_append]
  simp; omega
/-- The bytes up to and with the first one that no other follows, among the first f. -/
def scan : Nat → List Nat → Option (List Nat)
  | 0, _ => none
  | _ + 1, [] => none
  | f + 1, b :: r => if b < 128 then some [b] else (scan f r).map (b :: ·)
theorem scan_hi : ∀ (p : List Nat) (f : Nat) (r : List Nat), AllHi p → p.length ≤ f → scan f (p ++ r) = (scan (f - p.length) r).map (p ++ ·)
  | [], f, r, _, _ => by
    rw [List.nil_append]
    have : (fun l : List Nat => [] ++ l) = id := by funext l; rfl
    rw [this, Option.map_id]; rfl
  | b :: p, 0, r, _, h => by simp at h
  | b :: p, f + 1, r, hp, h => by
    have hb := hp b (by simp)
    have ih := scan_hi p f r (fun x hx => hp x (by simp [hx])) (by simpa using h)
    show (if b < 128 then some [b] else (scan f (p ++ r)).map (b :: ·)) = _
    rw [if_neg (by omega), ih, Option.map_map, List.length_cons, Nat.add_sub_add_right]
    rfl
theorem scan_end {p : List Nat} {x : Nat} {f : Nat} (hp : AllHi p) (hx : x < 128) (hf : p.length < f) (r : List Nat) : scan f (p ++ x :: r) = some (p ++ [x]) := by
  rw [scan_hi p f _ hp (by omega)]
  obtain ⟨k, hk⟩ : ∃ k, f - p.length = k + 1 := ⟨f - p.length - 1, by omega⟩
  rw [hk]
  simp [scan, hx]
theorem scan_all {p : List Nat} {f : Nat} (hp : AllHi p) (hf : p.length ≤ f) : scan f p = none := by
  have := scan_hi p f [] hp hf
  rw [List.append_nil] at this
  rw [this]
  cases f - p.length <;> rfl
theorem scan_full {p : List Nat} (hp : AllHi p) (r : List Nat) : scan p.length (p ++ r) = none := by
  rw [scan_hi p _ _ hp (Nat.le_refl _), Nat.sub_self]; rfl

/-- What a row of bytes begins with: the number, and how many bytes it takes; 0, 0 if none. -/
def getB (bs : List Nat) : Int × Nat := match scan 10 bs with
  | none => (0, 0)
  | some l => if encU (val l % two64) = l then (zag (val l % two64), l.length) else (0, 0)
theorem getB_none {bs : List Nat} (h : scan 10 bs = none) : getB bs = (0, 0) := by unfold getB; rw [h]
theorem getB_some {bs l : List Nat} (h : scan 10 bs = some l) : getB bs = if encU (val l % two64) = l then (zag (val l % two64), l.length) else (0, 0) := by unfold getB; rw [h]
theorem scan_enc {u : Nat} (h : u < 18446744073709551616) (r : List Nat) : scan 10 (encU u ++ r) = some (encU u) := by
  obtain ⟨p, x, e, hp, hx, hl, _⟩ := enc_shape h
  rw [e, List.append_assoc]
  exact scan_end hp hx (by omega) r
theorem getB_enc {u : Nat} (h : u < 18446744073709551616) (r : List Nat) : getB (encU u ++ r) = (zag u, (encU u).length) := by
  rw [getB_some (scan_enc h r), val_enc h]
  have e : u % two64 = u := Nat.mod_eq_of_lt h
  rw [e, if_pos rfl]
theorem getB_nil : getB [] = (0, 0) := rfl
theorem val_snoc : ∀ (p : List Nat) (x : Nat), val (p ++ [x]) = val p + 128 ^ p.length * (x % 128)
  | [], x => by simp [val]
  | b :: p, x => by
    rw [List.cons_append, val, val, val_snoc p x, List.length_cons, Nat.pow_succ, Nat.mul_add, Nat.mul_comm (128 ^ p.length) 128, Nat.mul_assoc]
    omega
theorem val_lt : ∀ p : List Nat, val p < 128 ^ p.length
  | [] => by simp [val]
  | b :: p => by
    have := val_lt p
    rw [val, List.length_cons, Nat.pow_succ]
    omega
theorem gr_val : ∀ (p : List Nat) (x f : Nat), AllHi p → x < 128 → (x = 0 → p = []) → p.length ≤ f → gr f (val (p ++ [x])) = p ++ [x]
  | [], x, f, _, hx, _, _ => by
    rw [List.nil_append]
    have : val [x] = x := by simp [val]; omega
    rw [this, gr_small _ _ hx]
  | b :: p, x, 0, _, _, _, h => by simp at h
  | b :: p, x, f + 1, hp, hx, hz, h => by
    have hb := hp b (by simp)
    have hx0 : x ≠ 0 := fun h0 => by have := hz h0; simp at this
    have ih := gr_val p x f (fun y hy => hp y (by simp [hy])) hx (fun h0 => absurd h0 hx0) (by simpa using h)
    have hpos : 1 ≤ val (p ++ [x]) := by
      rw [val_snoc]
      have h1 : 1 ≤ 128 ^ p.length := Nat.pow_pos (by omega)
      have h2 : 1 ≤ x % 128 := by omega
      have := Nat.mul_le_mul h1 h2
      omega
    rw [List.cons_append, val, gr_big _ _ (by omega)]
    have e1 : (b % 128 + 128 * val (p ++ [x])) % 128 + 128 = b := by omega
    have e2 : (b % 128 + 128 * val (p ++ [x])) / 128 = val (p ++ [x]) := by omega
    rw [e1, e2, ih]
theorem pow9 : (128 : Nat) ^ 9 = 9223372036854775808 := by decide
/-- A row up to its first low byte is what Put writes just if its last byte is no 0 behind others, and the tenth one is 0 or 1. -/
theorem canon {p : List Nat} {x : Nat} (hp : AllHi p) (hx : x < 128) (hl : p.length ≤ 9) :
    encU (val (p ++ [x]) % two64) = p ++ [x] ↔ (x = 0 → p = []) ∧ (p.length = 9 → x ≤ 1) := by
  have hv := val_lt p
  have hs := val_snoc p x
  have hxm : x % 128 = x := Nat.mod_eq_of_lt hx
  rw [hxm] at hs
  have hmod : val (p ++ [x]) % two64 < 18446744073709551616 := Nat.mod_lt _ (by decide)
  constructor
  · intro h
    constructor
    · intro h0
      obtain ⟨q, y, e, hq, hy, hlq, hz⟩ := enc_shape hmod
      rw [h] at e
      have e1 := List.append_inj' e rfl
      have : y = 0 := by have := e1.2; simp at this; omega
      rw [e1.1]
      exact (hz this).1
    · intro h9
      have h2 := val_enc hmod
      rw [h] at h2
      have h3 : val (p ++ [x]) < 18446744073709551616 := by rw [h2]; exact hmod
      rw [hs, h9, pow9] at h3
      omega
  · rintro ⟨h0, h9⟩
    have hlt : val (p ++ [x]) < 18446744073709551616 := by
      by_cases h : p.length = 9
      · have := h9 h
        rw [hs, h, pow9]
        rw [h, pow9] at hv
        omega
      · have h8 : p.length + 1 ≤ 9 := by omega
        have h1 := val_lt (p ++ [x])
        rw [List.length_append, List.length_singleton] at h1
        have h2 : (128 : Nat) ^ (p.length + 1) ≤ 128 ^ 9 := Nat.pow_le_pow_right (by omega) h8
        rw [pow9] at h2
        omega
    have e : val (p ++ [x]) % two64 = val (p ++ [x]) := Nat.mod_eq_of_lt hlt
    rw [e]
    exact gr_val p x 9 hp hx h0 hl

/-! texts -/
def textB (s : List Nat) : List Nat := encU (2 * s.length) ++ s
def cutB (bs : List Nat) (most : Int) : List Nat × Nat :=
  if (getB bs).2 = 0 ∨ (getB bs).1 < 0 ∨ most < (getB bs).1 ∨ (bs.length : Int) - ((getB bs).2 : Int) < (getB bs).1 then ([], 0)
  else ((bs.drop (getB bs).2).take (getB bs).1.toNat, (getB bs).2 + (getB bs).1.toNat)
theorem zag_even (k : Nat) : zag (2 * k) = (k : Int) := by unfold zag; rw [if_pos (by omega)]; omega
theorem getB_text {s : List Nat} (h : s.length < 9223372036854775808) (r : List Nat) : getB (textB s ++ r) = ((s.length : Int), (encU (2 * s.length)).length) := by
  unfold textB
  rw [List.append_assoc, getB_enc (by omega), zag_even]
/-! eight bytes -/
def beB : Nat → Nat → List Nat
  | 0, _ => []
  | k + 1, u => (u / 256 ^ k % 256) :: beB k u
def unbe (bs : List Nat) : Nat := bs.foldl (fun a b => a * 256 + b) 0
def low64 (n : Int) : Nat := (n % 18446744073709551616).toNat
def longB (n : Int) : List Nat := beB 8 (low64 n)
def sg64 (u : Nat) : Int := if u < 9223372036854775808 then (u : Int) else (u : Int) - 18446744073709551616
def backB (bs : List Nat) : Int × Bool := if bs.length < 8 then (0, false) else (sg64 (unbe (bs.take 8)), true)
theorem length_beB : ∀ k u, (beB k u).length = k
  | 0, _ => rfl
  | k + 1, u => by simp [beB, length_beB k u]
theorem beB_all : ∀ k u, AllB (beB k u)
  | 0, _ => fun x h => by cases h
  | k + 1, u => by
    intro x hx
    rcases List.mem_cons.1 hx with h | h
    · rw [h]; exact Nat.mod_lt _ (by omega)
    · exact beB_all k u x h
theorem length_longB (n : Int) : (longB n).length = 8 := length_beB 8 _
theorem longB_all (n : Int) : AllB (longB n) := beB_all 8 _
theorem unbe_fold : ∀ k u a, (beB k u).foldl (fun a b => a * 256 + b) a = a * 256 ^ k + u % 256 ^ k
  | 0, u, a => by simp [beB, Nat.mod_one]
  | k + 1, u, a => by
    rw [beB, List.foldl_cons, unbe_fold k u]
    have h := Nat.mod_mul (x := u) (a := 256 ^ k) (b := 256)
    rw [Nat.pow_succ, h, Nat.add_mul, Nat.mul_assoc, Nat.mul_comm 256 (256 ^ k), Nat.mul_comm (u / 256 ^ k % 256) (256 ^ k)]
    omega
theorem pow8 : (256 : Nat) ^ 8 = 18446744073709551616 := by decide
theorem low64_lt (n : Int) : low64 n < 18446744073709551616 := by unfold low64; omega
theorem unbe_long (n : Int) : unbe (longB n) = low64 n := by
  unfold unbe longB
  rw [unbe_fold, pow8, Nat.zero_mul, Nat.zero_add, Nat.mod_eq_of_lt (low64_lt n)]
theorem sg64_low64 {n : Int} (h0 : -9223372036854775808 ≤ n) (h1 : n ≤ 9223372036854775807) : sg64 (low64 n) = n := by
  unfold sg64 low64
  split <;> omega
theorem backB_long {n : Int} (h0 : -9223372036854775808 ≤ n) (h1 : n ≤ 9223372036854775807) (r : List Nat) : backB (longB n ++ r) = (n, true) := by
  unfold backB
  rw [if_neg (by rw [List.length_append, length_longB]; omega)]
  have : (longB n ++ r).take 8 = longB n := by
    rw [List.take_append_of_le_length (by rw [length_longB]; omega), List.take_of_length_le (by rw [length_longB]; omega)]
  rw [this, unbe_long, sg64_low64 h0 h1]
theorem backB_short {bs : List Nat} (h : bs.length < 8) : backB bs = (0, false) := by unfold backB; rw [if_pos h]
theorem beB_take : ∀ i k u, i < k → (beB k u).take (i + 1) = (beB k u).take i ++ [u / 256 ^ (k - 1 - i) % 256]
  | i, 0, u, h => by omega
  | 0, k + 1, u, _ => by simp [beB]
  | i + 1, k + 1, u, h => by
    have ih := beB_take i k u (by omega)
    rw [beB, List.take_succ_cons, ih, List.take_succ_cons, List.cons_append]
    congr 3
    have : k + 1 - 1 - (i + 1) = k - 1 - i := by omega
    rw [this]
theorem unbe_take (bs : List Nat) (i : Nat) (h : i < bs.length) : unbe (bs.take (i + 1)) = unbe (bs.take i) * 256 + bs.getD i 0 := by
  unfold unbe
  rw [List.take_succ_eq_append_getElem h, List.foldl_append, List.getD_eq_getElem?_getD, List.getElem?_eq_getElem h]
  rfl
theorem fold_lt : ∀ (bs : List Nat) (a : Nat), AllB bs → bs.foldl (fun a b => a * 256 + b) a < (a + 1) * 256 ^ bs.length
  | [], a, _ => by simp
  | b :: bs, a, h => by
    have hb := h b (by simp)
    have ih := fold_lt bs (a * 256 + b) (fun x hx => h x (by simp [hx]))
    rw [List.foldl_cons, List.length_cons, Nat.pow_succ, Nat.mul_comm (256 ^ bs.length) 256, ← Nat.mul_assoc]
    exact Nat.lt_of_lt_of_le ih (Nat.mul_le_mul_right _ (by omega))
theorem unbe_lt {bs : List Nat} (h : AllB bs) : unbe bs < 256 ^ bs.length := by
  have := fold_lt bs 0 h
  simpa [unbe] using this
theorem scan_len : ∀ (f : Nat) (bs l : List Nat), scan f bs = some l → l.length ≤ f ∧ l.length ≤ bs.length
  | 0, bs, l, h => by cases h
  | f + 1, [], l, h => by cases h
  | f + 1, b :: r, l, h => by
    unfold scan at h
    split at h
    · cases h; simp
    · obtain ⟨t, ht, rfl⟩ := Option.map_eq_some_iff.1 h
      have := scan_len f r t ht
      simp; omega
theorem getB_bounds (bs : List Nat) : (getB bs).2 ≤ 10 ∧ (getB bs).2 ≤ bs.length ∧ -9223372036854775808 ≤ (getB bs).1 ∧ (getB bs).1 ≤ 9223372036854775807 := by
  rcases h : scan 10 bs with _ | l
  · rw [getB_none h]; simp
  · rw [getB_some h]
    have h2 := scan_len 10 bs l h
    split
    · have h3 := zag_in (u := val l % two64) (Nat.mod_lt _ (by decide))
      simp only
      omega
    · simp
theorem cutB_no {bs : List Nat} {most : Int} (h : (getB bs).2 = 0 ∨ (getB bs).1 < 0 ∨ most < (getB bs).1 ∨ (bs.length : Int) - ((getB bs).2 : Int) < (getB bs).1) : cutB bs most = ([], 0) := by
  unfold cutB; rw [if_pos h]
theorem cutB_yes {bs : List Nat} {most : Int} (h : ¬ ((getB bs).2 = 0 ∨ (getB bs).1 < 0 ∨ most < (getB bs).1 ∨ (bs.length : Int) - ((getB bs).2 : Int) < (getB bs).1)) : cutB bs most = ((bs.drop (getB bs).2).take (getB bs).1.toNat, (getB bs).2 + (getB bs).1.toNat) := by
  unfold cutB; rw [if_neg h]
end Go.VarMath

/-! Plain mathematics of the sums of chapter 1: one bit's bstep, a byte's eight bsteps, a row's sum, the four bytes of a sum; that a bstep is linear and takes nothing but 0 to 0, so that up to 32 bits side by side that are turned turn the sum. No condition on any program. -/
namespace Go.CrcMath

def poly : Nat := 2197175160
/-- One bit: shifted right, and, if the lowest bit was 1, exclusive or the polynomial. -/
def bstep (c : Nat) : Nat := if c % 2 = 1 then c / 2 ^^^ poly else c / 2
def bsteps : Nat → Nat → Nat
  | 0, c => c
  | n + 1, c => bstep (bsteps n c)
def nxt (c b : Nat) : Nat := bsteps 8 (c ^^^ b)
def run (c : Nat) (bs : List Nat) : Nat := bs.foldl nxt c
def full : Nat := 4294967295
theorem full_lt : full < 4294967296 := by unfold full; omega
def cpl (c : Nat) : Nat := full ^^^ c
def ofB (bs : List Nat) : Nat := cpl (run full bs)
def leB (c : Nat) : List Nat := [c % 256, c / 256 % 256, c / 65536 % 256, c / 16777216 % 256]
def sealB (bs : List Nat) : List Nat := leB (ofB bs) ++ bs
def unl : List Nat → Nat
  | [] => 0
  | b :: bs => b + 256 * unl bs
def okB (bs : List Nat) : Bool := decide (4 ≤ bs.length) && decide (unl (bs.take 4) = ofB (bs.drop 4))
abbrev AllB (bs : List Nat) : Prop := ∀ x ∈ bs, x < 256

theorem bstep_lt {c : Nat} (h : c < 4294967296) : bstep c < 4294967296 := by
  unfold bstep
  split
  · exact Nat.xor_lt_two_pow (n := 32) (by omega) (by decide)
  · omega
theorem bsteps_lt {c : Nat} (h : c < 4294967296) : ∀ n, bsteps n c < 4294967296
  | 0 => h
  | n + 1 => bstep_lt (bsteps_lt h n)
theorem xor_lt {c b : Nat} (h : c < 4294967296) (hb : b < 4294967296) : c ^^^ b < 4294967296 := Nat.xor_lt_two_pow (n := 32) h hb
theorem nxt_lt {c b : Nat} (h : c < 4294967296) (hb : b < 256) : nxt c b < 4294967296 := bsteps_lt (xor_lt h (by omega)) 8
theorem run_lt : ∀ (bs : List Nat) (c : Nat), c < 4294967296 → AllB bs → run c bs < 4294967296
  | [], c, h, _ => h
  | b :: bs, c, h, hb => run_lt bs (nxt c b) (nxt_lt h (hb b (by simp))) (fun x hx => hb x (by simp [hx]))
theorem cpl_lt {c : Nat} (h : c < 4294967296) : cpl c < 4294967296 := xor_lt full_lt h
theorem cpl_eq (c : Nat) : cpl c = full ^^^ c := rfl
theorem ofB_lt {bs : List Nat} (h : AllB bs) : ofB bs < 4294967296 := cpl_lt (run_lt bs _ full_lt h)
theorem run_snoc (c : Nat) (a : List Nat) (b : Nat) : run c (a ++ [b]) = nxt (run c a) b := by simp [run, List.foldl_append]

/-! the bstep is linear, and only 0 goes to 0 -/
theorem xor_div2 (x y : Nat) : (x ^^^ y) / 2 = x / 2 ^^^ y / 2 := by
  have := Nat.shiftRight_xor_distrib (a := x) (b := y) (i := 1)
  simpa [Nat.shiftRight_eq_div_pow] using this
theorem xor_mod2 (x y : Nat) : (x ^^^ y) % 2 = (x % 2 + y % 2) % 2 := by
  have h : (x ^^^ y) % 2 ^ 1 = x % 2 ^ 1 ^^^ y % 2 ^ 1 := Nat.xor_mod_two_pow
  simp only [Nat.pow_one] at h
  rw [h]
  rcases Nat.mod_two_eq_zero_or_one x with hx | hx <;> rcases Nat.mod_two_eq_zero_or_one y with hy | hy <;> simp [hx, hy]
theorem bstep_xor (x y : Nat) : bstep (x ^^^ y) = bstep x ^^^ bstep y := by
  unfold bstep
  rw [xor_mod2, xor_div2]
  rcases Nat.mod_two_eq_zero_or_one x with hx | hx <;> rcases Nat.mod_two_eq_zero_or_one y with hy | hy
  · simp [hx, hy]
  · simp [hx, hy, Nat.xor_assoc]
  · simp only [hx, hy]; simp [Nat.xor_assoc, Nat.xor_comm poly]
  · simp only [hx, hy]; simp [Nat.xor_assoc]; rw [Nat.xor_comm poly, Nat.xor_assoc, Nat.xor_self, Nat.xor_zero]
theorem bsteps_xor (x y : Nat) : ∀ n, bsteps n (x ^^^ y) = bsteps n x ^^^ bsteps n y
  | 0 => rfl
  | n + 1 => by unfold bsteps; rw [bsteps_xor x y n, bstep_xor]
theorem bsteps_add (m x : Nat) : ∀ n, bsteps (m + n) x = bsteps n (bsteps m x)
  | 0 => rfl
  | n + 1 => by show bstep (bsteps (m + n) x) = bstep (bsteps n (bsteps m x)); rw [bsteps_add m x n]
theorem bstep_double (u : Nat) : bstep (2 * u) = u := by unfold bstep; rw [if_neg (by omega)]; omega
theorem steps8_256 (u : Nat) : bsteps 8 (256 * u) = u := by
  have e : 256 * u = 2 * (2 * (2 * (2 * (2 * (2 * (2 * (2 * u))))))) := by omega
  rw [e]
  simp only [bsteps, bstep_double]
theorem low_xor (t u : Nat) (h : t < 256) : t ^^^ 256 * u = t + 256 * u := by
  have h1 : 2 ^ 8 * u + t = 2 ^ 8 * u ||| t := Nat.two_pow_add_eq_or_of_lt (i := 8) (b := t) (by simpa using h) u
  have e2 : 2 ^ 8 * u ||| t = t ^^^ 2 ^ 8 * u := by
    apply Nat.eq_of_testBit_eq
    intro i
    rw [Nat.testBit_or, Nat.testBit_xor]
    by_cases hi : i < 8
    · have h2 : Nat.testBit (2 ^ 8 * u) i = false := by rw [Nat.testBit_two_pow_mul]; simp; omega
      rw [h2]; simp
    · have h3 : Nat.testBit t i = false := Nat.testBit_lt_two_pow (Nat.lt_of_lt_of_le h (Nat.pow_le_pow_right (n := 2) (i := 8) (by decide) (by omega)))
      rw [h3]; simp
  have h4 : 2 ^ 8 * u = 256 * u := rfl
  rw [h4] at h1 e2
  omega
/-- The difference of two sums behind one byte more, the bytes' own difference t. -/
theorem nxt_xor (c d b t : Nat) : nxt (c ^^^ d) (b ^^^ t) = nxt c b ^^^ bsteps 8 (d ^^^ t) := by
  unfold nxt
  rw [← bsteps_xor]
  congr 1
  rw [Nat.xor_assoc, Nat.xor_assoc, ← Nat.xor_assoc d b t, Nat.xor_comm d b, Nat.xor_assoc]
theorem peel (d t u : Nat) (h : t < 256) : bsteps 8 (d ^^^ (t + 256 * u)) = bsteps 8 (d ^^^ t) ^^^ u := by
  rw [← low_xor t u h, ← Nat.xor_assoc, bsteps_xor, steps8_256]
theorem four (c a0 a1 a2 a3 t0 t1 t2 t3 : Nat) (h0 : t0 < 256) (h1 : t1 < 256) (h2 : t2 < 256) :
    run c [a0 ^^^ t0, a1 ^^^ t1, a2 ^^^ t2, a3 ^^^ t3] = run c [a0, a1, a2, a3] ^^^ bsteps 32 (t0 + 256 * (t1 + 256 * (t2 + 256 * t3))) := by
  have e : bsteps 32 (t0 + 256 * (t1 + 256 * (t2 + 256 * t3))) = bsteps 8 (bsteps 8 (bsteps 8 (bsteps 8 t0 ^^^ t1) ^^^ t2) ^^^ t3) := by
    have p0 := peel 0 t0 (t1 + 256 * (t2 + 256 * t3)) h0
    simp only [Nat.zero_xor] at p0
    rw [show (32 : Nat) = 8 + (8 + (8 + 8)) from rfl, bsteps_add, p0, bsteps_add, peel _ _ _ h1, bsteps_add, peel _ _ _ h2]
  rw [e]
  have q0 : nxt c (a0 ^^^ t0) = nxt c a0 ^^^ bsteps 8 t0 := by have := nxt_xor c 0 a0 t0; simpa using this
  simp only [run, List.foldl_cons, List.foldl_nil]
  rw [q0, nxt_xor, nxt_xor, nxt_xor]
/-! four bytes and their number -/
theorem leB_all (c : Nat) : AllB (leB c) := by intro x hx; simp [leB] at hx; omega
theorem sealB_all {bs : List Nat} (h : AllB bs) : AllB (sealB bs) := by
  intro x hx
  rcases List.mem_append.1 hx with h1 | h1
  · exact leB_all _ x h1
  · exact h x h1
theorem length_sealB (bs : List Nat) : (sealB bs).length = bs.length + 4 := by simp [sealB, leB]
theorem unl_leB {c : Nat} (h : c < 4294967296) : unl (leB c) = c := by simp only [leB, unl]; omega
theorem leB_unl {b0 b1 b2 b3 : Nat} (h0 : b0 < 256) (h1 : b1 < 256) (h2 : b2 < 256) (h3 : b3 < 256) : leB (unl [b0, b1, b2, b3]) = [b0, b1, b2, b3] := by
  simp only [leB, unl]
  congr 1
  · omega
  · congr 1
    · omega
    · congr 1
      · omega
      · congr 1; omega
theorem take_sealB (bs : List Nat) : (sealB bs).take 4 = leB (ofB bs) := by simp [sealB, leB]
theorem drop_sealB (bs : List Nat) : (sealB bs).drop 4 = bs := by simp [sealB, leB]
theorem four_of {bs : List Nat} (h : 4 ≤ bs.length) : ∃ b0 b1 b2 b3 r, bs = b0 :: b1 :: b2 :: b3 :: r := by
  match bs, h with
  | b0 :: b1 :: b2 :: b3 :: r, _ => exact ⟨b0, b1, b2, b3, r, rfl⟩
theorem okB_short {bs : List Nat} (h : bs.length < 4) : okB bs = false := by simp [okB]; omega
theorem okB_seal {bs : List Nat} (h : AllB bs) : okB (sealB bs) = true := by
  simp only [okB, length_sealB, take_sealB, drop_sealB, unl_leB (ofB_lt h)]; simp
theorem okB_long {bs : List Nat} (h : 4 ≤ bs.length) : okB bs = decide (unl (bs.take 4) = ofB (bs.drop 4)) := by simp [okB, h]
/-- A row is right just where it is what the rest of it is when it is sealed. -/
theorem sealB_drop {bs : List Nat} (h : 4 ≤ bs.length) (hb : AllB bs) : sealB (bs.drop 4) = bs ↔ okB bs = true := by
  obtain ⟨b0, b1, b2, b3, r, rfl⟩ := four_of h
  have h0 := hb b0 (by simp)
  have h1 := hb b1 (by simp)
  have h2 := hb b2 (by simp)
  have h3 := hb b3 (by simp)
  have hr : AllB r := fun x hx => hb x (by simp [hx])
  rw [okB_long h]
  simp only [List.drop_succ_cons, List.drop_zero, List.take_succ_cons, List.take_zero, decide_eq_true_eq]
  constructor
  · intro e
    have e2 : leB (ofB r) = [b0, b1, b2, b3] := by
      have := congrArg (List.take 4) e
      simpa [sealB, leB] using this
    rw [← e2, unl_leB (ofB_lt hr)]
  · intro e
    show leB (ofB r) ++ r = _
    rw [← e, leB_unl h0 h1 h2 h3]; rfl
end Go.CrcMath

/-! Plain mathematics of chapter 5's numbers, which go round: what is a number, steps on and back, the last of a batch, what follows, a gap. No condition on any program. -/
namespace Go.SeqMath

def rightB (n : Int) : Bool := decide (0 ≤ n) && decide (n ≤ 2147483647)
def addI (n k : Int) : Int := if rightB n = true then (n + k) % 2147483648 else -1
def lastI (n c : Int) : Int := if 1 ≤ c ∧ c ≤ 16 then addI n (c - 1) else -1
def followsB (l f : Int) : Bool := if l = -1 then decide (f = 0) else rightB l && decide (f = addI l 1)
theorem right_yes {n : Int} (h0 : 0 ≤ n) (h1 : n ≤ 2147483647) : rightB n = true := by unfold rightB; simp [h0, h1]
theorem right_no {n : Int} (h : n < 0 ∨ 2147483647 < n) : rightB n = false := by
  unfold rightB
  rcases h with h | h
  · rw [decide_eq_false (by omega)]; rfl
  · rw [decide_eq_false (p := n ≤ 2147483647) (by omega), Bool.and_false]
theorem of_right {n : Int} (h : rightB n = true) : 0 ≤ n ∧ n ≤ 2147483647 := by unfold rightB at h; simpa using h
theorem add_yes {n : Int} (h0 : 0 ≤ n) (h1 : n ≤ 2147483647) (k : Int) : addI n k = (n + k) % 2147483648 := by unfold addI; rw [if_pos (right_yes h0 h1)]
theorem add_no {n : Int} (h : rightB n = false) (k : Int) : addI n k = -1 := by unfold addI; rw [if_neg (by rw [h]; decide)]
theorem last_yes {c : Int} (h0 : 1 ≤ c) (h1 : c ≤ 16) (n : Int) : lastI n c = addI n (c - 1) := by unfold lastI; rw [if_pos ⟨h0, h1⟩]
theorem last_no {c : Int} (h : c < 1 ∨ 16 < c) (n : Int) : lastI n c = -1 := by unfold lastI; rw [if_neg (by omega)]
theorem follows_none (f : Int) : followsB (-1) f = decide (f = 0) := by unfold followsB; rw [if_pos rfl]
theorem follows_yes {l : Int} (h0 : 0 ≤ l) (h1 : l ≤ 2147483647) (f : Int) : followsB l f = decide (f = addI l 1) := by
  unfold followsB; rw [if_neg (by omega), right_yes h0 h1, Bool.true_and]
theorem follows_no {l : Int} (h : l ≠ -1) (h2 : rightB l = false) (f : Int) : followsB l f = false := by
  unfold followsB; rw [if_neg h, h2, Bool.false_and]
/- What the two laws say, of the plain functions. -/
end Go.SeqMath

/-! Plain mathematics of chapter 6: a batch, which errors it has, the bytes of one that is right, what bytes begin with one, and what reading them gives. No condition on any program. -/
namespace Go.BatMath
open Go.SeqMath
open Go.VarMath (textB cutB encU longB beB unbe low64 sg64 backB)
open Go.CrcMath (sealB okB)

abbrev AllB (bs : List Nat) : Prop := ∀ x ∈ bs, x < 256
def bl (s : ByteArray) : List Nat := s.data.toList.map UInt8.toNat
def sb (l : List Nat) : ByteArray := ⟨(l.map UInt8.ofNat).toArray⟩
theorem sb_bl (s : ByteArray) : sb (bl s) = s := by
  unfold sb bl
  rw [List.map_map]
  have : (UInt8.ofNat ∘ UInt8.toNat) = id := by funext x; simp
  rw [this, List.map_id]
theorem bl_sb {l : List Nat} (h : AllB l) : bl (sb l) = l := by
  unfold sb bl
  simp only [List.map_map]
  have : l.map (UInt8.toNat ∘ UInt8.ofNat) = l.map id := List.map_congr_left fun x hx => by
    have := h x hx
    simp only [Function.comp, id, UInt8.toNat_ofNat']
    omega
  rw [this, List.map_id]
theorem bl_len (s : ByteArray) : (bl s).length = s.size := by simp [bl]
theorem bl_all (s : ByteArray) : AllB (bl s) := by
  intro x hx
  obtain ⟨c, _, rfl⟩ := List.mem_map.1 hx
  exact c.toNat_lt
/-- A record, and a batch. -/
structure Rc where
  key : ByteArray
  val : ByteArray
structure Bat where
  base : Int
  prod : Int
  epoch : Int
  seq : Int
  txn : Bool
  marker : Int
  recs : List Rc
def Bat.zero : Bat := ⟨0, 0, 0, 0, false, 0, []⟩
def Bat.at (b : Bat) (n : Int) : Bat := { b with base := n }
theorem Bat.ext_of {a b : Bat} (h0 : a.base = b.base) (h1 : a.prod = b.prod) (h2 : a.epoch = b.epoch) (h3 : a.seq = b.seq) (h4 : a.txn = b.txn) (h5 : a.marker = b.marker) (h6 : a.recs = b.recs) : a = b := by
  cases a; cases b; simp only at h0 h1 h2 h3 h4 h5 h6; subst h0 h1 h2 h3 h4 h5 h6; rfl
abbrev In64 (n : Int) : Prop := -9223372036854775808 ≤ n ∧ n ≤ 9223372036854775807
/-- Its numbers are such. -/
structure Bat.wf (b : Bat) : Prop where
  base : In64 b.base
  prod : In64 b.prod
  epoch : In64 b.epoch
  seq : In64 b.seq
  marker : In64 b.marker
theorem zero_wf : Bat.zero.wf := ⟨by decide, by decide, by decide, by decide, by decide⟩

/-! which errors it has -/
def headB (b : Bat) : Bool := decide (0 ≤ b.prod) && (decide (0 ≤ b.epoch) && decide (b.epoch ≤ 32767))
def noneB (b : Bat) : Bool := decide (b.prod = -1) && (decide (b.epoch = -1) && (decide (b.seq = -1) && !b.txn))
def longRec (r : Rc) : Prop := 64 < r.key.size ∨ 64 < r.val.size
noncomputable def rightE (b : Bat) : Int :=
  if b.base < 0 ∨ 1099511627776 < b.base then 18
  else if b.marker ≠ 0 then
    if (b.marker = 1 ∨ b.marker = 2) ∧ headB b = true ∧ b.seq = -1 ∧ b.txn = true ∧ b.recs = [] then 0 else 12
  else if (noneB b = true ∨ headB b = true ∧ rightB b.seq = true) ∧ b.recs ≠ [] then
    open Classical in if 16 < b.recs.length ∨ ∃ r ∈ b.recs, longRec r then 13 else 0
  else 12
theorem head_of {b : Bat} (h : headB b = true) : 0 ≤ b.prod ∧ 0 ≤ b.epoch ∧ b.epoch ≤ 32767 := by unfold headB at h; simpa using h
theorem none_of {b : Bat} (h : noneB b = true) : b.prod = -1 ∧ b.epoch = -1 ∧ b.seq = -1 ∧ b.txn = false := by unfold noneB at h; simpa using h
/-- What a batch that is right is. -/
structure Ok (b : Bat) : Prop where
  base0 : 0 ≤ b.base
  base1 : b.base ≤ 1099511627776
  prod : -1 ≤ b.prod
  epoch0 : -1 ≤ b.epoch
  epoch1 : b.epoch ≤ 32767
  seq0 : -1 ≤ b.seq
  seq1 : b.seq ≤ 2147483647
  marker0 : 0 ≤ b.marker
  marker1 : b.marker ≤ 2
  recs : b.recs.length ≤ 16
  texts : ∀ r ∈ b.recs, r.key.size ≤ 64 ∧ r.val.size ≤ 64
theorem ok_of {b : Bat} (h : rightE b = 0) : Ok b := by
  unfold rightE at h
  split at h
  · omega
  rename_i hb
  split at h
  · split at h
    · rename_i hm hh
      obtain ⟨h1, h2, h3, h4, h5⟩ := hh
      obtain ⟨p0, p1, p2⟩ := head_of h2
      exact ⟨by omega, by omega, by omega, by omega, by omega, by omega, by omega, by omega, by omega, by rw [h5]; simp, by rw [h5]; intro r hr; cases hr⟩
    · omega
  rename_i hm
  split at h
  · rename_i hh
    split at h
    · omega
    rename_i hl
    have hl1 : b.recs.length ≤ 16 := by
      by_cases h16 : 16 < b.recs.length
      · exact absurd (.inl h16) hl
      · omega
    have hl2 : ∀ r ∈ b.recs, r.key.size ≤ 64 ∧ r.val.size ≤ 64 := by
      intro r hr
      refine ⟨?_, ?_⟩
      · by_cases h64 : 64 < r.key.size
        · exact absurd (.inr ⟨r, hr, .inl h64⟩) hl
        · omega
      · by_cases h64 : 64 < r.val.size
        · exact absurd (.inr ⟨r, hr, .inr h64⟩) hl
        · omega
    rcases hh.1 with h1 | ⟨h1, h2⟩
    · obtain ⟨q1, q2, q3, q4⟩ := none_of h1
      exact ⟨by omega, by omega, by omega, by omega, by omega, by omega, by omega, by omega, by omega, hl1, hl2⟩
    · obtain ⟨p0, p1, p2⟩ := head_of h1
      obtain ⟨s0, s1⟩ := of_right h2
      exact ⟨by omega, by omega, by omega, by omega, by omega, by omega, by omega, by omega, by omega, hl1, hl2⟩
  · omega

/-! bytes -/
def flagN (b : Bat) : Nat := (2 * b.marker + (if b.txn = true then 1 else 0)).toNat % 256
def epochN (b : Bat) : Nat := (b.epoch % 65536).toNat
def recB (r : Rc) : List Nat := textB (bl r.key) ++ textB (bl r.val)
def recsB (l : List Rc) : List Nat := l.flatMap recB
def frontB (b : Bat) : List Nat := flagN b :: (longB b.prod ++ (epochN b / 256 :: epochN b % 256 :: (longB b.seq ++ [b.recs.length % 256])))
def bodyB (b : Bat) : List Nat := frontB b ++ recsB b.recs
def bytesB (b : Bat) : List Nat := longB b.base ++ (beB 4 (sealB (bodyB b)).length ++ sealB (bodyB b))
theorem recsB_cons (r : Rc) (l : List Rc) : recsB (r :: l) = recB r ++ recsB l := rfl
theorem recsB_snoc (l : List Rc) (r : Rc) : recsB (l ++ [r]) = recsB l ++ recB r := by simp [recsB]
theorem front_len (b : Bat) : (frontB b).length = 20 := by simp [frontB, VarMath.length_longB]
theorem text_len {s : List Nat} (hl : s.length < 9223372036854775808) : s.length + 1 ≤ (textB s).length ∧ (textB s).length ≤ s.length + 10 := by
  have := VarMath.enc_len (u := 2 * s.length) (by omega)
  unfold textB
  rw [List.length_append]
  omega
theorem rec_len {r : Rc} (h : r.key.size ≤ 64 ∧ r.val.size ≤ 64) : 2 ≤ (recB r).length ∧ (recB r).length ≤ 148 := by
  have h1 := text_len (s := bl r.key) (by rw [bl_len]; omega)
  have h2 := text_len (s := bl r.val) (by rw [bl_len]; omega)
  rw [bl_len] at h1 h2
  unfold recB
  rw [List.length_append]
  omega
theorem recs_len : ∀ {l : List Rc}, (∀ r ∈ l, r.key.size ≤ 64 ∧ r.val.size ≤ 64) → 2 * l.length ≤ (recsB l).length ∧ (recsB l).length ≤ 148 * l.length
  | [], _ => by simp [recsB]
  | r :: l, h => by
    have h1 := rec_len (h r (by simp))
    have h2 := recs_len (l := l) fun x hx => h x (by simp [hx])
    rw [recsB_cons, List.length_append, List.length_cons]
    omega
theorem body_len (b : Bat) : (bodyB b).length = 20 + (recsB b.recs).length := by unfold bodyB; rw [List.length_append, front_len]
theorem bytes_len (b : Bat) : (bytesB b).length = 36 + (recsB b.recs).length := by
  unfold bytesB
  rw [List.length_append, List.length_append, VarMath.length_longB, VarMath.length_beB, CrcMath.length_sealB, body_len]
  omega
theorem ok_len {b : Bat} (h : Ok b) : (bytesB b).length ≤ 2404 ∧ 36 ≤ (bytesB b).length := by
  have h1 := (recs_len h.texts).2
  have h2 := h.recs
  rw [bytes_len]
  omega
theorem text_all {s : List Nat} (h : AllB s) (hl : s.length < 9223372036854775808) : AllB (textB s) := by
  unfold textB
  intro x hx
  rcases List.mem_append.1 hx with h1 | h1
  · exact VarMath.enc_all (by omega) x h1
  · exact h x h1
theorem all_app {a b : List Nat} (ha : AllB a) (hb : AllB b) : AllB (a ++ b) := by
  intro x hx
  rcases List.mem_append.1 hx with h | h
  · exact ha x h
  · exact hb x h
theorem all_cons {a : Nat} {b : List Nat} (ha : a < 256) (hb : AllB b) : AllB (a :: b) := by
  intro x hx
  rcases List.mem_cons.1 hx with h | h
  · rw [h]; exact ha
  · exact hb x h
theorem all_nil : AllB [] := fun x h => by cases h
theorem rec_all {r : Rc} (h : r.key.size < 9223372036854775808 ∧ r.val.size < 9223372036854775808) : AllB (recB r) :=
  all_app (text_all (bl_all _) (by rw [bl_len]; exact h.1)) (text_all (bl_all _) (by rw [bl_len]; exact h.2))
theorem recs_all : ∀ {l : List Rc}, (∀ r ∈ l, r.key.size < 9223372036854775808 ∧ r.val.size < 9223372036854775808) → AllB (recsB l)
  | [], _ => all_nil
  | r :: l, h => by
    rw [recsB_cons]
    exact all_app (rec_all (h r (by simp))) (recs_all fun x hx => h x (by simp [hx]))
theorem flag_lt (b : Bat) : flagN b < 256 := Nat.mod_lt _ (by omega)
theorem epoch_lt (b : Bat) : epochN b < 65536 := by unfold epochN; omega
theorem front_all (b : Bat) : AllB (frontB b) := by
  have h1 := epoch_lt b
  exact all_cons (flag_lt b) (all_app (VarMath.longB_all _) (all_cons (by omega) (all_cons (by omega) (all_app (VarMath.longB_all _) (all_cons (by omega) all_nil)))))
theorem body_all {b : Bat} (h : Ok b) : AllB (bodyB b) := all_app (front_all b) (recs_all fun r hr => by have := h.texts r hr; omega)
theorem bytes_all {b : Bat} (h : Ok b) : AllB (bytesB b) := all_app (VarMath.longB_all _) (all_app (VarMath.beB_all 4 _) (CrcMath.sealB_all (body_all h)))

/-! reading -/
theorem cut_text_any {s : List Nat} (h : s.length < 9223372036854775808) (r : List Nat) (most : Int) (hm : (s.length : Int) ≤ most) : cutB (textB s ++ r) most = (s, (textB s).length) := by
  have h1 := VarMath.enc_len (u := 2 * s.length) (by omega)
  have hlen : (textB s ++ r).length = (encU (2 * s.length)).length + s.length + r.length := by simp [textB]; try omega
  have hg := VarMath.getB_text h r
  rw [VarMath.cutB_yes (by rw [hg, hlen]; simp only; omega), hg]
  simp only [Int.toNat_natCast]
  congr 1
  · unfold textB
    rw [List.append_assoc, List.drop_append_of_le_length (Nat.le_refl _), List.drop_length, List.nil_append, List.take_append_of_le_length (Nat.le_refl _), List.take_length]
  · simp [textB]
def recsD : Nat → List Nat → Nat → Option (List Rc × Nat)
  | 0, _, i => some ([], i)
  | n + 1, x, i =>
    if (cutB (x.drop i) (x.length : Int)).2 = 0 ∨ (cutB (x.drop (i + (cutB (x.drop i) (x.length : Int)).2)) (x.length : Int)).2 = 0 then none
    else (recsD n x (i + (cutB (x.drop i) (x.length : Int)).2 + (cutB (x.drop (i + (cutB (x.drop i) (x.length : Int)).2)) (x.length : Int)).2)).map fun p =>
      (⟨sb (cutB (x.drop i) (x.length : Int)).1, sb (cutB (x.drop (i + (cutB (x.drop i) (x.length : Int)).2)) (x.length : Int)).1⟩ :: p.1, p.2)
theorem recsD_step {n i k m : Nat} {x a c : List Nat} (h1 : cutB (x.drop i) (x.length : Int) = (a, k)) (h2 : cutB (x.drop (i + k)) (x.length : Int) = (c, m)) (hk : k ≠ 0) (hm : m ≠ 0) :
    recsD (n + 1) x i = (recsD n x (i + k + m)).map fun p => (⟨sb a, sb c⟩ :: p.1, p.2) := by
  show (if (cutB (x.drop i) (x.length : Int)).2 = 0 ∨ _ then _ else _) = _
  rw [h1]
  simp only
  rw [h2]
  simp only
  rw [if_neg (by omega)]
theorem recsD_fell {n i k m : Nat} {x a c : List Nat} (h1 : cutB (x.drop i) (x.length : Int) = (a, k)) (h2 : cutB (x.drop (i + k)) (x.length : Int) = (c, m)) (h : k = 0 ∨ m = 0) :
    recsD (n + 1) x i = none := by
  show (if (cutB (x.drop i) (x.length : Int)).2 = 0 ∨ _ then _ else _) = _
  rw [h1]
  simp only
  rw [h2]
  simp only
  rw [if_pos h]
theorem recsD_enc : ∀ (l : List Rc) (p r : List Nat), (∀ c ∈ l, c.key.size ≤ 64 ∧ c.val.size ≤ 64) → recsD l.length (p ++ (recsB l ++ r)) p.length = some (l, p.length + (recsB l).length)
  | [], p, r, _ => by simp [recsD, recsB]
  | c :: l, p, r, h => by
    obtain ⟨hc1, hc2⟩ := h c (by simp)
    have e1 : (p ++ (recsB (c :: l) ++ r)).drop p.length = textB (bl c.key) ++ (textB (bl c.val) ++ (recsB l ++ r)) := by
      rw [List.drop_append_of_le_length (Nat.le_refl _), List.drop_length, List.nil_append, recsB_cons, recB]
      simp only [List.append_assoc]
    have e2 : (p ++ (recsB (c :: l) ++ r)).drop (p.length + (textB (bl c.key)).length) = textB (bl c.val) ++ (recsB l ++ r) := by
      rw [← List.drop_drop, e1, List.drop_append_of_le_length (Nat.le_refl _), List.drop_length, List.nil_append]
    have l1 := text_len (s := bl c.key) (by rw [bl_len]; omega)
    have l2 := text_len (s := bl c.val) (by rw [bl_len]; omega)
    have hx : (p ++ (recsB (c :: l) ++ r)).length = p.length + ((textB (bl c.key)).length + (textB (bl c.val)).length + (recsB l).length + r.length) := by
      rw [recsB_cons, recB]
      simp only [List.length_append]
    have c1 := cut_text_any (s := bl c.key) (by rw [bl_len]; omega) (textB (bl c.val) ++ (recsB l ++ r)) ((p ++ (recsB (c :: l) ++ r)).length : Int) (by rw [hx]; omega)
    have c2 := cut_text_any (s := bl c.val) (by rw [bl_len]; omega) (recsB l ++ r) ((p ++ (recsB (c :: l) ++ r)).length : Int) (by rw [hx]; omega)
    rw [← e1] at c1
    rw [← e2] at c2
    rw [List.length_cons, recsD_step c1 c2 (by omega) (by omega)]
    have ih := recsD_enc l (p ++ recB c) r (fun x hx => h x (by simp [hx]))
    have e3 : p ++ recB c ++ (recsB l ++ r) = p ++ (recsB (c :: l) ++ r) := by rw [recsB_cons]; simp only [List.append_assoc]
    have e4 : (p ++ recB c).length = p.length + (textB (bl c.key)).length + (textB (bl c.val)).length := by rw [recB]; simp only [List.length_append]; omega
    rw [e3, e4] at ih
    rw [ih, sb_bl, sb_bl]
    simp only [Option.map_some, recsB_cons, recB, List.length_append]
    congr 2
    omega
def epD (n : Nat) : Int := if n = 65535 then -1 else (n : Int)
/-- A batch of its parts, if the records could be read; does it end with the row? -/
def innerOf (r : Option (List Rc × Nat)) (p e s : Int) (t : Bool) (m : Int) (len : Nat) : Bat × Bool :=
  match r with
  | none => (Bat.zero, false)
  | some q => (⟨0, p, e, s, t, m, q.1⟩, decide (q.2 = len))
def innerD (x : List Nat) : Bat × Bool :=
  if x.length < 20 then (Bat.zero, false)
  else innerOf (recsD (x.getD 19 0) x 20) (backB (x.drop 1)).1 (epD (x.getD 9 0 * 256 + x.getD 10 0)) (backB (x.drop 11)).1 (decide (x.getD 0 0 % 2 = 1)) ((x.getD 0 0 / 2 : Nat) : Int) x.length
theorem getD_drop (x : List Nat) (k : Nat) : x.getD k 0 = (x.drop k).getD 0 0 := by
  rw [List.getD_eq_getElem?_getD, List.getD_eq_getElem?_getD, List.getElem?_drop, Nat.add_zero]
theorem drop_cons_app (a : Nat) (l r : List Nat) (k : Nat) (h : l.length = k) : (a :: (l ++ r)).drop (k + 1) = r := by
  rw [List.drop_succ_cons, ← h, List.drop_append_of_le_length (Nat.le_refl _), List.drop_length, List.nil_append]
theorem inner_body {b : Bat} (h : Ok b) (hw : b.wf) : innerD (bodyB b) = (b.at 0, true) := by
  have hl := body_len b
  have hx : bodyB b = flagN b :: (longB b.prod ++ (epochN b / 256 :: epochN b % 256 :: (longB b.seq ++ (b.recs.length % 256 :: recsB b.recs)))) := by simp [bodyB, frontB]
  have d1 : (bodyB b).drop 1 = longB b.prod ++ (epochN b / 256 :: epochN b % 256 :: (longB b.seq ++ (b.recs.length % 256 :: recsB b.recs))) := by rw [hx]; rfl
  have d9 : (bodyB b).drop 9 = epochN b / 256 :: epochN b % 256 :: (longB b.seq ++ (b.recs.length % 256 :: recsB b.recs)) := by rw [hx]; exact drop_cons_app _ _ _ 8 (VarMath.length_longB _)
  have d10 : (bodyB b).drop 10 = epochN b % 256 :: (longB b.seq ++ (b.recs.length % 256 :: recsB b.recs)) := by rw [show (10 : Nat) = 9 + 1 from rfl, ← List.drop_drop, d9]; rfl
  have d11 : (bodyB b).drop 11 = longB b.seq ++ (b.recs.length % 256 :: recsB b.recs) := by rw [show (11 : Nat) = 10 + 1 from rfl, ← List.drop_drop, d10]; rfl
  have d19 : (bodyB b).drop 19 = b.recs.length % 256 :: recsB b.recs := by rw [show (19 : Nat) = 10 + 9 from rfl, ← List.drop_drop, d10]; exact drop_cons_app _ _ _ 8 (VarMath.length_longB _)
  have g0 : (bodyB b).getD 0 0 = flagN b := by rw [hx]; rfl
  have g9 : (bodyB b).getD 9 0 = epochN b / 256 := by rw [getD_drop, d9]; rfl
  have g10 : (bodyB b).getD 10 0 = epochN b % 256 := by rw [getD_drop, d10]; rfl
  have hr := h.recs
  have g19 : (bodyB b).getD 19 0 = b.recs.length := by rw [getD_drop, d19]; show b.recs.length % 256 = _; omega
  have hb : recsD b.recs.length (bodyB b) 20 = some (b.recs, (bodyB b).length) := by
    have := recsD_enc b.recs (frontB b) [] h.texts
    rw [front_len, List.append_nil] at this
    rw [body_len]
    exact this
  obtain ⟨h1, h2, h3, h4, h5, h6, h7, h8, h9, _, _⟩ := h
  obtain ⟨w1, w2, w3, w4, w5⟩ := hw
  unfold innerD
  rw [if_neg (by omega), g19, hb]
  unfold innerOf
  simp only
  rw [d1, d11, g0, g9, g10, VarMath.backB_long w2.1 w2.2, VarMath.backB_long w4.1 w4.2]
  have hf : flagN b = (2 * b.marker + (if b.txn = true then 1 else 0)).toNat := by
    unfold flagN
    split <;> omega
  rw [Prod.mk.injEq]
  refine ⟨Bat.ext_of rfl rfl ?_ rfl ?_ ?_ rfl, by simp⟩
  · show epD (epochN b / 256 * 256 + epochN b % 256) = b.epoch
    unfold epD epochN
    split <;> omega
  · show decide (flagN b % 2 = 1) = b.txn
    rw [hf]
    cases b.txn
    · rw [if_neg (by decide)]; exact decide_eq_false (by omega)
    · rw [if_pos rfl]; exact decide_eq_true (by omega)
  · show ((flagN b / 2 : Nat) : Int) = b.marker
    rw [hf]
    split <;> omega
/-- p begins with what Bytes gives of b. -/
structure Good (p : List Nat) (b : Bat) : Prop where
  right : rightE b = 0
  wf : b.wf
  pre : bytesB b <+: p
/-- What a reader gives: a batch, how many bytes it takes, an error. -/
structure Out where
  b : Bat
  n : Nat
  e : Int
def lenD (p : List Nat) : Nat := unbe ((p.drop 8).take 4)
def fellD (p : List Nat) : Int := if p.length < 12 then 12 else if 4096 < lenD p + 12 then 13 else 12
/-- What is asked of a reader. -/
structure Reads (p : List Nat) (o : Out) : Prop where
  fine : o.e = 0 → Good p o.b ∧ o.n = (bytesB o.b).length
  fell : o.e ≠ 0 → o.b = Bat.zero ∧ o.n = 0 ∧ o.e = fellD p
  all : ∀ b, Good p b → o.e = 0 ∧ o.b = b
theorem fell_pos (p : List Nat) : fellD p ≠ 0 := by unfold fellD; split <;> (try split) <;> decide
theorem out_ext {a b : Out} (h0 : a.b = b.b) (h1 : a.n = b.n) (h2 : a.e = b.e) : a = b := by cases a; cases b; simp only at h0 h1 h2; rw [h0, h1, h2]
theorem reads_one {p : List Nat} {o o' : Out} (h : Reads p o) (h' : Reads p o') : o = o' := by
  by_cases h0 : o.e = 0
  · obtain ⟨g, hn⟩ := h.fine h0
    obtain ⟨h1, h2⟩ := h'.all _ g
    obtain ⟨_, hn'⟩ := h'.fine h1
    exact out_ext h2.symm (by rw [hn, hn', h2]) (by rw [h0, h1])
  · by_cases h1 : o'.e = 0
    · obtain ⟨g, _⟩ := h'.fine h1
      exact absurd (h.all _ g).1 h0
    · obtain ⟨a1, a2, a3⟩ := h.fell h0
      obtain ⟨b1, b2, b3⟩ := h'.fell h1
      exact out_ext (by rw [a1, b1]) (by rw [a2, b2]) (by rw [a3, b3])
/-- What stands in the bytes of a batch. -/
theorem good_parts {p : List Nat} {b : Bat} (h : Good p b) :
    (bytesB b).length = lenD p + 12 ∧ 12 ≤ p.length ∧ lenD p + 12 ≤ 4096 ∧ lenD p + 12 ≤ p.length ∧ (p.drop 12).take (lenD p) = sealB (bodyB b) ∧ p.take (12 + lenD p) = bytesB b ∧ (backB p) = (b.base, true) := by
  obtain ⟨r, rfl⟩ := h.pre
  have ho := ok_of h.right
  have hl := ok_len ho
  have hb := bytes_len b
  have hs := CrcMath.length_sealB (bodyB b)
  have hbl := body_len b
  have e8 : (bytesB b ++ r).drop 8 = beB 4 (sealB (bodyB b)).length ++ (sealB (bodyB b) ++ r) := by
    unfold bytesB
    rw [List.append_assoc, List.drop_append, VarMath.length_longB, List.drop_of_length_le (by rw [VarMath.length_longB]; exact Nat.le_refl _)]
    simp
  have e12 : (bytesB b ++ r).drop 12 = sealB (bodyB b) ++ r := by
    rw [show (12 : Nat) = 8 + 4 from rfl, ← List.drop_drop, e8, List.drop_append, VarMath.length_beB, List.drop_of_length_le (by rw [VarMath.length_beB]; exact Nat.le_refl _)]
    simp
  have hn : lenD (bytesB b ++ r) = (sealB (bodyB b)).length := by
    unfold lenD
    rw [e8, List.take_append_of_le_length (by rw [VarMath.length_beB]; exact Nat.le_refl _), List.take_of_length_le (by rw [VarMath.length_beB]; exact Nat.le_refl _)]
    unfold unbe
    rw [VarMath.unbe_fold]
    omega
  have hlen : (bytesB b).length = lenD (bytesB b ++ r) + 12 := by omega
  refine ⟨hlen, by rw [List.length_append]; omega, by omega, by rw [List.length_append]; omega, ?_, ?_, ?_⟩
  · rw [e12, hn, List.take_append_of_le_length (Nat.le_refl _), List.take_length]
  · rw [Nat.add_comm, ← hlen, List.take_append_of_le_length (Nat.le_refl _), List.take_length]
  · unfold bytesB
    rw [List.append_assoc]
    exact VarMath.backB_long h.wf.base.1 h.wf.base.2 _
theorem good_open {p : List Nat} {b : Bat} (h : Good p b) : okB ((p.drop 12).take (lenD p)) = true ∧ ((p.drop 12).take (lenD p)).drop 4 = bodyB b ∧ innerD (bodyB b) = (b.at 0, true) := by
  obtain ⟨_, _, _, _, h5, _, _⟩ := good_parts h
  have ho := ok_of h.right
  rw [h5]
  exact ⟨CrcMath.okB_seal (body_all ho), CrcMath.drop_sealB _, inner_body ho h.wf⟩
/-- Of one row of bytes there is at most one batch at its front. -/
theorem good_one {p : List Nat} {a b : Bat} (ha : Good p a) (hb : Good p b) : a = b := by
  obtain ⟨_, h2, h3⟩ := good_open ha
  obtain ⟨_, h5, h6⟩ := good_open hb
  obtain ⟨_, _, _, _, _, _, h7⟩ := good_parts ha
  obtain ⟨_, _, _, _, _, _, h8⟩ := good_parts hb
  rw [← h2, h5, h6] at h3
  have e : a.at 0 = b.at 0 := (Prod.mk.inj h3).1.symm
  rw [h7] at h8
  have e2 : a.base = b.base := (Prod.mk.inj h8).1
  have f : ∀ x : Bat, (x.at 0).at x.base = x := fun x => rfl
  rw [← f a, ← f b, e, e2]
/-- What is read of bytes that Bytes gave, with more behind them. -/
theorem good_of {b : Bat} (h : rightE b = 0) (hw : b.wf) (r : List Nat) : Good (bytesB b ++ r) b := ⟨h, hw, List.prefix_append _ _⟩
theorem right_at {b : Bat} (h : rightE b = 0) {n : Int} (h0 : 0 ≤ n) (h1 : n ≤ 1099511627776) : rightE (b.at n) = 0 := by
  have hb := ok_of h
  have e : ∀ {c : Bat}, ¬ (c.base < 0 ∨ 1099511627776 < c.base) → rightE c = rightE { c with base := 0 } := by
    intro c hc
    unfold rightE
    rw [if_neg hc]
    exact (if_neg (by show ¬ ((0 : Int) < 0 ∨ (1099511627776 : Int) < 0); decide)).symm
  have := hb.base0
  have := hb.base1
  rw [e (by show ¬ (n < 0 ∨ 1099511627776 < n); omega)]
  rw [e (by omega)] at h
  exact h
noncomputable def sizeB (b : Bat) : Int := if rightE b = 0 then ((bytesB b).length : Int) else 0
/-- What the document's own reader gives. -/
noncomputable def readD (p : List Nat) : Out :=
  if p.length < 12 then ⟨Bat.zero, 0, 12⟩
  else if 4096 < lenD p + 12 then ⟨Bat.zero, 0, 13⟩
  else if p.length < lenD p + 12 then ⟨Bat.zero, 0, 12⟩
  else if okB ((p.drop 12).take (lenD p)) = false then ⟨Bat.zero, 0, 12⟩
  else open Classical in
    if (innerD (((p.drop 12).take (lenD p)).drop 4)).2 = true ∧ rightE ((innerD (((p.drop 12).take (lenD p)).drop 4)).1.at (backB p).1) = 0 ∧ bytesB ((innerD (((p.drop 12).take (lenD p)).drop 4)).1.at (backB p).1) = p.take (12 + lenD p)
    then ⟨(innerD (((p.drop 12).take (lenD p)).drop 4)).1.at (backB p).1, lenD p + 12, 0⟩ else ⟨Bat.zero, 0, 12⟩
theorem sg64_in {u : Nat} (h : u < 18446744073709551616) : In64 (sg64 u) := by unfold sg64 In64; split <;> omega
theorem back_in {p : List Nat} (h : AllB p) : In64 (backB p).1 := by
  unfold backB
  split
  · exact ⟨by decide, by decide⟩
  · have := VarMath.unbe_lt (bs := p.take 8) fun x hx => h x (List.mem_of_mem_take hx)
    rename_i h8
    rw [List.length_take, Nat.min_eq_left (by omega), VarMath.pow8] at this
    exact sg64_in this
theorem getD_lt {p : List Nat} (h : AllB p) (k : Nat) : p.getD k 0 < 256 := by
  rw [List.getD_eq_getElem?_getD]
  rcases hk : p[k]? with _ | x
  · decide
  · exact h x (List.mem_of_getElem? hk)
theorem drop_all {p : List Nat} (h : AllB p) (k : Nat) : AllB (p.drop k) := fun x hx => h x (List.mem_of_mem_drop hx)
theorem take_all {p : List Nat} (h : AllB p) (k : Nat) : AllB (p.take k) := fun x hx => h x (List.mem_of_mem_take hx)
theorem inner_wf {x : List Nat} (h : AllB x) : (innerD x).1.wf := by
  unfold innerD
  split
  · exact zero_wf
  · unfold innerOf
    split
    · exact zero_wf
    · have h9 := getD_lt h 9
      have h10 := getD_lt h 10
      have h0 := getD_lt h 0
      refine ⟨by show In64 0; decide, back_in (drop_all h 1), ?_, back_in (drop_all h 11), ?_⟩
      · show In64 (epD (x.getD 9 0 * 256 + x.getD 10 0))
        unfold epD In64
        split <;> omega
      · show In64 ((x.getD 0 0 / 2 : Nat) : Int)
        unfold In64
        omega
theorem at_wf {b : Bat} (h : b.wf) {n : Int} (hn : In64 n) : (b.at n).wf := ⟨hn, h.prod, h.epoch, h.seq, h.marker⟩
/-- The document's own reader gives what is asked of one. -/
theorem reads_readD {p : List Nat} (hp : AllB p) : Reads p (readD p) := by
  have bad : ∀ (o : Out), o = ⟨Bat.zero, 0, fellD p⟩ → (∀ b, ¬ Good p b) → Reads p o := by
    rintro o rfl h
    exact ⟨fun h0 => absurd h0 (fell_pos p), fun _ => ⟨rfl, rfl, rfl⟩, fun b hb => absurd hb (h b)⟩
  unfold readD
  by_cases h1 : p.length < 12
  · rw [if_pos h1]
    refine bad _ (by unfold fellD; rw [if_pos h1]) fun b hb => ?_
    have := (good_parts hb).2.1
    omega
  rw [if_neg h1]
  by_cases h2 : 4096 < lenD p + 12
  · rw [if_pos h2]
    refine bad _ (by unfold fellD; rw [if_neg h1, if_pos h2]) fun b hb => ?_
    have := (good_parts hb).2.2.1
    omega
  rw [if_neg h2]
  have hf : fellD p = 12 := by unfold fellD; rw [if_neg h1, if_neg h2]
  by_cases h3 : p.length < lenD p + 12
  · rw [if_pos h3]
    refine bad _ (by rw [hf]) fun b hb => ?_
    have := (good_parts hb).2.2.2.1
    omega
  rw [if_neg h3]
  by_cases h4 : okB ((p.drop 12).take (lenD p)) = false
  · rw [if_pos h4]
    refine bad _ (by rw [hf]) fun b hb => ?_
    have := (good_open hb).1
    rw [this] at h4
    cases h4
  rw [if_neg h4]
  split
  · rename_i h5
    obtain ⟨h6, h7, h8⟩ := h5
    have hall : AllB (((p.drop 12).take (lenD p)).drop 4) := drop_all (take_all (drop_all hp 12) _) 4
    have hg : Good p ((innerD (((p.drop 12).take (lenD p)).drop 4)).1.at (backB p).1) := ⟨h7, at_wf (inner_wf hall) (back_in hp), by rw [h8]; exact List.take_prefix _ _⟩
    refine ⟨fun _ => ⟨hg, (good_parts hg).1.symm⟩, fun h => absurd rfl h, fun b hb => ⟨rfl, good_one hg hb⟩⟩
  · rename_i h5
    refine bad _ (by rw [hf]) fun b hb => h5 ?_
    obtain ⟨_, g2, g3⟩ := good_open hb
    obtain ⟨_, _, _, _, _, g6, g7⟩ := good_parts hb
    rw [g2, g3, g7]
    exact ⟨rfl, hb.right, g6.symm⟩
theorem readD_of {p : List Nat} (hp : AllB p) {o : Out} (h : Reads p o) : o = readD p := reads_one h (reads_readD hp)
theorem right_few (b : Bat) : rightE b = 0 ∨ rightE b = 12 ∨ rightE b = 13 ∨ rightE b = 18 := by
  unfold rightE
  repeat' split
  all_goals simp
/-- What inner reads has short texts. -/
theorem recsD_short : ∀ (n : Nat) (x : List Nat) (i : Nat) (l : List Rc) (e : Nat), recsD n x i = some (l, e) → l.length = n ∧ ∀ r ∈ l, r.key.size ≤ x.length ∧ r.val.size ≤ x.length
  | 0, x, i, l, e, h => by
    cases h
    exact ⟨rfl, fun r hr => by cases hr⟩
  | n + 1, x, i, l, e, h => by
    have sz : ∀ j, (sb (cutB (x.drop j) (x.length : Int)).1).size ≤ x.length := by
      intro j
      have h1 : (sb (cutB (x.drop j) (x.length : Int)).1).size = (cutB (x.drop j) (x.length : Int)).1.length := by simp [sb, ByteArray.size]
      rw [h1]
      by_cases hc : (VarMath.getB (x.drop j)).2 = 0 ∨ (VarMath.getB (x.drop j)).1 < 0 ∨ (x.length : Int) < (VarMath.getB (x.drop j)).1 ∨ ((x.drop j).length : Int) - ((VarMath.getB (x.drop j)).2 : Int) < (VarMath.getB (x.drop j)).1
      · rw [VarMath.cutB_no hc]; simp
      · rw [VarMath.cutB_yes hc]
        simp only [List.length_take]
        omega
    rcases h1 : cutB (x.drop i) (x.length : Int) with ⟨a, k⟩
    rcases h2 : cutB (x.drop (i + k)) (x.length : Int) with ⟨c, m⟩
    have s1 := sz i
    have s2 := sz (i + k)
    rw [h1] at s1
    rw [h2] at s2
    by_cases hz : k = 0 ∨ m = 0
    · rw [recsD_fell h1 h2 hz] at h
      cases h
    · rw [recsD_step h1 h2 (by omega) (by omega)] at h
      obtain ⟨q, hq, he⟩ := Option.map_eq_some_iff.1 h
      obtain ⟨l', e'⟩ := q
      obtain ⟨i1, i2⟩ := recsD_short n x _ l' e' hq
      simp only [Prod.mk.injEq] at he
      obtain ⟨rfl, rfl⟩ := he
      refine ⟨by rw [List.length_cons, i1], fun r hr => ?_⟩
      rcases List.mem_cons.1 hr with rfl | hr
      · exact ⟨s1, s2⟩
      · exact i2 r hr
theorem inner_short {x : List Nat} {b : Bat} {ok : Bool} (hx : ∀ c ∈ x, c < 256) (h : innerD x = (b, ok)) : b.recs.length ≤ 255 ∧ ∀ r ∈ b.recs, r.key.size ≤ x.length ∧ r.val.size ≤ x.length := by
  have hn := getD_lt hx 19
  unfold innerD at h
  split at h
  · cases h
    exact ⟨by simp [Bat.zero], fun r hr => by cases hr⟩
  · unfold innerOf at h
    split at h
    · cases h
      exact ⟨by simp [Bat.zero], fun r hr => by cases hr⟩
    · rename_i q hq
      cases h
      obtain ⟨h1, h2⟩ := recsD_short _ _ _ _ _ hq
      refine ⟨?_, h2⟩
      show q.1.length ≤ 255
      omega
end Go.BatMath

/-! Plain mathematics of chapters 10 and 14, as the document's own answer has them: what is known of a producer, which batch is taken, what is known behind one, tables, what was aborted; rows that a partition may have. No condition on any program. -/
namespace Go.ProdMath
open Go.SeqMath
open Go.BatMath
set_option linter.unusedVariables false

structure Tr where
  f : Int
  l : Int
  b : Int
structure Pd where
  id : Int
  epoch : Int
  last : List Tr
  opn : Int
def Pd.zero : Pd := ⟨0, 0, [], 0⟩
structure Dr where
  prod : Int
  first : Int
  last : Int
def Dr.zero : Dr := ⟨0, 0, 0⟩
/-- This element is the batch of these numbers. -/
def hitB (x : Tr) (s : Int) (n : Nat) : Bool := decide (x.f = s) && decide (x.l = lastI s n)
def dupL (l : List Tr) (s : Int) (n : Nat) : Option Int := (l.find? fun x => hitB x s n).map (·.b)
theorem dup_none (s : Int) (n : Nat) : dupL [] s n = none := rfl
theorem dup_hit {x : Tr} {l : List Tr} {s : Int} {n : Nat} (h : hitB x s n = true) : dupL (x :: l) s n = some x.b := by simp [dupL, h]
theorem dup_miss {x : Tr} {l : List Tr} {s : Int} {n : Nat} (h : hitB x s n = false) : dupL (x :: l) s n = dupL l s n := by simp [dupL, h]
def lastSeq (l : List Tr) : Int := match l.getLast? with | some x => x.l | none => 0
def checkD (p : Pd) (known : Bool) (b : Bat) : Int × Int :=
  if b.marker ≠ 0 then
    if known = false then (-1, 16) else if b.epoch < p.epoch then (-1, 14) else if p.opn < 0 then (-1, 16) else (-1, 0)
  else if known = false then (-1, 0)
  else if b.epoch < p.epoch then (-1, 14)
  else if p.epoch < b.epoch then
    if 0 ≤ p.opn then (-1, 16) else if b.seq ≠ 0 then (-1, 15) else (-1, 0)
  else match dupL p.last b.seq b.recs.length with
    | some n => (n, 0)
    | none =>
      if p.last ≠ [] ∧ followsB (lastSeq p.last) b.seq = false then (-1, 15)
      else if 0 ≤ p.opn ∧ b.txn = false then (-1, 16) else (-1, 0)
def oldLast (p : Pd) (known : Bool) (b : Bat) : List Tr := if known = true ∧ p.epoch = b.epoch then p.last else []
def oldOpen (p : Pd) (known : Bool) : Int := if known = true then p.opn else -1
def newLast (l : List Tr) (x : Tr) : List Tr := (l ++ [x]).drop (l.length + 1 - 5)
def applyD (p : Pd) (known : Bool) (b : Bat) : Pd :=
  if b.marker ≠ 0 then ⟨b.prod, b.epoch, oldLast p known b, -1⟩
  else ⟨b.prod, b.epoch, newLast (oldLast p known b) ⟨b.seq, lastI b.seq b.recs.length, b.base⟩, if b.txn = true ∧ oldOpen p known < 0 then b.base else oldOpen p known⟩
/-! tables -/
def atD : List Pd → Int → Nat
  | [], _ => 0
  | p :: l, id => if p.id < id then atD l id + 1 else 0
theorem atD_le : ∀ (l : List Pd) (id : Int), atD l id ≤ l.length
  | [], _ => Nat.le_refl _
  | p :: l, id => by
    unfold atD
    split
    · have := atD_le l id; simp; omega
    · exact Nat.zero_le _
theorem atD_step : ∀ (l : List Pd) (id : Int) (i : Nat) (p : Pd), i ≤ atD l id → l[i]? = some p → (p.id < id ↔ i + 1 ≤ atD l id)
  | q :: l, id, 0, p, _, h => by
    cases h
    unfold atD
    split <;> simp_all
  | q :: l, id, i + 1, p, hi, h => by
    unfold atD at hi ⊢
    split at hi
    · rename_i hq
      rw [if_pos hq]
      have := atD_step l id i p (by omega) h
      omega
    · omega
  | [], id, i, p, _, h => by cases h
def hasD (l : List Pd) (id : Int) : Bool := match l[atD l id]? with | some p => decide (p.id = id) | none => false
def getD (l : List Pd) (id : Int) : Pd := if hasD l id = true then (match l[atD l id]? with | some p => p | none => Pd.zero) else Pd.zero
noncomputable def tcheckD (l : List Pd) (b : Bat) : Int × Int :=
  if rightE b ≠ 0 then (-1, rightE b) else if b.prod < 0 then (-1, 0) else checkD (getD l b.prod) (hasD l b.prod) b
noncomputable def tapplyD (l : List Pd) (b : Bat) : List Pd :=
  if rightE b ≠ 0 ∨ b.prod < 0 then l
  else if hasD l b.prod = true then l.set (atD l b.prod) (applyD (getD l b.prod) true b)
  else l.take (atD l b.prod) ++ applyD Pd.zero false b :: l.drop (atD l b.prod)
def dropsB (l : List Pd) (b : Bat) : Bool := hasD l b.prod && (decide (b.marker = 2) && decide (0 ≤ (getD l b.prod).opn))
noncomputable def tdropD (l : List Pd) (b : Bat) : Option Dr :=
  if rightE b ≠ 0 ∨ b.prod < 0 then none
  else if dropsB l b = true then some ⟨b.prod, (getD l b.prod).opn, b.base⟩ else none
noncomputable def foldP : List Pd → List Bat → List Pd
  | l, [] => l
  | l, b :: bs => foldP (tapplyD l b) bs
noncomputable def foldR : List Pd → List Bat → List Dr
  | _, [] => []
  | l, b :: bs => (tdropD l b).toList ++ foldR (tapplyD l b) bs
theorem foldP_snoc : ∀ (l : List Pd) (bs : List Bat) (b : Bat), foldP l (bs ++ [b]) = tapplyD (foldP l bs) b
  | l, [], b => rfl
  | l, a :: bs, b => foldP_snoc (tapplyD l a) bs b
theorem foldR_snoc : ∀ (l : List Pd) (bs : List Bat) (b : Bat), foldR l (bs ++ [b]) = foldR l bs ++ (tdropD (foldP l bs) b).toList
  | l, [], b => by simp [foldR, foldP]
  | l, a :: bs, b => by
    show (tdropD l a).toList ++ foldR (tapplyD l a) (bs ++ [b]) = _
    rw [foldR_snoc (tapplyD l a) bs b, ← List.append_assoc]; rfl
/-! rows -/
def countD (b : Bat) : Int := if b.marker ≠ 0 then 1 else (b.recs.length : Int)
def endD (start : Int) (l : List Bat) : Int := match l.getLast? with | some b => b.base + countD b | none => start
noncomputable def bytesD : List Bat → Int
  | [] => 0
  | b :: l => sizeB b + bytesD l
/-- Its lengths are such that nothing is too long. -/
def fewP (l : List Pd) : Prop := ∀ p ∈ l, p.last.length ≤ 5
theorem newLast_few (l : List Tr) (x : Tr) : (newLast l x).length ≤ 5 := by unfold newLast; rw [List.length_drop, List.length_append]; simp; omega
theorem get_few {l : List Pd} (h : fewP l) (id : Int) : (getD l id).last.length ≤ 5 := by
  unfold getD
  split
  · split
    · rename_i p hp; exact h p (List.mem_of_getElem? hp)
    · exact Nat.zero_le _
  · exact Nat.zero_le _
theorem apply_few {p : Pd} (h : p.last.length ≤ 5) (k : Bool) (b : Bat) : (applyD p k b).last.length ≤ 5 := by
  unfold applyD
  split
  · unfold oldLast; split
    · exact h
    · exact Nat.zero_le _
  · exact newLast_few _ _
theorem tapply_few {l : List Pd} (h : fewP l) (b : Bat) : fewP (tapplyD l b) := by
  unfold tapplyD
  split
  · exact h
  · split
    · intro p hp
      rcases List.mem_or_eq_of_mem_set hp with h1 | h1
      · exact h p h1
      · rw [h1]; exact apply_few (get_few h _) _ _
    · intro p hp
      rcases List.mem_append.1 hp with h1 | h1
      · exact h p (List.mem_of_mem_take h1)
      · rcases List.mem_cons.1 h1 with h1 | h1
        · rw [h1]; exact apply_few (Nat.zero_le _) _ _
        · exact h p (List.mem_of_mem_drop h1)
theorem foldP_few : ∀ {l : List Pd} (bs : List Bat), fewP l → fewP (foldP l bs)
  | l, [], h => h
  | l, b :: bs, h => foldP_few bs (tapply_few h b)
theorem tapply_len (l : List Pd) (b : Bat) : (tapplyD l b).length ≤ l.length + 1 := by
  unfold tapplyD
  split
  · omega
  · split
    · simp
    · simp; have := atD_le l b.prod; omega
theorem foldP_len : ∀ (l : List Pd) (bs : List Bat), (foldP l bs).length ≤ l.length + bs.length
  | l, [] => by simp [foldP]
  | l, b :: bs => by
    have h1 := foldP_len (tapplyD l b) bs
    have h2 := tapply_len l b
    show (foldP (tapplyD l b) bs).length ≤ _
    simp; omega
end Go.ProdMath

/-! Plain mathematics of a log without files, as the document's own answer has it: what put, Produce, Mark make of a row. No condition on any program. -/
namespace Go.ProdMath
open Go.SeqMath
open Go.BatMath
set_option linter.unusedVariables false

/-- All batches are right. -/
def RowOk (bs : List Bat) : Prop := ∀ b ∈ bs, rightE b = 0 ∧ b.wf
theorem size_bd (b : Bat) : 0 ≤ sizeB b ∧ sizeB b ≤ 2404 := by
  unfold sizeB
  split
  · rename_i h
    have := ok_len (ok_of h)
    omega
  · omega
theorem bytesD_snoc : ∀ (l : List Bat) (b : Bat), bytesD (l ++ [b]) = bytesD l + sizeB b
  | [], b => by simp [bytesD]
  | a :: l, b => by
    have := bytesD_snoc l b
    show sizeB a + bytesD (l ++ [b]) = sizeB a + bytesD l + sizeB b
    omega
theorem bytesD_bd : ∀ (l : List Bat), 0 ≤ bytesD l ∧ bytesD l ≤ 2404 * (l.length : Int)
  | [] => by simp [bytesD]
  | a :: l => by
    have h1 := bytesD_bd l
    have h2 := size_bd a
    show 0 ≤ sizeB a + bytesD l ∧ sizeB a + bytesD l ≤ _
    rw [List.length_cons]
    omega
noncomputable def putD (cap start : Int) (bs : List Bat) (b : Bat) : (Int × Int) × List Bat :=
  if (tcheckD (foldP [] bs) b).2 ≠ 0 then ((-1, (tcheckD (foldP [] bs) b).2), bs)
  else if 0 ≤ (tcheckD (foldP [] bs) b).1 then (((tcheckD (foldP [] bs) b).1, 0), bs)
  else if cap < bytesD bs + sizeB b then ((-1, 17), bs)
  else if 1099511627776 < endD start bs + countD b then ((-1, 18), bs)
  else ((b.base, 0), bs ++ [b])
noncomputable def produceD (cap start : Int) (bs : List Bat) (b : Bat) : (Int × Int) × List Bat :=
  if rightE (b.at (endD start bs)) ≠ 0 then ((-1, rightE (b.at (endD start bs))), bs)
  else if b.marker ≠ 0 then ((-1, 16), bs)
  else putD cap start bs (b.at (endD start bs))
noncomputable def markD (cap start : Int) (bs : List Bat) (p e m : Int) : (Int × Int) × List Bat :=
  if m = 0 then ((-1, 12), bs) else putD cap start bs ⟨endD start bs, p, e, -1, true, m, []⟩
theorem tcheck_right {l : List Pd} {b : Bat} (h : (tcheckD l b).2 = 0) : rightE b = 0 := by
  unfold tcheckD at h
  split at h
  · simp only at h; assumption
  · rename_i h1; exact Classical.byContradiction fun h2 => h1 h2
/-- A row that a partition may have. -/
inductive RowD (start : Int) : List Bat → Prop
  | nil : RowD start []
  | snoc {l : List Bat} {b : Bat} : RowD start l → b.base = endD start l → b.wf → (tcheckD (foldP [] l) b).2 = 0 → (tcheckD (foldP [] l) b).1 < 0 → endD start l + countD b ≤ 1099511627776 → RowD start (l ++ [b])
theorem rowD_ok {start : Int} {bs : List Bat} (h : RowD start bs) : RowOk bs := by
  induction h with
  | nil => intro b hb; cases hb
  | snoc _ _ h2 h1 _ _ ih =>
    intro b hb
    rcases List.mem_append.1 hb with h3 | h3
    · exact ih b h3
    · rw [List.mem_singleton.1 h3]; exact ⟨tcheck_right h1, h2⟩
theorem end_nil (start : Int) : endD start [] = start := rfl
theorem end_last {start : Int} {bs : List Bat} {b : Bat} (h : bs.getLast? = some b) : endD start bs = b.base + countD b := by unfold endD; rw [h]
theorem rowD_end {start : Int} {bs : List Bat} (h : RowD start bs) (h0 : 0 ≤ start) (h1 : start ≤ 1099511627776) : 0 ≤ endD start bs ∧ endD start bs ≤ 1099511627776 := by
  cases h with
  | nil => exact ⟨h0, h1⟩
  | @snoc l b h2 hb hw hr hc he =>
    rw [end_last (b := b) (by simp), hb]
    have := ok_of (tcheck_right hr)
    have h3 := this.base0
    have h4 : 0 ≤ countD b := by unfold countD; split <;> omega
    omega
end Go.ProdMath

/-! Chapter 8, plain: batches that were added, the entries that they get, where an offset is looked for, bytes. -/
namespace Go.IxMath
open Go.VarMath
set_option linter.unusedVariables false

structure En where
  off : Int
  pos : Int
structure Ba where
  off : Int
  pos : Int
  fin : Int
def wantE (every : Int) (l : List En) (p : Int) : Bool := match l.getLast? with
  | none => true
  | some e => decide (every ≤ p - e.pos)
def stepE (every : Int) (l : List En) (b : Ba) : List En := if wantE every l b.pos then l ++ [⟨b.off, b.pos⟩] else l
def ents (every : Int) (bs : List Ba) : List En := bs.foldl (stepE every) []
def lastO (bs : List Ba) : Int := match bs.getLast? with
  | none => -1
  | some b => b.off
def lastF (bs : List Ba) : Int := match bs.getLast? with
  | none => 0
  | some b => b.fin
def badA (base : Int) (bs : List Ba) (off pos size : Int) : Bool := decide (off < base ∨ off ≤ lastO bs ∨ pos < 0 ∨ pos < lastF bs ∨ size < 1)
def addA (base : Int) (bs : List Ba) (off pos size : Int) : List Ba := if badA base bs off pos size then bs else bs ++ [⟨off, pos, pos + size⟩]
def bytesE (base : Int) (l : List En) : List Nat := l.flatMap fun e => longB (e.off - base) ++ longB e.pos

theorem ents_snoc (every : Int) (bs : List Ba) (b : Ba) : ents every (bs ++ [b]) = stepE every (ents every bs) b := by
  unfold ents
  rw [List.foldl_append]
  rfl
theorem lastO_snoc (bs : List Ba) (b : Ba) : lastO (bs ++ [b]) = b.off := by simp [lastO]
theorem lastF_snoc (bs : List Ba) (b : Ba) : lastF (bs ++ [b]) = b.fin := by simp [lastF]
/-- Batches that were added, one by one. -/
inductive MadeI (base : Int) : List Ba → Prop
  | nil : MadeI base []
  | snoc {bs : List Ba} {off pos size : Int} : MadeI base bs → badA base bs off pos size = false → MadeI base (bs ++ [⟨off, pos, pos + size⟩])
theorem good_of {base : Int} {bs : List Ba} {off pos size : Int} (h : badA base bs off pos size = false) : base ≤ off ∧ lastO bs < off ∧ 0 ≤ pos ∧ lastF bs ≤ pos ∧ 1 ≤ size := by
  unfold badA at h
  have := of_decide_eq_false h
  omega
theorem made_all {base : Int} {bs : List Ba} (h : MadeI base bs) : ∀ b ∈ bs, base ≤ b.off ∧ b.off ≤ lastO bs ∧ 0 ≤ b.pos ∧ b.pos < b.fin ∧ b.fin ≤ lastF bs := by
  induction h with
  | nil => intro b hb; cases hb
  | @snoc bs off pos size h hb ih =>
    have hg := good_of hb
    intro b hb
    rw [lastO_snoc, lastF_snoc]
    rcases List.mem_append.1 hb with h1 | h1
    · have := ih b h1
      refine ⟨this.1, ?_, this.2.2.1, this.2.2.2.1, ?_⟩
      · show b.off ≤ off; omega
      · show b.fin ≤ pos + size; omega
    · obtain rfl := List.mem_singleton.1 h1
      refine ⟨hg.1, Int.le_refl _, hg.2.2.1, ?_, Int.le_refl _⟩
      show pos < pos + size; omega
theorem mem_stepE {every : Int} {l : List En} {b : Ba} {e : En} (h : e ∈ stepE every l b) : e ∈ l ∨ e = ⟨b.off, b.pos⟩ := by
  unfold stepE at h
  split at h
  · rcases List.mem_append.1 h with h | h
    · exact .inl h
    · exact .inr (List.mem_singleton.1 h)
  · exact .inl h
/-- Each entry is a batch's. -/
theorem ents_mem {every base : Int} {bs : List Ba} (h : MadeI base bs) : ∀ e ∈ ents every bs, ∃ b ∈ bs, e = ⟨b.off, b.pos⟩ := by
  induction h with
  | nil => intro e he; cases he
  | @snoc bs off pos size h hb ih =>
    intro e he
    rw [ents_snoc] at he
    rcases mem_stepE he with h1 | h1
    · obtain ⟨b, hb, hh⟩ := ih e h1
      exact ⟨b, List.mem_append_left _ hb, hh⟩
    · exact ⟨_, List.mem_append_right _ (List.mem_singleton.2 rfl), h1⟩
theorem ents_len (every : Int) (bs : List Ba) : (ents every bs).length ≤ bs.length := by
  rw [← List.reverse_reverse bs]
  induction bs.reverse with
  | nil => exact Nat.le_refl _
  | cons b r ih =>
    rw [List.reverse_cons, ents_snoc, List.length_append]
    unfold stepE
    split
    · rw [List.length_append, List.length_singleton, List.length_singleton]; omega
    · omega
/-- Entries rise, no nearer than 'every' bytes. -/
def Rise (every : Int) (l : List En) : Prop := ∀ (i : Nat) (a b : En), l[i]? = some a → l[i + 1]? = some b → a.off < b.off ∧ every ≤ b.pos - a.pos
end Go.IxMath

/-! Chapter 8, plain: what a binary search finds; what a cut leaves. -/
namespace Go.IxMath
open Go.VarMath
set_option linter.unusedVariables false

end Go.IxMath

/-! Plain mathematics of chapter 9: batches that stand one behind the other at the beginning of bytes; which of them end at or ahead of an offset; where they lie. No condition on any program. -/
namespace Go.SegMath
open Go.ProdMath
open Go.BatMath
open Go.IxMath
set_option linter.unusedVariables false

def flat (l : List Bat) : List Nat := l.flatMap bytesB
theorem flat_nil : flat [] = [] := rfl
theorem flat_cons (b : Bat) (l : List Bat) : flat (b :: l) = bytesB b ++ flat l := rfl
theorem flat_app (l m : List Bat) : flat (l ++ m) = flat l ++ flat m := by simp [flat]
theorem flat_snoc (l : List Bat) (b : Bat) : flat (l ++ [b]) = flat l ++ bytesB b := by simp [flat]
/-- Each begins where the one ahead of it ends. -/
def SeqF (base : Int) : List Bat → Prop
  | [] => True
  | b :: l => b.base = base ∧ SeqF (base + countD b) l
theorem end_cons (base : Int) (b : Bat) (l : List Bat) : endD base (b :: l) = endD (b.base + countD b) l := by
  unfold endD
  cases l with
  | nil => rfl
  | cons c l =>
    obtain ⟨x, hx⟩ : ∃ x, (c :: l).getLast? = some x := ⟨_, List.getLast?_eq_some_getLast (by simp)⟩
    rw [List.getLast?_cons_cons, hx]
theorem seqF_snoc : ∀ (l : List Bat) (base : Int) (b : Bat), SeqF base (l ++ [b]) ↔ SeqF base l ∧ b.base = endD base l
  | [], base, b => by
    show (b.base = base ∧ True) ↔ (True ∧ b.base = base)
    exact ⟨fun h => ⟨trivial, h.1⟩, fun h => ⟨h.2, trivial⟩⟩
  | c :: l, base, b => by
    have := seqF_snoc l (base + countD c) b
    show (c.base = base ∧ SeqF (base + countD c) (l ++ [b])) ↔ ((c.base = base ∧ SeqF (base + countD c) l) ∧ b.base = endD base (c :: l))
    rw [this, end_cons]
    constructor
    · rintro ⟨h1, h2, h3⟩
      exact ⟨⟨h1, h2⟩, by rw [h1]; exact h3⟩
    · rintro ⟨⟨h1, h2⟩, h3⟩
      exact ⟨h1, h2, by rw [h1] at h3; exact h3⟩
theorem rowD_seq {start : Int} {l : List Bat} (h : RowD start l) : SeqF start l := by
  induction h with
  | nil => trivial
  | snoc h hb _ _ _ _ ih => exact (seqF_snoc _ _ _).2 ⟨ih, hb⟩
theorem rowOk_cons {b : Bat} {l : List Bat} (h : RowOk (b :: l)) : (rightE b = 0 ∧ b.wf) ∧ RowOk l := ⟨h b List.mem_cons_self, fun c hc => h c (List.mem_cons_of_mem _ hc)⟩
theorem rowOk_snoc {b : Bat} {l : List Bat} (h : RowOk l) (hb : rightE b = 0 ∧ b.wf) : RowOk (l ++ [b]) := fun c hc => by
  rcases List.mem_append.1 hc with h1 | h1
  · exact h c h1
  · rw [List.mem_singleton.1 h1]; exact hb
theorem rowOk_take {l : List Bat} (h : RowOk l) (m : Nat) : RowOk (l.take m) := fun c hc => h c (List.mem_of_mem_take hc)
theorem good_len {p : List Nat} {b : Bat} (h : Good p b) : 36 ≤ p.length := by
  have h1 := (ok_len (ok_of h.right)).2
  have h2 := h.pre.length_le
  omega
theorem count_pos {b : Bat} (h : rightE b = 0) : 1 ≤ countD b ∧ countD b ≤ 16 := by
  have h16 := (ok_of h).recs
  unfold countD
  split
  · omega
  · rename_i hm
    have hne : b.recs ≠ [] := fun e => by
      unfold rightE at h
      split at h
      · exact absurd h (by decide)
      · rw [if_neg (by rintro ⟨_, h2⟩; exact h2 e)] at h
        exact absurd h (by decide)
    have := List.length_pos_iff.2 hne
    omega
/-- What a scan of p is. -/
structure Scans (base : Int) (p : List Nat) (l : List Bat) : Prop where
  seq : SeqF base l
  ok : RowOk l
  ex : ∃ r, p = flat l ++ r ∧ ∀ b, Good r b → b.base ≠ endD base l
theorem scans_one : ∀ (l m : List Bat) (base : Int) (p : List Nat), Scans base p l → Scans base p m → l = m
  | [], [], _, _, _, _ => rfl
  | [], b :: m, base, p, h, h2 => by
    obtain ⟨r, e, hr⟩ := h.ex
    obtain ⟨r2, e2, _⟩ := h2.ex
    have hb := (rowOk_cons h2.ok).1
    refine absurd h2.seq.1 (hr b ?_)
    rw [flat_nil, List.nil_append] at e
    rw [← e, e2, flat_cons, List.append_assoc]
    exact good_of hb.1 hb.2 _
  | b :: m, [], base, p, h2, h => by
    obtain ⟨r, e, hr⟩ := h.ex
    obtain ⟨r2, e2, _⟩ := h2.ex
    have hb := (rowOk_cons h2.ok).1
    refine absurd h2.seq.1 (hr b ?_)
    rw [flat_nil, List.nil_append] at e
    rw [← e, e2, flat_cons, List.append_assoc]
    exact good_of hb.1 hb.2 _
  | b :: l, c :: m, base, p, h, h2 => by
    obtain ⟨r, e, hr⟩ := h.ex
    obtain ⟨r2, e2, hr2⟩ := h2.ex
    have hb := rowOk_cons h.ok
    have hc := rowOk_cons h2.ok
    have hbc : b = c := by
      refine good_one (p := p) ?_ ?_
      · rw [e, flat_cons, List.append_assoc]; exact good_of hb.1.1 hb.1.2 _
      · rw [e2, flat_cons, List.append_assoc]; exact good_of hc.1.1 hc.1.2 _
    subst hbc
    rw [flat_cons, List.append_assoc] at e e2
    have e3 := List.append_cancel_left (e.symm.trans e2)
    congr 1
    refine scans_one l m (base + countD b) (flat l ++ r) ⟨h.seq.2, hb.2, r, rfl, fun x hx => ?_⟩ ⟨h2.seq.2, hc.2, r2, e3, fun x hx => ?_⟩
    · have := hr x hx
      rw [end_cons, h.seq.1] at this
      exact this
    · have := hr2 x hx
      rw [end_cons, h2.seq.1] at this
      exact this
theorem scans_flat {base : Int} {l : List Bat} (hs : SeqF base l) (ho : RowOk l) (r : List Nat) (hr : r.length < 36) : Scans base (flat l ++ r) l := ⟨hs, ho, r, rfl, fun b hb => by have := good_len hb; omega⟩
theorem scans_all {base : Int} {l : List Bat} (hs : SeqF base l) (ho : RowOk l) : Scans base (flat l) l := by
  have := scans_flat hs ho [] (by decide)
  rwa [List.append_nil] at this
/-- Another base. -/
theorem scans_off {base b2 : Int} {l : List Bat} (hs : SeqF base l) (ho : RowOk l) (h : l = [] ∨ base ≠ b2) : Scans b2 (flat l) [] := by
  refine ⟨trivial, (fun b hb => by cases hb), flat l, rfl, fun b hb e => ?_⟩
  cases l with
  | nil => exact absurd (good_len hb) (by decide)
  | cons c l =>
    have hc := rowOk_cons ho
    have hbc : b = c := good_one hb (by rw [flat_cons]; exact good_of hc.1.1 hc.1.2 _)
    have h1 := hs.1
    rw [hbc] at e
    change c.base = b2 at e
    rcases h with h | h
    · cases h
    · exact h (h1.symm.trans e)
/-- Of bytes that are cut off a beginning is read. -/
theorem scans_pre : ∀ (a l : List Bat) (base : Int) (p : List Nat), SeqF base l → RowOk l → p <+: flat l → Scans base p a → a <+: l
  | [], l, _, _, _, _, _, _ => List.nil_prefix
  | b :: a, [], base, p, hs, ho, hp, ha => by
    obtain ⟨r, e, _⟩ := ha.ex
    have hb := (rowOk_cons ha.ok).1
    have h1 := (ok_len (ok_of hb.1)).2
    have h2 := hp.length_le
    rw [e, flat_cons] at h2
    simp only [List.length_append, flat_nil, List.length_nil] at h2
    omega
  | b :: a, c :: l, base, p, hs, ho, hp, ha => by
    obtain ⟨r, e, hr⟩ := ha.ex
    have hb := rowOk_cons ha.ok
    have hc := rowOk_cons ho
    have hbp : bytesB b <+: flat (c :: l) := by
      refine List.IsPrefix.trans ?_ hp
      rw [e, flat_cons, List.append_assoc]
      exact List.prefix_append _ _
    have hbc : b = c := good_one (p := flat (c :: l)) ⟨hb.1.1, hb.1.2, hbp⟩ (by rw [flat_cons]; exact good_of hc.1.1 hc.1.2 _)
    subst hbc
    refine (List.prefix_cons_inj b).2 (scans_pre a l (base + countD b) (flat a ++ r) hs.2 hc.2 ?_ ⟨ha.seq.2, hb.2, r, rfl, fun x hx => ?_⟩)
    · rw [e, flat_cons, flat_cons, List.append_assoc] at hp
      exact (List.prefix_append_right_inj _).1 hp
    · have := hr x hx
      rw [end_cons, ha.seq.1] at this
      exact this
theorem scans_len {base : Int} {p : List Nat} {l : List Bat} (h : Scans base p l) : (flat l).length ≤ p.length := by
  obtain ⟨r, e, _⟩ := h.ex
  rw [e, List.length_append]
  omega
theorem flat_big : ∀ {l : List Bat}, RowOk l → 36 * l.length ≤ (flat l).length ∧ (flat l).length ≤ 2404 * l.length
  | [], _ => by simp [flat]
  | b :: l, h => by
    have h1 := rowOk_cons h
    have h2 := ok_len (ok_of h1.1.1)
    have h3 := flat_big h1.2
    rw [flat_cons, List.length_append, List.length_cons]
    omega
theorem flat_all : ∀ {l : List Bat}, RowOk l → ∀ x ∈ flat l, x < 256 := fun {l} h x hx => by
  obtain ⟨b, hb, hxb⟩ := List.mem_flatMap.1 hx
  exact bytes_all (ok_of (h b hb).1) x hxb
/-- Where a batch ends. -/
def endB (b : Bat) : Int := b.base + countD b
theorem ends_up : ∀ (l : List Bat) (base : Int), SeqF base l → RowOk l → ∀ b ∈ l, base < endB b
  | [], _, _, _, b, hb => by cases hb
  | c :: l, base, hs, ho, b, hb => by
    have hc := rowOk_cons ho
    have hp := (count_pos hc.1.1).1
    rcases List.mem_cons.1 hb with h1 | h1
    · subst h1
      have := hs.1
      unfold endB
      omega
    · have := ends_up l (base + countD c) hs.2 hc.2 b h1
      omega
/-- Those that end at or ahead of o are the first ones. -/
theorem cut_at : ∀ (l : List Bat) (base o : Int), SeqF base l → RowOk l → ∃ m, m ≤ l.length ∧ l.filter (fun b => decide (endB b ≤ o)) = l.take m ∧ l.filter (fun b => decide (o < endB b)) = l.drop m
  | [], _, _, _, _ => ⟨0, Nat.le_refl _, rfl, rfl⟩
  | c :: l, base, o, hs, ho => by
    have hc := rowOk_cons ho
    by_cases h : endB c ≤ o
    · obtain ⟨m, h0, h1, h2⟩ := cut_at l (base + countD c) o hs.2 hc.2
      refine ⟨m + 1, by rw [List.length_cons]; omega, ?_, ?_⟩
      · rw [List.filter_cons_of_pos (by simpa using h), h1, List.take_succ_cons]
      · rw [List.filter_cons_of_neg (by simp; omega), h2, List.drop_succ_cons]
    · have hall : ∀ b ∈ c :: l, o < endB b := by
        intro b hb
        rcases List.mem_cons.1 hb with h1 | h1
        · rw [h1]; omega
        · have h2 := ends_up l (base + countD c) hs.2 hc.2 b h1
          have h3 : endB c = base + countD c := by unfold endB; rw [hs.1]
          omega
      refine ⟨0, Nat.zero_le _, ?_, ?_⟩
      · rw [List.take_zero, List.filter_eq_nil_iff]
        intro b hb
        have := hall b hb
        simp only [decide_eq_true_eq]
        omega
      · rw [List.drop_zero, List.filter_eq_self]
        intro b hb
        exact decide_eq_true (hall b hb)
theorem seqF_take : ∀ (l : List Bat) (base : Int) (m : Nat), SeqF base l → SeqF base (l.take m)
  | [], base, m, h => by rw [List.take_nil]; trivial
  | b :: l, base, 0, h => trivial
  | b :: l, base, m + 1, h => ⟨h.1, seqF_take l _ m h.2⟩
theorem flat_take (l : List Bat) (m : Nat) : (flat l).take (flat (l.take m)).length = flat (l.take m) := by
  have e := flat_app (l.take m) (l.drop m)
  rw [List.take_append_drop] at e
  rw [e, List.take_left' rfl]
/-- Where they lie. -/
def places : Nat → List Bat → List Ba
  | _, [] => []
  | k, b :: l => ⟨b.base, k, k + (bytesB b).length⟩ :: places (k + (bytesB b).length) l
theorem places_snoc : ∀ (l : List Bat) (k : Nat) (b : Bat), places k (l ++ [b]) = places k l ++ [⟨b.base, (k + (flat l).length : Nat), ((k + (flat l).length : Nat) : Int) + (bytesB b).length⟩]
  | [], k, b => by simp [places, flat]
  | c :: l, k, b => by
    show (⟨c.base, k, k + (bytesB c).length⟩ : Ba) :: places (k + (bytesB c).length) (l ++ [b]) = _
    rw [places_snoc l, flat_cons, List.length_append, ← Nat.add_assoc]
    rfl
theorem places_len : ∀ (l : List Bat) (k : Nat), (places k l).length = l.length
  | [], _ => rfl
  | b :: l, k => by
    show (places _ l).length + 1 = _
    rw [places_len l, List.length_cons]
theorem filter_snoc {α : Type} (f : α → Bool) (l : List α) (x : α) : (l ++ [x]).filter f = if f x = true then l.filter f ++ [x] else l.filter f := by
  rw [List.filter_append]
  cases h : f x
  · rw [List.filter_cons_of_neg (by rw [h]; decide)]; simp
  · rw [List.filter_cons_of_pos h]; simp
theorem places_in : ∀ (l : List Bat) (k : Nat), RowOk l → ∀ x ∈ places k l, x.off ≤ 1099511627776 ∧ x.fin ≤ ((k + (flat l).length : Nat) : Int)
  | [], k, _, x, hx => by cases hx
  | b :: l, k, h, x, hx => by
    have hb := rowOk_cons h
    rcases List.mem_cons.1 hx with h1 | h1
    · rw [h1, flat_cons, List.length_append]
      refine ⟨(ok_of hb.1.1).base1, ?_⟩
      show ((k : Nat) : Int) + ((bytesB b).length : Nat) ≤ _
      omega
    · have h2 := places_in l (k + (bytesB b).length) hb.2 x h1
      rw [flat_cons, List.length_append]
      refine ⟨h2.1, ?_⟩
      have := h2.2
      omega
theorem rev_ind {P : List Bat → Prop} (h0 : P []) (h1 : ∀ l b, P l → P (l ++ [b])) : ∀ l, P l := by
  intro l
  rw [← List.reverse_reverse l]
  induction l.reverse with
  | nil => exact h0
  | cons b r ih => rw [List.reverse_cons]; exact h1 _ _ ih
theorem places_last (l : List Bat) : ∀ base : Int, SeqF base l → RowOk l → 0 ≤ base → lastO (places 0 l) < endD base l ∧ lastF (places 0 l) = ((flat l).length : Nat) := by
  refine rev_ind (P := fun l => ∀ base : Int, SeqF base l → RowOk l → 0 ≤ base → lastO (places 0 l) < endD base l ∧ lastF (places 0 l) = ((flat l).length : Nat)) ?_ ?_ l
  · intro base _ _ h0
    exact ⟨by show (-1 : Int) < base; omega, rfl⟩
  · intro l b ih base hs ho h0
    obtain ⟨h1, h2⟩ := (seqF_snoc _ _ _).1 hs
    have hb := ho b (by simp)
    have hp := (count_pos hb.1).1
    rw [places_snoc, lastO_snoc, lastF_snoc, flat_snoc, List.length_append]
    refine ⟨?_, ?_⟩
    · rw [end_last (b := b) (by simp)]
      show b.base < b.base + countD b
      omega
    · show ((0 + (flat l).length : Nat) : Int) + ((bytesB b).length : Int) = _
      omega
theorem end_ge (l : List Bat) : ∀ base : Int, SeqF base l → RowOk l → base ≤ endD base l := by
  refine rev_ind (P := fun l => ∀ base : Int, SeqF base l → RowOk l → base ≤ endD base l) ?_ ?_ l
  · intro base _ _
    exact Int.le_refl _
  · intro l b ih base hs ho
    obtain ⟨h1, h2⟩ := (seqF_snoc _ _ _).1 hs
    have hb := ho b (by simp)
    have hp := (count_pos hb.1).1
    have := ih base h1 (fun c hc => ho c (List.mem_append_left _ hc))
    rw [end_last (b := b) (by simp), h2]
    omega
/-- The next one may stand there. -/
theorem places_ok {base : Int} {l : List Bat} {b : Bat} (hs : SeqF base l) (ho : RowOk l) (h0 : 0 ≤ base) (hb : rightE b = 0) (he : b.base = endD base l) : badA base (places 0 l) b.base ((flat l).length : Nat) (bytesB b).length = false := by
  obtain ⟨h1, h2⟩ := places_last l base hs ho h0
  have h3 := end_ge l base hs ho
  have h4 := (ok_len (ok_of hb)).2
  unfold badA
  rw [h2]
  exact decide_eq_false (by omega)
/-- With an entry every byte each batch has one. -/
theorem ents_each {base : Int} {bs : List Ba} (h : MadeI base bs) : ents 1 bs = bs.map fun b => ⟨b.off, b.pos⟩ := by
  induction h with
  | nil => rfl
  | @snoc bs off pos size h hb ih =>
    have hg := good_of hb
    rw [ents_snoc, ih, List.map_append]
    unfold stepE
    rw [if_pos]
    · rfl
    · unfold wantE
      rw [List.getLast?_map]
      cases hl : bs.getLast? with
      | none => rfl
      | some x =>
        have h1 := made_all h x (List.mem_of_getLast? hl)
        refine decide_eq_true ?_
        show (1 : Int) ≤ pos - x.pos
        omega
end Go.SegMath
