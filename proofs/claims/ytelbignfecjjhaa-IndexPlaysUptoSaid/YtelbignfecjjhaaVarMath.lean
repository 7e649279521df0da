/- Plain mathematics of chapter 2's numbers and texts as bytes: groups of seven bits, what a row of bytes begins with, eight bytes of a number. No condition on any program. -/
namespace Go.VarMath

abbrev AllB (bs : List Nat) : Prop := ∀ x ∈ bs, x < 256
def two64 : Nat := 18446744073709551616
theorem two64_val : two64 = 18446744073709551616 := rfl
def zig (n : Int) : Nat := if 0 ≤ n then 2 * n.toNat else 2 * (-n).toNat - 1
def zag (u : Nat) : Int := if u % 2 = 0 then ((u / 2 : Nat) : Int) else -((u / 2 : Nat) : Int) - 1
theorem zag_zig (n : Int) : zag (zig n) = n := by
  unfold zig zag
  by_cases h : 0 ≤ n
  · rw [if_pos h, if_pos (by omega)]; omega
  · rw [if_neg h, if_neg (by omega)]; omega
theorem zig_zag (u : Nat) : zig (zag u) = u := by
  unfold zig zag
  by_cases h : u % 2 = 0
  · rw [if_pos h, if_pos (by omega)]; omega
  · rw [if_neg h, if_neg (by omega)]; omega
theorem zig_lt {n : Int} (h0 : -9223372036854775808 ≤ n) (h1 : n ≤ 9223372036854775807) : zig n < 18446744073709551616 := by
  unfold zig; split <;> omega
theorem zag_in {u : Nat} (h : u < 18446744073709551616) : -9223372036854775808 ≤ zag u ∧ zag u ≤ 9223372036854775807 := by
  unfold zag; split <;> omega
theorem zig_nonneg {n : Int} (h : 0 ≤ n) : (zig n : Int) = 2 * n := by unfold zig; rw [if_pos h]; omega
theorem zig_neg {n : Int} (h : n < 0) : (zig n : Int) = -2 * n - 1 := by unfold zig; rw [if_neg (by omega)]; omega
theorem zig_nat (k : Nat) : zig (k : Int) = 2 * k := by unfold zig; rw [if_pos (by omega)]; omega
theorem zig_small {n : Int} : zig n < 128 ↔ (-64 ≤ n ∧ n < 64) := by unfold zig; split <;> omega

/-- Groups of seven bits, no more than f + 1 of them. -/
def gr : Nat → Nat → List Nat
  | 0, u => [u]
  | f + 1, u => if u < 128 then [u] else (u % 128 + 128) :: gr f (u / 128)
def encU (u : Nat) : List Nat := gr 9 u
def encN (n : Int) : List Nat := encU (zig n)
def val : List Nat → Nat
  | [] => 0
  | b :: r => b % 128 + 128 * val r
def AllHi (p : List Nat) : Prop := ∀ x ∈ p, 128 ≤ x ∧ x < 256
theorem AllHi.nil : AllHi [] := fun x h => by cases h
theorem AllHi.cons {b : Nat} {p : List Nat} (hb : 128 ≤ b ∧ b < 256) (hp : AllHi p) : AllHi (b :: p) := by
  intro x hx
  rcases List.mem_cons.1 hx with h | h
  · rw [h]; exact hb
  · exact hp x h
theorem AllHi.snoc {b : Nat} {p : List Nat} (hp : AllHi p) (hb : 128 ≤ b ∧ b < 256) : AllHi (p ++ [b]) := by
  intro x hx
  rcases List.mem_append.1 hx with h | h
  · exact hp x h
  · simp at h; rw [h]; exact hb
theorem AllHi.all {p : List Nat} (hp : AllHi p) : AllB p := fun x hx => (hp x hx).2
theorem gr_small (f u : Nat) (h : u < 128) : gr f u = [u] := by
  cases f with
  | zero => rfl
  | succ f => simp [gr, h]
theorem gr_big (f u : Nat) (h : ¬ u < 128) : gr (f + 1) u = (u % 128 + 128) :: gr f (u / 128) := by simp [gr, h]
theorem gr_shape : ∀ f u, u < 128 ^ (f + 1) → ∃ p x, gr f u = p ++ [x] ∧ AllHi p ∧ x < 128 ∧ p.length ≤ f ∧ (x = 0 → p = [] ∧ u = 0)
  | 0, u, h => ⟨[], u, rfl, AllHi.nil, by simpa using h, by simp, fun h => ⟨rfl, h⟩⟩
  | f + 1, u, h => by
    by_cases hu : u < 128
    · exact ⟨[], u, by rw [gr_small _ _ hu]; rfl, AllHi.nil, hu, by simp, fun h => ⟨rfl, h⟩⟩
    · have h2 : u / 128 < 128 ^ (f + 1) := by
        rw [Nat.div_lt_iff_lt_mul (by omega)]
        rwa [← Nat.pow_succ]
      obtain ⟨p, x, e, hp, hx, hl, hz⟩ := gr_shape f (u / 128) h2
      refine ⟨(u % 128 + 128) :: p, x, by rw [gr_big _ _ hu, e]; rfl, AllHi.cons (by omega) hp, hx, by simp; omega, fun h0 => ?_⟩
      have := (hz h0).2
      omega
theorem val_gr : ∀ f u, u < 128 ^ (f + 1) → val (gr f u) = u
  | 0, u, h => by
    have : u < 128 := by simpa using h
    simp [gr, val]; omega
  | f + 1, u, h => by
    by_cases hu : u < 128
    · rw [gr_small _ _ hu]; simp [val]; omega
    · have h2 : u / 128 < 128 ^ (f + 1) := by
        rw [Nat.div_lt_iff_lt_mul (by omega)]
        rwa [← Nat.pow_succ]
      rw [gr_big _ _ hu]
      simp only [val]
      rw [val_gr f _ h2]
      omega
theorem pow10 : (128 : Nat) ^ (9 + 1) = 1180591620717411303424 := by decide
theorem lt10 {u : Nat} (h : u < 18446744073709551616) : u < 128 ^ (9 + 1) := by rw [pow10]; omega
theorem val_enc {u : Nat} (h : u < 18446744073709551616) : val (encU u) = u := val_gr 9 u (lt10 h)
theorem enc_shape {u : Nat} (h : u < 18446744073709551616) : ∃ p x, encU u = p ++ [x] ∧ AllHi p ∧ x < 128 ∧ p.length ≤ 9 ∧ (x = 0 → p = [] ∧ u = 0) := gr_shape 9 u (lt10 h)
theorem enc_all {u : Nat} (h : u < 18446744073709551616) : AllB (encU u) := by
  obtain ⟨p, x, e, hp, hx, _, _⟩ := enc_shape h
  rw [e]
  intro y hy
  rcases List.mem_append.1 hy with h | h
  · exact (hp y h).2
  · simp at h; omega
theorem enc_len {u : Nat} (h : u < 18446744073709551616) : 1 ≤ (encU u).length ∧ (encU u).length ≤ 10 := by
  obtain ⟨p, x, e, hp, hx, hl, _⟩ := enc_shape h
  rw [e, List.length_append]
  simp; omega
theorem enc_one (u : Nat) : (encU u).length = 1 ↔ u < 128 := by
  unfold encU
  constructor
  · intro h
    by_cases hu : u < 128
    · exact hu
    · rw [gr_big _ _ hu] at h
      simp only [List.length_cons] at h
      by_cases h2 : u / 128 < 128
      · rw [gr_small _ _ h2] at h; simp at h
      · rw [gr_big _ _ h2] at h; simp at h
  · intro h; rw [gr_small _ _ h]; rfl

/-- The bytes up to and with the first one that no other follows, among the first f. -/
def scan : Nat → List Nat → Option (List Nat)
  | 0, _ => none
  | _ + 1, [] => none
  | f + 1, b :: r => if b < 128 then some [b] else (scan f r).map (b :: ·)
theorem scan_hi : ∀ (p : List Nat) (f : Nat) (r : List Nat), AllHi p → p.length ≤ f → scan f (p ++ r) = (scan (f - p.length) r).map (p ++ ·)
  | [], f, r, _, _ => by
    rw [List.nil_append]
    have : (fun l : List Nat => [] ++ l) = id := by funext l; rfl
    rw [this, Option.map_id]; rfl
  | b :: p, 0, r, _, h => by simp at h
  | b :: p, f + 1, r, hp, h => by
    have hb := hp b (by simp)
    have ih := scan_hi p f r (fun x hx => hp x (by simp [hx])) (by simpa using h)
    show (if b < 128 then some [b] else (scan f (p ++ r)).map (b :: ·)) = _
    rw [if_neg (by omega), ih, Option.map_map, List.length_cons, Nat.add_sub_add_right]
    rfl
theorem scan_end {p : List Nat} {x : Nat} {f : Nat} (hp : AllHi p) (hx : x < 128) (hf : p.length < f) (r : List Nat) : scan f (p ++ x :: r) = some (p ++ [x]) := by
  rw [scan_hi p f _ hp (by omega)]
  obtain ⟨k, hk⟩ : ∃ k, f - p.length = k + 1 := ⟨f - p.length - 1, by omega⟩
  rw [hk]
  simp [scan, hx]
theorem scan_all {p : List Nat} {f : Nat} (hp : AllHi p) (hf : p.length ≤ f) : scan f p = none := by
  have := scan_hi p f [] hp hf
  rw [List.append_nil] at this
  rw [this]
  cases f - p.length <;> rfl
theorem scan_full {p : List Nat} (hp : AllHi p) (r : List Nat) : scan p.length (p ++ r) = none := by
  rw [scan_hi p _ _ hp (Nat.le_refl _), Nat.sub_self]; rfl

/-- What a row of bytes begins with: the number, and how many bytes it takes; 0, 0 if none. -/
def getB (bs : List Nat) : Int × Nat := match scan 10 bs with
  | none => (0, 0)
  | some l => if encU (val l % two64) = l then (zag (val l % two64), l.length) else (0, 0)
theorem getB_none {bs : List Nat} (h : scan 10 bs = none) : getB bs = (0, 0) := by unfold getB; rw [h]
theorem getB_some {bs l : List Nat} (h : scan 10 bs = some l) : getB bs = if encU (val l % two64) = l then (zag (val l % two64), l.length) else (0, 0) := by unfold getB; rw [h]
theorem scan_enc {u : Nat} (h : u < 18446744073709551616) (r : List Nat) : scan 10 (encU u ++ r) = some (encU u) := by
  obtain ⟨p, x, e, hp, hx, hl, _⟩ := enc_shape h
  rw [e, List.append_assoc]
  exact scan_end hp hx (by omega) r
theorem getB_enc {u : Nat} (h : u < 18446744073709551616) (r : List Nat) : getB (encU u ++ r) = (zag u, (encU u).length) := by
  rw [getB_some (scan_enc h r), val_enc h]
  have e : u % two64 = u := Nat.mod_eq_of_lt h
  rw [e, if_pos rfl]
theorem getB_encN {n : Int} (h0 : -9223372036854775808 ≤ n) (h1 : n ≤ 9223372036854775807) (r : List Nat) : getB (encN n ++ r) = (n, (encN n).length) := by
  unfold encN
  rw [getB_enc (zig_lt h0 h1), zag_zig]
/-- A shorter row is none. -/
theorem getB_short {u : Nat} (h : u < 18446744073709551616) (k : Nat) (hk : k < (encU u).length) : getB ((encU u).take k) = (0, 0) := by
  obtain ⟨p, x, e, hp, hx, hl, _⟩ := enc_shape h
  have hk2 : k ≤ p.length := by rw [e] at hk; simp at hk; omega
  rw [e, List.take_append_of_le_length hk2]
  exact getB_none (scan_all (fun y hy => hp y (List.mem_of_mem_take hy)) (by rw [List.length_take]; omega))
theorem getB_nil : getB [] = (0, 0) := rfl
theorem val_snoc : ∀ (p : List Nat) (x : Nat), val (p ++ [x]) = val p + 128 ^ p.length * (x % 128)
  | [], x => by simp [val]
  | b :: p, x => by
    rw [List.cons_append, val, val, val_snoc p x, List.length_cons, Nat.pow_succ, Nat.mul_add, Nat.mul_comm (128 ^ p.length) 128, Nat.mul_assoc]
    omega
theorem val_lt : ∀ p : List Nat, val p < 128 ^ p.length
  | [] => by simp [val]
  | b :: p => by
    have := val_lt p
    rw [val, List.length_cons, Nat.pow_succ]
    omega
theorem gr_val : ∀ (p : List Nat) (x f : Nat), AllHi p → x < 128 → (x = 0 → p = []) → p.length ≤ f → gr f (val (p ++ [x])) = p ++ [x]
  | [], x, f, _, hx, _, _ => by
    rw [List.nil_append]
    have : val [x] = x := by simp [val]; omega
    rw [this, gr_small _ _ hx]
  | b :: p, x, 0, _, _, _, h => by simp at h
  | b :: p, x, f + 1, hp, hx, hz, h => by
    have hb := hp b (by simp)
    have hx0 : x ≠ 0 := fun h0 => by have := hz h0; simp at this
    have ih := gr_val p x f (fun y hy => hp y (by simp [hy])) hx (fun h0 => absurd h0 hx0) (by simpa using h)
    have hpos : 1 ≤ val (p ++ [x]) := by
      rw [val_snoc]
      have h1 : 1 ≤ 128 ^ p.length := Nat.pow_pos (by omega)
      have h2 : 1 ≤ x % 128 := by omega
      have := Nat.mul_le_mul h1 h2
      omega
    rw [List.cons_append, val, gr_big _ _ (by omega)]
    have e1 : (b % 128 + 128 * val (p ++ [x])) % 128 + 128 = b := by omega
    have e2 : (b % 128 + 128 * val (p ++ [x])) / 128 = val (p ++ [x]) := by omega
    rw [e1, e2, ih]
theorem pow9 : (128 : Nat) ^ 9 = 9223372036854775808 := by decide
/-- A row up to its first low byte is what Put writes just if its last byte is no 0 behind others, and the tenth one is 0 or 1. -/
theorem canon {p : List Nat} {x : Nat} (hp : AllHi p) (hx : x < 128) (hl : p.length ≤ 9) :
    encU (val (p ++ [x]) % two64) = p ++ [x] ↔ (x = 0 → p = []) ∧ (p.length = 9 → x ≤ 1) := by
  have hv := val_lt p
  have hs := val_snoc p x
  have hxm : x % 128 = x := Nat.mod_eq_of_lt hx
  rw [hxm] at hs
  have hmod : val (p ++ [x]) % two64 < 18446744073709551616 := Nat.mod_lt _ (by decide)
  constructor
  · intro h
    constructor
    · intro h0
      obtain ⟨q, y, e, hq, hy, hlq, hz⟩ := enc_shape hmod
      rw [h] at e
      have e1 := List.append_inj' e rfl
      have : y = 0 := by have := e1.2; simp at this; omega
      rw [e1.1]
      exact (hz this).1
    · intro h9
      have h2 := val_enc hmod
      rw [h] at h2
      have h3 : val (p ++ [x]) < 18446744073709551616 := by rw [h2]; exact hmod
      rw [hs, h9, pow9] at h3
      omega
  · rintro ⟨h0, h9⟩
    have hlt : val (p ++ [x]) < 18446744073709551616 := by
      by_cases h : p.length = 9
      · have := h9 h
        rw [hs, h, pow9]
        rw [h, pow9] at hv
        omega
      · have h8 : p.length + 1 ≤ 9 := by omega
        have h1 := val_lt (p ++ [x])
        rw [List.length_append, List.length_singleton] at h1
        have h2 : (128 : Nat) ^ (p.length + 1) ≤ 128 ^ 9 := Nat.pow_le_pow_right (by omega) h8
        rw [pow9] at h2
        omega
    have e : val (p ++ [x]) % two64 = val (p ++ [x]) := Nat.mod_eq_of_lt hlt
    rw [e]
    exact gr_val p x 9 hp hx h0 hl

/-! texts -/
def textB (s : List Nat) : List Nat := encU (2 * s.length) ++ s
def cutB (bs : List Nat) (most : Int) : List Nat × Nat :=
  if (getB bs).2 = 0 ∨ (getB bs).1 < 0 ∨ most < (getB bs).1 ∨ (bs.length : Int) - ((getB bs).2 : Int) < (getB bs).1 then ([], 0)
  else ((bs.drop (getB bs).2).take (getB bs).1.toNat, (getB bs).2 + (getB bs).1.toNat)
theorem zag_even (k : Nat) : zag (2 * k) = (k : Int) := by unfold zag; rw [if_pos (by omega)]; omega
theorem getB_text {s : List Nat} (h : s.length < 9223372036854775808) (r : List Nat) : getB (textB s ++ r) = ((s.length : Int), (encU (2 * s.length)).length) := by
  unfold textB
  rw [List.append_assoc, getB_enc (by omega), zag_even]
theorem cutB_text {s : List Nat} (h : s.length < 9223372036854775808) (r : List Nat) : cutB (textB s ++ r) (s.length : Int) = (s, (textB s).length) := by
  have h1 := enc_len (u := 2 * s.length) (by omega)
  have hlen : (textB s ++ r).length = (encU (2 * s.length)).length + s.length + r.length := by simp [textB]; try omega
  unfold cutB
  rw [getB_text h]
  simp only
  rw [if_neg (by rw [hlen]; omega)]
  congr 1
  · unfold textB
    rw [List.append_assoc, List.drop_append_of_le_length (Nat.le_refl _), List.drop_length, List.nil_append, Int.toNat_natCast, List.take_append_of_le_length (Nat.le_refl _), List.take_length]
  · simp [textB]
theorem cutB_less {s : List Nat} (h : s.length < 9223372036854775808) : cutB (textB s) ((s.length : Int) - 1) = ([], 0) := by
  have h2 := getB_text h []
  rw [List.append_nil] at h2
  unfold cutB
  rw [h2, if_pos (by right; right; left; simp only; omega)]

/-! eight bytes -/
def beB : Nat → Nat → List Nat
  | 0, _ => []
  | k + 1, u => (u / 256 ^ k % 256) :: beB k u
def unbe (bs : List Nat) : Nat := bs.foldl (fun a b => a * 256 + b) 0
def low64 (n : Int) : Nat := (n % 18446744073709551616).toNat
def longB (n : Int) : List Nat := beB 8 (low64 n)
def sg64 (u : Nat) : Int := if u < 9223372036854775808 then (u : Int) else (u : Int) - 18446744073709551616
def backB (bs : List Nat) : Int × Bool := if bs.length < 8 then (0, false) else (sg64 (unbe (bs.take 8)), true)
theorem length_beB : ∀ k u, (beB k u).length = k
  | 0, _ => rfl
  | k + 1, u => by simp [beB, length_beB k u]
theorem beB_all : ∀ k u, AllB (beB k u)
  | 0, _ => fun x h => by cases h
  | k + 1, u => by
    intro x hx
    rcases List.mem_cons.1 hx with h | h
    · rw [h]; exact Nat.mod_lt _ (by omega)
    · exact beB_all k u x h
theorem length_longB (n : Int) : (longB n).length = 8 := length_beB 8 _
theorem longB_all (n : Int) : AllB (longB n) := beB_all 8 _
theorem unbe_fold : ∀ k u a, (beB k u).foldl (fun a b => a * 256 + b) a = a * 256 ^ k + u % 256 ^ k
  | 0, u, a => by simp [beB, Nat.mod_one]
  | k + 1, u, a => by
    rw [beB, List.foldl_cons, unbe_fold k u]
    have h := Nat.mod_mul (x := u) (a := 256 ^ k) (b := 256)
    rw [Nat.pow_succ, h, Nat.add_mul, Nat.mul_assoc, Nat.mul_comm 256 (256 ^ k), Nat.mul_comm (u / 256 ^ k % 256) (256 ^ k)]
    omega
theorem pow8 : (256 : Nat) ^ 8 = 18446744073709551616 := by decide
theorem low64_lt (n : Int) : low64 n < 18446744073709551616 := by unfold low64; omega
theorem unbe_long (n : Int) : unbe (longB n) = low64 n := by
  unfold unbe longB
  rw [unbe_fold, pow8, Nat.zero_mul, Nat.zero_add, Nat.mod_eq_of_lt (low64_lt n)]
theorem sg64_low64 {n : Int} (h0 : -9223372036854775808 ≤ n) (h1 : n ≤ 9223372036854775807) : sg64 (low64 n) = n := by
  unfold sg64 low64
  split <;> omega
theorem backB_long {n : Int} (h0 : -9223372036854775808 ≤ n) (h1 : n ≤ 9223372036854775807) (r : List Nat) : backB (longB n ++ r) = (n, true) := by
  unfold backB
  rw [if_neg (by rw [List.length_append, length_longB]; omega)]
  have : (longB n ++ r).take 8 = longB n := by
    rw [List.take_append_of_le_length (by rw [length_longB]; omega), List.take_of_length_le (by rw [length_longB]; omega)]
  rw [this, unbe_long, sg64_low64 h0 h1]
theorem backB_short {bs : List Nat} (h : bs.length < 8) : backB bs = (0, false) := by unfold backB; rw [if_pos h]
theorem beB_take : ∀ i k u, i < k → (beB k u).take (i + 1) = (beB k u).take i ++ [u / 256 ^ (k - 1 - i) % 256]
  | i, 0, u, h => by omega
  | 0, k + 1, u, _ => by simp [beB]
  | i + 1, k + 1, u, h => by
    have ih := beB_take i k u (by omega)
    rw [beB, List.take_succ_cons, ih, List.take_succ_cons, List.cons_append]
    congr 3
    have : k + 1 - 1 - (i + 1) = k - 1 - i := by omega
    rw [this]
theorem unbe_take (bs : List Nat) (i : Nat) (h : i < bs.length) : unbe (bs.take (i + 1)) = unbe (bs.take i) * 256 + bs.getD i 0 := by
  unfold unbe
  rw [List.take_succ_eq_append_getElem h, List.foldl_append, List.getD_eq_getElem?_getD, List.getElem?_eq_getElem h]
  rfl
theorem fold_lt : ∀ (bs : List Nat) (a : Nat), AllB bs → bs.foldl (fun a b => a * 256 + b) a < (a + 1) * 256 ^ bs.length
  | [], a, _ => by simp
  | b :: bs, a, h => by
    have hb := h b (by simp)
    have ih := fold_lt bs (a * 256 + b) (fun x hx => h x (by simp [hx]))
    rw [List.foldl_cons, List.length_cons, Nat.pow_succ, Nat.mul_comm (256 ^ bs.length) 256, ← Nat.mul_assoc]
    exact Nat.lt_of_lt_of_le ih (Nat.mul_le_mul_right _ (by omega))
theorem unbe_lt {bs : List Nat} (h : AllB bs) : unbe bs < 256 ^ bs.length := by
  have := fold_lt bs 0 h
  simpa [unbe] using this
theorem scan_len : ∀ (f : Nat) (bs l : List Nat), scan f bs = some l → l.length ≤ f ∧ l.length ≤ bs.length
  | 0, bs, l, h => by cases h
  | f + 1, [], l, h => by cases h
  | f + 1, b :: r, l, h => by
    unfold scan at h
    split at h
    · cases h; simp
    · obtain ⟨t, ht, rfl⟩ := Option.map_eq_some_iff.1 h
      have := scan_len f r t ht
      simp; omega
theorem getB_bounds (bs : List Nat) : (getB bs).2 ≤ 10 ∧ (getB bs).2 ≤ bs.length ∧ -9223372036854775808 ≤ (getB bs).1 ∧ (getB bs).1 ≤ 9223372036854775807 := by
  rcases h : scan 10 bs with _ | l
  · rw [getB_none h]; simp
  · rw [getB_some h]
    have h2 := scan_len 10 bs l h
    split
    · have h3 := zag_in (u := val l % two64) (Nat.mod_lt _ (by decide))
      simp only
      omega
    · simp
theorem cutB_no {bs : List Nat} {most : Int} (h : (getB bs).2 = 0 ∨ (getB bs).1 < 0 ∨ most < (getB bs).1 ∨ (bs.length : Int) - ((getB bs).2 : Int) < (getB bs).1) : cutB bs most = ([], 0) := by
  unfold cutB; rw [if_pos h]
theorem cutB_yes {bs : List Nat} {most : Int} (h : ¬ ((getB bs).2 = 0 ∨ (getB bs).1 < 0 ∨ most < (getB bs).1 ∨ (bs.length : Int) - ((getB bs).2 : Int) < (getB bs).1)) : cutB bs most = ((bs.drop (getB bs).2).take (getB bs).1.toNat, (getB bs).2 + (getB bs).1.toNat) := by
  unfold cutB; rw [if_neg h]
end Go.VarMath
