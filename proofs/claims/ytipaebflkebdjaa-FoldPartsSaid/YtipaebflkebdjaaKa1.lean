/- Parts of a proof, merged: VarMath, CrcMath, SeqMath, BatMath, ProdMath, ModMath, TabMath, TabOpen, TabOne, TabRow, FoMath, FoMath2. -/

namespace Go.VarMath

abbrev AllB (bs : List Nat) : Prop := ∀ x ∈ bs, x < 256
def two64 : Nat := 18446744073709551616
def zig (n : Int) : Nat := if 0 ≤ n then 2 * n.toNat else 2 * (-n).toNat - 1
def zag (u : Nat) : Int := if u % 2 = 0 then ((u / 2 : Nat) : Int) else -((u / 2 : Nat) : Int) - 1
theorem zag_zig (n : Int) : zag (zig n) = n := by
 unfold zig zag
 by_cases h : 0 ≤ n
 · rw [if_pos h, if_pos (by omega)]; omega
 · rw [if_neg h, if_neg (by omega)]; omega
theorem zig_lt {n : Int} (h0 : -9223372036854775808 ≤ n) (h1 : n ≤ 9223372036854775807) : zig n < 18446744073709551616 := by
 unfold zig; split <;> omega
theorem zig_nonneg {n : Int} (h : 0 ≤ n) : (zig n : Int) = 2 * n := by unfold zig; rw [if_pos h]; omega
theorem zig_neg {n : Int} (h : n < 0) : (zig n : Int) = -2 * n - 1 := by unfold zig; rw [if_neg (by omega)]; omega
theorem zig_nat (k : Nat) : zig (k : Int) = 2 * k := by unfold zig; rw [if_pos (by omega)]; omega
/-- Groups of seven bits, no more than f + 1 of them. -/
def gr : Nat → Nat → List Nat
 | 0, u => [u]
 | f + 1, u => if u < 128 then [u] else (u % 128 + 128) :: gr f (u / 128)
def encU (u : Nat) : List Nat := gr 9 u
def encN (n : Int) : List Nat := encU (zig n)
def val : List Nat → Nat
 | [] => 0
 | b :: r => b % 128 + 128 * val r
def AllHi (p : List Nat) : Prop := ∀ x ∈ p, 128 ≤ x ∧ x < 256
theorem AllHi.nil : AllHi [] := fun x h => by cases h
theorem AllHi.cons {b : Nat} {p : List Nat} (hb : 128 ≤ b ∧ b < 256) (hp : AllHi p) : AllHi (b :: p) := by
 intro x hx
 rcases List.mem_cons.1 hx with h | h
 · rw [h]; exact hb
 · exact hp x h
theorem AllHi.snoc {b : Nat} {p : List Nat} (hp : AllHi p) (hb : 128 ≤ b ∧ b < 256) : AllHi (p ++ [b]) := by
 intro x hx
 rcases List.mem_append.1 hx with h | h
 · exact hp x h
 · simp at h; rw [h]; exact hb
theorem AllHi.all {p : List Nat} (hp : AllHi p) : AllB p := fun x hx => (hp x hx).2
theorem gr_small (f u : Nat) (h : u < 128) : gr f u = [u] := by
 cases f with
 | zero => rfl
 | succ f => simp [gr, h]
theorem gr_big (f u : Nat) (h : ¬ u < 128) : gr (f + 1) u = (u % 128 + 128) :: gr f (u / 128) := by simp [gr, h]
theorem gr_shape : ∀ f u, u < 128 ^ (f + 1) → ∃ p x, gr f u = p ++ [x] ∧ AllHi p ∧ x < 128 ∧ p.length ≤ f ∧ (x = 0 → p = [] ∧ u = 0)
 | 0, u, h => ⟨[], u, rfl, AllHi.nil, by simpa using h, by simp, fun h => ⟨rfl, h⟩⟩
 | f + 1, u, h => by
   by_cases hu : u < 128
   · exact ⟨[], u, by rw [gr_small _ _ hu]; rfl, AllHi.nil, hu, by simp, fun h => ⟨rfl, h⟩⟩
   · have h2 : u / 128 < 128 ^ (f + 1) := by
      rw [Nat.div_lt_iff_lt_mul (by omega)]
      rwa [← Nat.pow_succ]
     obtain ⟨p, x, e, hp, hx, hl, hz⟩ := gr_shape f (u / 128) h2
     refine ⟨(u % 128 + 128) :: p, x, by rw [gr_big _ _ hu, e]; rfl, AllHi.cons (by omega) hp, hx, by simp; omega, fun h0 => ?_⟩
     have := (hz h0).2
     omega
theorem val_gr : ∀ f u, u < 128 ^ (f + 1) → val (gr f u) = u
 | 0, u, h => by
   have : u < 128 := by simpa using h
   simp [gr, val]; omega
 | f + 1, u, h => by
   by_cases hu : u < 128
   · rw [gr_small _ _ hu]; simp [val]; omega
   · have h2 : u / 128 < 128 ^ (f + 1) := by
      rw [Nat.div_lt_iff_lt_mul (by omega)]
      rwa [← Nat.pow_succ]
     rw [gr_big _ _ hu]
     simp only [val]
     rw [val_gr f _ h2]
     omega
theorem pow10 : (128 : Nat) ^ (9 + 1) = 1180591620717411303424 := by decide
theorem lt10 {u : Nat} (h : u < 18446744073709551616) : u < 128 ^ (9 + 1) := by rw [pow10]; omega
theorem val_enc {u : Nat} (h : u < 18446744073709551616) : val (encU u) = u := val_gr 9 u (lt10 h)
theorem enc_shape {u : Nat} (h : u < 18446744073709551616) : ∃ p x, encU u = p ++ [x] ∧ AllHi p ∧ x < 128 ∧ p.length ≤ 9 ∧ (x = 0 → p = [] ∧ u = 0) := gr_shape 9 u (lt10 h)
theorem enc_all {u : Nat} (h : u < 18446744073709551616) : AllB (encU u) := by
 obtain ⟨p, x, e, hp, hx, _, _⟩ := enc_shape h
 rw [e]
 intro y hy
 rcases List.mem_append.1 hy with h | h
 · exact (hp y h).2
 · simp at h; omega
theorem enc_len {u : Nat} (h : u < 18446744073709551616) : 1 ≤ (encU u).length ∧ (encU u).length ≤ 10 := by
 obtain ⟨p, x, e, hp, hx, hl, _⟩ := enc_shape h
 rw [e, List.length_append]
 simp; omega
/-- The bytes up to and with the first one that no other follows, among the first f. -/
def scan : Nat → List Nat → Option (List Nat)
 | 0, _ => none
 | _ + 1, [] => none
 | f + 1, b :: r => if b < 128 then some [b] else (scan f r).map (b :: ·)
theorem scan_hi : ∀ (p : List Nat) (f : Nat) (r : List Nat), AllHi p → p.length ≤ f → scan f (p ++ r) = (scan (f - p.length) r).map (p ++ ·)
 | [], f, r, _, _ => by
   rw [List.nil_append]
   have : (fun l : List Nat => [] ++ l) = id := by funext l; rfl
   rw [this, Option.map_id]; rfl
 | b :: p, 0, r, _, h => by simp at h
 | b :: p, f + 1, r, hp, h => by
   have hb := hp b (by simp)
   have ih := scan_hi p f r (fun x hx => hp x (by simp [hx])) (by simpa using h)
   show (if b < 128 then some [b] else (scan f (p ++ r)).map (b :: ·)) = _
   rw [if_neg (by omega), ih, Option.map_map, List.length_cons, Nat.add_sub_add_right]
   rfl
theorem scan_end {p : List Nat} {x : Nat} {f : Nat} (hp : AllHi p) (hx : x < 128) (hf : p.length < f) (r : List Nat) : scan f (p ++ x :: r) = some (p ++ [x]) := by
 rw [scan_hi p f _ hp (by omega)]
 obtain ⟨k, hk⟩ : ∃ k, f - p.length = k + 1 := ⟨f - p.length - 1, by omega⟩
 rw [hk]
 simp [scan, hx]
/-- What a row of bytes begins with: the number, and how many bytes it takes; 0, 0 if none. -/
def getB (bs : List Nat) : Int × Nat := match scan 10 bs with
 | none => (0, 0)
 | some l => if encU (val l % two64) = l then (zag (val l % two64), l.length) else (0, 0)
theorem getB_some {bs l : List Nat} (h : scan 10 bs = some l) : getB bs = if encU (val l % two64) = l then (zag (val l % two64), l.length) else (0, 0) := by unfold getB; rw [h]
theorem scan_enc {u : Nat} (h : u < 18446744073709551616) (r : List Nat) : scan 10 (encU u ++ r) = some (encU u) := by
 obtain ⟨p, x, e, hp, hx, hl, _⟩ := enc_shape h
 rw [e, List.append_assoc]
 exact scan_end hp hx (by omega) r
theorem getB_enc {u : Nat} (h : u < 18446744073709551616) (r : List Nat) : getB (encU u ++ r) = (zag u, (encU u).length) := by
 rw [getB_some (scan_enc h r), val_enc h]
 have e : u % two64 = u := Nat.mod_eq_of_lt h
 rw [e, if_pos rfl]
theorem getB_encN {n : Int} (h0 : -9223372036854775808 ≤ n) (h1 : n ≤ 9223372036854775807) (r : List Nat) : getB (encN n ++ r) = (n, (encN n).length) := by
 unfold encN
 rw [getB_enc (zig_lt h0 h1), zag_zig]
theorem pow9 : (128 : Nat) ^ 9 = 9223372036854775808 := by decide
/-! texts -/
def textB (s : List Nat) : List Nat := encU (2 * s.length) ++ s
/-! eight bytes -/
def beB : Nat → Nat → List Nat
 | 0, _ => []
 | k + 1, u => (u / 256 ^ k % 256) :: beB k u
def unbe (bs : List Nat) : Nat := bs.foldl (fun a b => a * 256 + b) 0
def low64 (n : Int) : Nat := (n % 18446744073709551616).toNat
def longB (n : Int) : List Nat := beB 8 (low64 n)
theorem length_beB : ∀ k u, (beB k u).length = k
 | 0, _ => rfl
 | k + 1, u => by simp [beB, length_beB k u]
theorem beB_all : ∀ k u, AllB (beB k u)
 | 0, _ => fun x h => by cases h
 | k + 1, u => by
   intro x hx
   rcases List.mem_cons.1 hx with h | h
   · rw [h]; exact Nat.mod_lt _ (by omega)
   · exact beB_all k u x h
theorem length_longB (n : Int) : (longB n).length = 8 := length_beB 8 _
theorem longB_all (n : Int) : AllB (longB n) := beB_all 8 _
theorem beB_take : ∀ i k u, i < k → (beB k u).take (i + 1) = (beB k u).take i ++ [u / 256 ^ (k - 1 - i) % 256]
 | i, 0, u, h => by omega
 | 0, k + 1, u, _ => by simp [beB]
 | i + 1, k + 1, u, h => by
   have ih := beB_take i k u (by omega)
   rw [beB, List.take_succ_cons, ih, List.take_succ_cons, List.cons_append]
   congr 3
   have : k + 1 - 1 - (i + 1) = k - 1 - i := by omega
   rw [this]
end Go.VarMath
namespace Go.CrcMath

def poly : Nat := 2197175160
/-- One bit: shifted right, and, if the lowest bit was 1, exclusive or the polynomial. -/
def bstep (c : Nat) : Nat := if c % 2 = 1 then c / 2 ^^^ poly else c / 2
def bsteps : Nat → Nat → Nat
 | 0, c => c
 | n + 1, c => bstep (bsteps n c)
def nxt (c b : Nat) : Nat := bsteps 8 (c ^^^ b)
def run (c : Nat) (bs : List Nat) : Nat := bs.foldl nxt c
def full : Nat := 4294967295
theorem full_lt : full < 4294967296 := by unfold full; omega
def cpl (c : Nat) : Nat := full ^^^ c
def ofB (bs : List Nat) : Nat := cpl (run full bs)
def leB (c : Nat) : List Nat := [c % 256, c / 256 % 256, c / 65536 % 256, c / 16777216 % 256]
def sealB (bs : List Nat) : List Nat := leB (ofB bs) ++ bs
def unl : List Nat → Nat
 | [] => 0
 | b :: bs => b + 256 * unl bs
def okB (bs : List Nat) : Bool := decide (4 ≤ bs.length) && decide (unl (bs.take 4) = ofB (bs.drop 4))
abbrev AllB (bs : List Nat) : Prop := ∀ x ∈ bs, x < 256

theorem bstep_lt {c : Nat} (h : c < 4294967296) : bstep c < 4294967296 := by
 unfold bstep
 split
 · exact Nat.xor_lt_two_pow (n := 32) (by omega) (by decide)
 · omega
theorem bsteps_lt {c : Nat} (h : c < 4294967296) : ∀ n, bsteps n c < 4294967296
 | 0 => h
 | n + 1 => bstep_lt (bsteps_lt h n)
theorem xor_lt {c b : Nat} (h : c < 4294967296) (hb : b < 4294967296) : c ^^^ b < 4294967296 := Nat.xor_lt_two_pow (n := 32) h hb
theorem nxt_lt {c b : Nat} (h : c < 4294967296) (hb : b < 256) : nxt c b < 4294967296 := bsteps_lt (xor_lt h (by omega)) 8
theorem run_lt : ∀ (bs : List Nat) (c : Nat), c < 4294967296 → AllB bs → run c bs < 4294967296
 | [], c, h, _ => h
 | b :: bs, c, h, hb => run_lt bs (nxt c b) (nxt_lt h (hb b (by simp))) (fun x hx => hb x (by simp [hx]))
theorem cpl_lt {c : Nat} (h : c < 4294967296) : cpl c < 4294967296 := xor_lt full_lt h
theorem cpl_eq (c : Nat) : cpl c = full ^^^ c := rfl
theorem ofB_lt {bs : List Nat} (h : AllB bs) : ofB bs < 4294967296 := cpl_lt (run_lt bs _ full_lt h)
theorem run_snoc (c : Nat) (a : List Nat) (b : Nat) : run c (a ++ [b]) = nxt (run c a) b := by simp [run, List.foldl_append]

/-! the bstep is linear, and only 0 goes to 0 -/
theorem xor_div2 (x y : Nat) : (x ^^^ y) / 2 = x / 2 ^^^ y / 2 := by
 have := Nat.shiftRight_xor_distrib (a := x) (b := y) (i := 1)
 simpa [Nat.shiftRight_eq_div_pow] using this
theorem xor_mod2 (x y : Nat) : (x ^^^ y) % 2 = (x % 2 + y % 2) % 2 := by
 have h : (x ^^^ y) % 2 ^ 1 = x % 2 ^ 1 ^^^ y % 2 ^ 1 := Nat.xor_mod_two_pow
 simp only [Nat.pow_one] at h
 rw [h]
 rcases Nat.mod_two_eq_zero_or_one x with hx | hx <;> rcases Nat.mod_two_eq_zero_or_one y with hy | hy <;> simp [hx, hy]
theorem bstep_xor (x y : Nat) : bstep (x ^^^ y) = bstep x ^^^ bstep y := by
 unfold bstep
 rw [xor_mod2, xor_div2]
 rcases Nat.mod_two_eq_zero_or_one x with hx | hx <;> rcases Nat.mod_two_eq_zero_or_one y with hy | hy
 · simp [hx, hy]
 · simp [hx, hy, Nat.xor_assoc]
 · simp only [hx, hy]; simp [Nat.xor_assoc, Nat.xor_comm poly]
 · simp only [hx, hy]; simp [Nat.xor_assoc]; rw [Nat.xor_comm poly, Nat.xor_assoc, Nat.xor_self, Nat.xor_zero]
theorem bsteps_xor (x y : Nat) : ∀ n, bsteps n (x ^^^ y) = bsteps n x ^^^ bsteps n y
 | 0 => rfl
 | n + 1 => by unfold bsteps; rw [bsteps_xor x y n, bstep_xor]
theorem bsteps_add (m x : Nat) : ∀ n, bsteps (m + n) x = bsteps n (bsteps m x)
 | 0 => rfl
 | n + 1 => by show bstep (bsteps (m + n) x) = bstep (bsteps n (bsteps m x)); rw [bsteps_add m x n]
theorem bstep_double (u : Nat) : bstep (2 * u) = u := by unfold bstep; rw [if_neg (by omega)]; omega
theorem steps8_256 (u : Nat) : bsteps 8 (256 * u) = u := by
 have e : 256 * u = 2 * (2 * (2 * (2 * (2 * (2 * (2 * (2 * u))))))) := by omega
 rw [e]
 simp only [bsteps, bstep_double]
theorem low_xor (t u : Nat) (h : t < 256) : t ^^^ 256 * u = t + 256 * u := by
 have h1 : 2 ^ 8 * u + t = 2 ^ 8 * u ||| t := Nat.two_pow_add_eq_or_of_lt (i := 8) (b := t) (by simpa using h) u
 have e2 : 2 ^ 8 * u ||| t = t ^^^ 2 ^ 8 * u := by
  apply Nat.eq_of_testBit_eq
  intro i
  rw [Nat.testBit_or, Nat.testBit_xor]
  by_cases hi : i < 8
  · have h2 : Nat.testBit (2 ^ 8 * u) i = false := by rw [Nat.testBit_two_pow_mul]; simp; omega
    rw [h2]; simp
  · have h3 : Nat.testBit t i = false := Nat.testBit_lt_two_pow (Nat.lt_of_lt_of_le h (Nat.pow_le_pow_right (n := 2) (i := 8) (by decide) (by omega)))
    rw [h3]; simp
 have h4 : 2 ^ 8 * u = 256 * u := rfl
 rw [h4] at h1 e2
 omega
/-- The difference of two sums behind one byte more, the bytes' own difference t. -/
theorem nxt_xor (c d b t : Nat) : nxt (c ^^^ d) (b ^^^ t) = nxt c b ^^^ bsteps 8 (d ^^^ t) := by
 unfold nxt
 rw [← bsteps_xor]
 congr 1
 rw [Nat.xor_assoc, Nat.xor_assoc, ← Nat.xor_assoc d b t, Nat.xor_comm d b, Nat.xor_assoc]
theorem peel (d t u : Nat) (h : t < 256) : bsteps 8 (d ^^^ (t + 256 * u)) = bsteps 8 (d ^^^ t) ^^^ u := by
 rw [← low_xor t u h, ← Nat.xor_assoc, bsteps_xor, steps8_256]
theorem four (c a0 a1 a2 a3 t0 t1 t2 t3 : Nat) (h0 : t0 < 256) (h1 : t1 < 256) (h2 : t2 < 256) :
 run c [a0 ^^^ t0, a1 ^^^ t1, a2 ^^^ t2, a3 ^^^ t3] = run c [a0, a1, a2, a3] ^^^ bsteps 32 (t0 + 256 * (t1 + 256 * (t2 + 256 * t3))) := by
 have e : bsteps 32 (t0 + 256 * (t1 + 256 * (t2 + 256 * t3))) = bsteps 8 (bsteps 8 (bsteps 8 (bsteps 8 t0 ^^^ t1) ^^^ t2) ^^^ t3) := by
  have p0 := peel 0 t0 (t1 + 256 * (t2 + 256 * t3)) h0
  simp only [Nat.zero_xor] at p0
  rw [show (32 : Nat) = 8 + (8 + (8 + 8)) from rfl, bsteps_add, p0, bsteps_add, peel _ _ _ h1, bsteps_add, peel _ _ _ h2]
 rw [e]
 have q0 : nxt c (a0 ^^^ t0) = nxt c a0 ^^^ bsteps 8 t0 := by have := nxt_xor c 0 a0 t0; simpa using this
 simp only [run, List.foldl_cons, List.foldl_nil]
 rw [q0, nxt_xor, nxt_xor, nxt_xor]
/-! four bytes and their number -/
theorem leB_all (c : Nat) : AllB (leB c) := by intro x hx; simp [leB] at hx; omega
theorem sealB_all {bs : List Nat} (h : AllB bs) : AllB (sealB bs) := by
 intro x hx
 rcases List.mem_append.1 hx with h1 | h1
 · exact leB_all _ x h1
 · exact h x h1
theorem length_sealB (bs : List Nat) : (sealB bs).length = bs.length + 4 := by simp [sealB, leB]
theorem unl_leB {c : Nat} (h : c < 4294967296) : unl (leB c) = c := by simp only [leB, unl]; omega
theorem take_sealB (bs : List Nat) : (sealB bs).take 4 = leB (ofB bs) := by simp [sealB, leB]
theorem drop_sealB (bs : List Nat) : (sealB bs).drop 4 = bs := by simp [sealB, leB]
theorem four_of {bs : List Nat} (h : 4 ≤ bs.length) : ∃ b0 b1 b2 b3 r, bs = b0 :: b1 :: b2 :: b3 :: r := by
 match bs, h with
 | b0 :: b1 :: b2 :: b3 :: r, _ => exact ⟨b0, b1, b2, b3, r, rfl⟩
theorem okB_seal {bs : List Nat} (h : AllB bs) : okB (sealB bs) = true := by
 simp only [okB, length_sealB, take_sealB, drop_sealB, unl_leB (ofB_lt h)]; simp
end Go.CrcMath
namespace Go.SeqMath

def rightB (n : Int) : Bool := decide (0 ≤ n) && decide (n ≤ 2147483647)
def addI (n k : Int) : Int := if rightB n = true then (n + k) % 2147483648 else -1
def lastI (n c : Int) : Int := if 1 ≤ c ∧ c ≤ 16 then addI n (c - 1) else -1
def followsB (l f : Int) : Bool := if l = -1 then decide (f = 0) else rightB l && decide (f = addI l 1)
def gapI (a b : Int) : Int := if rightB a = true ∧ rightB b = true then (b - a) % 2147483648 else -1
theorem right_yes {n : Int} (h0 : 0 ≤ n) (h1 : n ≤ 2147483647) : rightB n = true := by unfold rightB; simp [h0, h1]
theorem right_no {n : Int} (h : n < 0 ∨ 2147483647 < n) : rightB n = false := by
 unfold rightB
 rcases h with h | h
 · rw [decide_eq_false (by omega)]; rfl
 · rw [decide_eq_false (p := n ≤ 2147483647) (by omega), Bool.and_false]
theorem of_right {n : Int} (h : rightB n = true) : 0 ≤ n ∧ n ≤ 2147483647 := by unfold rightB at h; simpa using h
theorem add_yes {n : Int} (h0 : 0 ≤ n) (h1 : n ≤ 2147483647) (k : Int) : addI n k = (n + k) % 2147483648 := by unfold addI; rw [if_pos (right_yes h0 h1)]
theorem add_no {n : Int} (h : rightB n = false) (k : Int) : addI n k = -1 := by unfold addI; rw [if_neg (by rw [h]; decide)]
theorem last_yes {c : Int} (h0 : 1 ≤ c) (h1 : c ≤ 16) (n : Int) : lastI n c = addI n (c - 1) := by unfold lastI; rw [if_pos ⟨h0, h1⟩]
theorem last_no {c : Int} (h : c < 1 ∨ 16 < c) (n : Int) : lastI n c = -1 := by unfold lastI; rw [if_neg (by omega)]
theorem gap_yes {a b : Int} (a0 : 0 ≤ a) (a1 : a ≤ 2147483647) (b0 : 0 ≤ b) (b1 : b ≤ 2147483647) : gapI a b = (b - a) % 2147483648 := by
 unfold gapI; rw [if_pos ⟨right_yes a0 a1, right_yes b0 b1⟩]
theorem follows_none (f : Int) : followsB (-1) f = decide (f = 0) := by unfold followsB; rw [if_pos rfl]
theorem follows_yes {l : Int} (h0 : 0 ≤ l) (h1 : l ≤ 2147483647) (f : Int) : followsB l f = decide (f = addI l 1) := by
 unfold followsB; rw [if_neg (by omega), right_yes h0 h1, Bool.true_and]
theorem follows_no {l : Int} (h : l ≠ -1) (h2 : rightB l = false) (f : Int) : followsB l f = false := by
 unfold followsB; rw [if_neg h, h2, Bool.false_and]
/- What the two laws say, of the plain functions. -/
theorem gap_add {x k : Int} (x0 : 0 ≤ x) (x1 : x ≤ 2147483647) (k0 : 0 ≤ k) (k1 : k ≤ 2147483647) : gapI x (addI x k) = k := by
 rw [add_yes x0 x1, gap_yes x0 x1 (by omega) (by omega)]; omega
theorem add_add {x : Int} (x0 : 0 ≤ x) (x1 : x ≤ 2147483647) (j k : Int) : addI (addI x j) k = addI x (j + k) := by
 rw [add_yes x0 x1, add_yes x0 x1, add_yes (by omega) (by omega)]; omega
end Go.SeqMath
namespace Go.BatMath
open Go.SeqMath
open Go.VarMath (textB encU longB beB unbe low64)
open Go.CrcMath (sealB okB)

abbrev AllB (bs : List Nat) : Prop := ∀ x ∈ bs, x < 256
def bl (s : ByteArray) : List Nat := s.data.toList.map UInt8.toNat
theorem bl_len (s : ByteArray) : (bl s).length = s.size := by simp [bl]
theorem bl_all (s : ByteArray) : AllB (bl s) := by
 intro x hx
 obtain ⟨c, _, rfl⟩ := List.mem_map.1 hx
 exact c.toNat_lt
/-- A record, and a batch. -/
structure Rc where
 key : ByteArray
 val : ByteArray
structure Bat where
 base : Int
 prod : Int
 epoch : Int
 seq : Int
 txn : Bool
 marker : Int
 recs : List Rc
def Bat.zero : Bat := ⟨0, 0, 0, 0, false, 0, []⟩
def Bat.at (b : Bat) (n : Int) : Bat := { b with base := n }
abbrev In64 (n : Int) : Prop := -9223372036854775808 ≤ n ∧ n ≤ 9223372036854775807
/-- Its numbers are such. -/
structure Bat.wf (b : Bat) : Prop where
 base : In64 b.base
 prod : In64 b.prod
 epoch : In64 b.epoch
 seq : In64 b.seq
 marker : In64 b.marker
/-! which errors it has -/
def headB (b : Bat) : Bool := decide (0 ≤ b.prod) && (decide (0 ≤ b.epoch) && decide (b.epoch ≤ 32767))
def noneB (b : Bat) : Bool := decide (b.prod = -1) && (decide (b.epoch = -1) && (decide (b.seq = -1) && !b.txn))
def longRec (r : Rc) : Prop := 64 < r.key.size ∨ 64 < r.val.size
noncomputable def rightE (b : Bat) : Int :=
 if b.base < 0 ∨ 1099511627776 < b.base then 18
 else if b.marker ≠ 0 then
  if (b.marker = 1 ∨ b.marker = 2) ∧ headB b = true ∧ b.seq = -1 ∧ b.txn = true ∧ b.recs = [] then 0 else 12
 else if (noneB b = true ∨ headB b = true ∧ rightB b.seq = true) ∧ b.recs ≠ [] then
  open Classical in if 16 < b.recs.length ∨ ∃ r ∈ b.recs, longRec r then 13 else 0
 else 12
theorem head_of {b : Bat} (h : headB b = true) : 0 ≤ b.prod ∧ 0 ≤ b.epoch ∧ b.epoch ≤ 32767 := by unfold headB at h; simpa using h
theorem none_of {b : Bat} (h : noneB b = true) : b.prod = -1 ∧ b.epoch = -1 ∧ b.seq = -1 ∧ b.txn = false := by unfold noneB at h; simpa using h
/-- What a batch that is right is. -/
structure Ok (b : Bat) : Prop where
 base0 : 0 ≤ b.base
 base1 : b.base ≤ 1099511627776
 prod : -1 ≤ b.prod
 epoch0 : -1 ≤ b.epoch
 epoch1 : b.epoch ≤ 32767
 seq0 : -1 ≤ b.seq
 seq1 : b.seq ≤ 2147483647
 marker0 : 0 ≤ b.marker
 marker1 : b.marker ≤ 2
 recs : b.recs.length ≤ 16
 texts : ∀ r ∈ b.recs, r.key.size ≤ 64 ∧ r.val.size ≤ 64
theorem ok_of {b : Bat} (h : rightE b = 0) : Ok b := by
 unfold rightE at h
 split at h
 · omega
 rename_i hb
 split at h
 · split at h
   · rename_i hm hh
     obtain ⟨h1, h2, h3, h4, h5⟩ := hh
     obtain ⟨p0, p1, p2⟩ := head_of h2
     exact ⟨by omega, by omega, by omega, by omega, by omega, by omega, by omega, by omega, by omega, by rw [h5]; simp, by rw [h5]; intro r hr; cases hr⟩
   · omega
 rename_i hm
 split at h
 · rename_i hh
   split at h
   · omega
   rename_i hl
   have hl1 : b.recs.length ≤ 16 := by
    by_cases h16 : 16 < b.recs.length
    · exact absurd (.inl h16) hl
    · omega
   have hl2 : ∀ r ∈ b.recs, r.key.size ≤ 64 ∧ r.val.size ≤ 64 := by
    intro r hr
    refine ⟨?_, ?_⟩
    · by_cases h64 : 64 < r.key.size
      · exact absurd (.inr ⟨r, hr, .inl h64⟩) hl
      · omega
    · by_cases h64 : 64 < r.val.size
      · exact absurd (.inr ⟨r, hr, .inr h64⟩) hl
      · omega
   rcases hh.1 with h1 | ⟨h1, h2⟩
   · obtain ⟨q1, q2, q3, q4⟩ := none_of h1
     exact ⟨by omega, by omega, by omega, by omega, by omega, by omega, by omega, by omega, by omega, hl1, hl2⟩
   · obtain ⟨p0, p1, p2⟩ := head_of h1
     obtain ⟨s0, s1⟩ := of_right h2
     exact ⟨by omega, by omega, by omega, by omega, by omega, by omega, by omega, by omega, by omega, hl1, hl2⟩
 · omega

/-! bytes -/
def flagN (b : Bat) : Nat := (2 * b.marker + (if b.txn = true then 1 else 0)).toNat % 256
def epochN (b : Bat) : Nat := (b.epoch % 65536).toNat
def recB (r : Rc) : List Nat := textB (bl r.key) ++ textB (bl r.val)
def recsB (l : List Rc) : List Nat := l.flatMap recB
def frontB (b : Bat) : List Nat := flagN b :: (longB b.prod ++ (epochN b / 256 :: epochN b % 256 :: (longB b.seq ++ [b.recs.length % 256])))
def bodyB (b : Bat) : List Nat := frontB b ++ recsB b.recs
def bytesB (b : Bat) : List Nat := longB b.base ++ (beB 4 (sealB (bodyB b)).length ++ sealB (bodyB b))
theorem recsB_cons (r : Rc) (l : List Rc) : recsB (r :: l) = recB r ++ recsB l := rfl
theorem recsB_snoc (l : List Rc) (r : Rc) : recsB (l ++ [r]) = recsB l ++ recB r := by simp [recsB]
theorem front_len (b : Bat) : (frontB b).length = 20 := by simp [frontB, VarMath.length_longB]
theorem text_len {s : List Nat} (hl : s.length < 9223372036854775808) : s.length + 1 ≤ (textB s).length ∧ (textB s).length ≤ s.length + 10 := by
 have := VarMath.enc_len (u := 2 * s.length) (by omega)
 unfold textB
 rw [List.length_append]
 omega
theorem rec_len {r : Rc} (h : r.key.size ≤ 64 ∧ r.val.size ≤ 64) : 2 ≤ (recB r).length ∧ (recB r).length ≤ 148 := by
 have h1 := text_len (s := bl r.key) (by rw [bl_len]; omega)
 have h2 := text_len (s := bl r.val) (by rw [bl_len]; omega)
 rw [bl_len] at h1 h2
 unfold recB
 rw [List.length_append]
 omega
theorem recs_len : ∀ {l : List Rc}, (∀ r ∈ l, r.key.size ≤ 64 ∧ r.val.size ≤ 64) → 2 * l.length ≤ (recsB l).length ∧ (recsB l).length ≤ 148 * l.length
 | [], _ => by simp [recsB]
 | r :: l, h => by
   have h1 := rec_len (h r (by simp))
   have h2 := recs_len (l := l) fun x hx => h x (by simp [hx])
   rw [recsB_cons, List.length_append, List.length_cons]
   omega
theorem body_len (b : Bat) : (bodyB b).length = 20 + (recsB b.recs).length := by unfold bodyB; rw [List.length_append, front_len]
theorem bytes_len (b : Bat) : (bytesB b).length = 36 + (recsB b.recs).length := by
 unfold bytesB
 rw [List.length_append, List.length_append, VarMath.length_longB, VarMath.length_beB, CrcMath.length_sealB, body_len]
 omega
theorem ok_len {b : Bat} (h : Ok b) : (bytesB b).length ≤ 2404 ∧ 36 ≤ (bytesB b).length := by
 have h1 := (recs_len h.texts).2
 have h2 := h.recs
 rw [bytes_len]
 omega
theorem text_all {s : List Nat} (h : AllB s) (hl : s.length < 9223372036854775808) : AllB (textB s) := by
 unfold textB
 intro x hx
 rcases List.mem_append.1 hx with h1 | h1
 · exact VarMath.enc_all (by omega) x h1
 · exact h x h1
theorem all_app {a b : List Nat} (ha : AllB a) (hb : AllB b) : AllB (a ++ b) := by
 intro x hx
 rcases List.mem_append.1 hx with h | h
 · exact ha x h
 · exact hb x h
theorem all_cons {a : Nat} {b : List Nat} (ha : a < 256) (hb : AllB b) : AllB (a :: b) := by
 intro x hx
 rcases List.mem_cons.1 hx with h | h
 · rw [h]; exact ha
 · exact hb x h
theorem all_nil : AllB [] := fun x h => by cases h
theorem rec_all {r : Rc} (h : r.key.size < 9223372036854775808 ∧ r.val.size < 9223372036854775808) : AllB (recB r) :=
 all_app (text_all (bl_all _) (by rw [bl_len]; exact h.1)) (text_all (bl_all _) (by rw [bl_len]; exact h.2))
theorem recs_all : ∀ {l : List Rc}, (∀ r ∈ l, r.key.size < 9223372036854775808 ∧ r.val.size < 9223372036854775808) → AllB (recsB l)
 | [], _ => all_nil
 | r :: l, h => by
   rw [recsB_cons]
   exact all_app (rec_all (h r (by simp))) (recs_all fun x hx => h x (by simp [hx]))
theorem flag_lt (b : Bat) : flagN b < 256 := Nat.mod_lt _ (by omega)
theorem epoch_lt (b : Bat) : epochN b < 65536 := by unfold epochN; omega
/-! reading -/
/-- p begins with what Bytes gives of b. -/
structure Good (p : List Nat) (b : Bat) : Prop where
 right : rightE b = 0
 wf : b.wf
 pre : bytesB b <+: p
/-- What a reader gives: a batch, how many bytes it takes, an error. -/
structure Out where
 b : Bat
 n : Nat
 e : Int
def lenD (p : List Nat) : Nat := unbe ((p.drop 8).take 4)
def fellD (p : List Nat) : Int := if p.length < 12 then 12 else if 4096 < lenD p + 12 then 13 else 12
/-- What is asked of a reader. -/
structure Reads (p : List Nat) (o : Out) : Prop where
 fine : o.e = 0 → Good p o.b ∧ o.n = (bytesB o.b).length
 fell : o.e ≠ 0 → o.b = Bat.zero ∧ o.n = 0 ∧ o.e = fellD p
 all : ∀ b, Good p b → o.e = 0 ∧ o.b = b
noncomputable def sizeB (b : Bat) : Int := if rightE b = 0 then ((bytesB b).length : Int) else 0
theorem getD_lt {p : List Nat} (h : AllB p) (k : Nat) : p.getD k 0 < 256 := by
 rw [List.getD_eq_getElem?_getD]
 rcases hk : p[k]? with _ | x
 · decide
 · exact h x (List.mem_of_getElem? hk)
theorem take_all {p : List Nat} (h : AllB p) (k : Nat) : AllB (p.take k) := fun x hx => h x (List.mem_of_mem_take hx)
end Go.BatMath
namespace Go.ProdMath
open Go.SeqMath
open Go.BatMath
set_option linter.unusedVariables false

structure Tr where
 f : Int
 l : Int
 b : Int
structure Pd where
 id : Int
 epoch : Int
 last : List Tr
 opn : Int
def Pd.zero : Pd := ⟨0, 0, [], 0⟩
structure Dr where
 prod : Int
 first : Int
 last : Int
def Dr.zero : Dr := ⟨0, 0, 0⟩
/-- This element is the batch of these numbers. -/
def hitB (x : Tr) (s : Int) (n : Nat) : Bool := decide (x.f = s) && decide (x.l = lastI s n)
def dupL (l : List Tr) (s : Int) (n : Nat) : Option Int := (l.find? fun x => hitB x s n).map (·.b)
theorem dup_none (s : Int) (n : Nat) : dupL [] s n = none := rfl
theorem dup_hit {x : Tr} {l : List Tr} {s : Int} {n : Nat} (h : hitB x s n = true) : dupL (x :: l) s n = some x.b := by simp [dupL, h]
theorem dup_miss {x : Tr} {l : List Tr} {s : Int} {n : Nat} (h : hitB x s n = false) : dupL (x :: l) s n = dupL l s n := by simp [dupL, h]
def lastSeq (l : List Tr) : Int := match l.getLast? with | some x => x.l | none => 0
def checkD (p : Pd) (known : Bool) (b : Bat) : Int × Int :=
 if b.marker ≠ 0 then
  if known = false then (-1, 16) else if b.epoch < p.epoch then (-1, 14) else if p.opn < 0 then (-1, 16) else (-1, 0)
 else if known = false then (-1, 0)
 else if b.epoch < p.epoch then (-1, 14)
 else if p.epoch < b.epoch then
  if 0 ≤ p.opn then (-1, 16) else if b.seq ≠ 0 then (-1, 15) else (-1, 0)
 else match dupL p.last b.seq b.recs.length with
  | some n => (n, 0)
  | none =>
    if p.last ≠ [] ∧ followsB (lastSeq p.last) b.seq = false then (-1, 15)
    else if 0 ≤ p.opn ∧ b.txn = false then (-1, 16) else (-1, 0)
def oldLast (p : Pd) (known : Bool) (b : Bat) : List Tr := if known = true ∧ p.epoch = b.epoch then p.last else []
def oldOpen (p : Pd) (known : Bool) : Int := if known = true then p.opn else -1
def newLast (l : List Tr) (x : Tr) : List Tr := (l ++ [x]).drop (l.length + 1 - 5)
def applyD (p : Pd) (known : Bool) (b : Bat) : Pd :=
 if b.marker ≠ 0 then ⟨b.prod, b.epoch, oldLast p known b, -1⟩
 else ⟨b.prod, b.epoch, newLast (oldLast p known b) ⟨b.seq, lastI b.seq b.recs.length, b.base⟩, if b.txn = true ∧ oldOpen p known < 0 then b.base else oldOpen p known⟩
/-! tables -/
def atD : List Pd → Int → Nat
 | [], _ => 0
 | p :: l, id => if p.id < id then atD l id + 1 else 0
theorem atD_le : ∀ (l : List Pd) (id : Int), atD l id ≤ l.length
 | [], _ => Nat.le_refl _
 | p :: l, id => by
   unfold atD
   split
   · have := atD_le l id; simp; omega
   · exact Nat.zero_le _
theorem atD_step : ∀ (l : List Pd) (id : Int) (i : Nat) (p : Pd), i ≤ atD l id → l[i]? = some p → (p.id < id ↔ i + 1 ≤ atD l id)
 | q :: l, id, 0, p, _, h => by
   cases h
   unfold atD
   split <;> simp_all
 | q :: l, id, i + 1, p, hi, h => by
   unfold atD at hi ⊢
   split at hi
   · rename_i hq
     rw [if_pos hq]
     have := atD_step l id i p (by omega) h
     omega
   · omega
 | [], id, i, p, _, h => by cases h
def hasD (l : List Pd) (id : Int) : Bool := match l[atD l id]? with | some p => decide (p.id = id) | none => false
def getD (l : List Pd) (id : Int) : Pd := if hasD l id = true then (match l[atD l id]? with | some p => p | none => Pd.zero) else Pd.zero
noncomputable def tcheckD (l : List Pd) (b : Bat) : Int × Int :=
 if rightE b ≠ 0 then (-1, rightE b) else if b.prod < 0 then (-1, 0) else checkD (getD l b.prod) (hasD l b.prod) b
noncomputable def tapplyD (l : List Pd) (b : Bat) : List Pd :=
 if rightE b ≠ 0 ∨ b.prod < 0 then l
 else if hasD l b.prod = true then l.set (atD l b.prod) (applyD (getD l b.prod) true b)
 else l.take (atD l b.prod) ++ applyD Pd.zero false b :: l.drop (atD l b.prod)
def dropsB (l : List Pd) (b : Bat) : Bool := hasD l b.prod && (decide (b.marker = 2) && decide (0 ≤ (getD l b.prod).opn))
noncomputable def tdropD (l : List Pd) (b : Bat) : Option Dr :=
 if rightE b ≠ 0 ∨ b.prod < 0 then none
 else if dropsB l b = true then some ⟨b.prod, (getD l b.prod).opn, b.base⟩ else none
noncomputable def foldP : List Pd → List Bat → List Pd
 | l, [] => l
 | l, b :: bs => foldP (tapplyD l b) bs
noncomputable def foldR : List Pd → List Bat → List Dr
 | _, [] => []
 | l, b :: bs => (tdropD l b).toList ++ foldR (tapplyD l b) bs
theorem foldP_snoc : ∀ (l : List Pd) (bs : List Bat) (b : Bat), foldP l (bs ++ [b]) = tapplyD (foldP l bs) b
 | l, [], b => rfl
 | l, a :: bs, b => foldP_snoc (tapplyD l a) bs b
theorem foldR_snoc : ∀ (l : List Pd) (bs : List Bat) (b : Bat), foldR l (bs ++ [b]) = foldR l bs ++ (tdropD (foldP l bs) b).toList
 | l, [], b => by simp [foldR, foldP]
 | l, a :: bs, b => by
   show (tdropD l a).toList ++ foldR (tapplyD l a) (bs ++ [b]) = _
   rw [foldR_snoc (tapplyD l a) bs b, ← List.append_assoc]; rfl
/-! rows -/
def countD (b : Bat) : Int := if b.marker ≠ 0 then 1 else (b.recs.length : Int)
def endD (start : Int) (l : List Bat) : Int := match l.getLast? with | some b => b.base + countD b | none => start
noncomputable def bytesD : List Bat → Int
 | [] => 0
 | b :: l => sizeB b + bytesD l
/-- Its lengths are such that nothing is too long. -/
def fewP (l : List Pd) : Prop := ∀ p ∈ l, p.last.length ≤ 5
theorem newLast_few (l : List Tr) (x : Tr) : (newLast l x).length ≤ 5 := by unfold newLast; rw [List.length_drop, List.length_append]; simp; omega
theorem get_few {l : List Pd} (h : fewP l) (id : Int) : (getD l id).last.length ≤ 5 := by
 unfold getD
 split
 · split
   · rename_i p hp; exact h p (List.mem_of_getElem? hp)
   · exact Nat.zero_le _
 · exact Nat.zero_le _
theorem apply_few {p : Pd} (h : p.last.length ≤ 5) (k : Bool) (b : Bat) : (applyD p k b).last.length ≤ 5 := by
 unfold applyD
 split
 · unfold oldLast; split
   · exact h
   · exact Nat.zero_le _
 · exact newLast_few _ _
theorem tapply_few {l : List Pd} (h : fewP l) (b : Bat) : fewP (tapplyD l b) := by
 unfold tapplyD
 split
 · exact h
 · split
   · intro p hp
     rcases List.mem_or_eq_of_mem_set hp with h1 | h1
     · exact h p h1
     · rw [h1]; exact apply_few (get_few h _) _ _
   · intro p hp
     rcases List.mem_append.1 hp with h1 | h1
     · exact h p (List.mem_of_mem_take h1)
     · rcases List.mem_cons.1 h1 with h1 | h1
       · rw [h1]; exact apply_few (Nat.zero_le _) _ _
       · exact h p (List.mem_of_mem_drop h1)
theorem foldP_few : ∀ {l : List Pd} (bs : List Bat), fewP l → fewP (foldP l bs)
 | l, [], h => h
 | l, b :: bs, h => foldP_few bs (tapply_few h b)
theorem tapply_len (l : List Pd) (b : Bat) : (tapplyD l b).length ≤ l.length + 1 := by
 unfold tapplyD
 split
 · omega
 · split
   · simp
   · simp; have := atD_le l b.prod; omega
theorem foldP_len : ∀ (l : List Pd) (bs : List Bat), (foldP l bs).length ≤ l.length + bs.length
 | l, [] => by simp [foldP]
 | l, b :: bs => by
   have h1 := foldP_len (tapplyD l b) bs
   have h2 := tapply_len l b
   show (foldP (tapplyD l b) bs).length ≤ _
   simp; omega
end Go.ProdMath
namespace Go.ProdMath
open Go.SeqMath
open Go.BatMath
set_option linter.unusedVariables false

/-- All batches are right. -/
def RowOk (bs : List Bat) : Prop := ∀ b ∈ bs, rightE b = 0 ∧ b.wf
theorem size_bd (b : Bat) : 0 ≤ sizeB b ∧ sizeB b ≤ 2404 := by
 unfold sizeB
 split
 · rename_i h
   have := ok_len (ok_of h)
   omega
 · omega
theorem bytesD_snoc : ∀ (l : List Bat) (b : Bat), bytesD (l ++ [b]) = bytesD l + sizeB b
 | [], b => by simp [bytesD]
 | a :: l, b => by
   have := bytesD_snoc l b
   show sizeB a + bytesD (l ++ [b]) = sizeB a + bytesD l + sizeB b
   omega
theorem bytesD_bd : ∀ (l : List Bat), 0 ≤ bytesD l ∧ bytesD l ≤ 2404 * (l.length : Int)
 | [] => by simp [bytesD]
 | a :: l => by
   have h1 := bytesD_bd l
   have h2 := size_bd a
   show 0 ≤ sizeB a + bytesD l ∧ sizeB a + bytesD l ≤ _
   rw [List.length_cons]
   omega
noncomputable def putD (cap start : Int) (bs : List Bat) (b : Bat) : (Int × Int) × List Bat :=
 if (tcheckD (foldP [] bs) b).2 ≠ 0 then ((-1, (tcheckD (foldP [] bs) b).2), bs)
 else if 0 ≤ (tcheckD (foldP [] bs) b).1 then (((tcheckD (foldP [] bs) b).1, 0), bs)
 else if cap < bytesD bs + sizeB b then ((-1, 17), bs)
 else if 1099511627776 < endD start bs + countD b then ((-1, 18), bs)
 else ((b.base, 0), bs ++ [b])
noncomputable def produceD (cap start : Int) (bs : List Bat) (b : Bat) : (Int × Int) × List Bat :=
 if rightE (b.at (endD start bs)) ≠ 0 then ((-1, rightE (b.at (endD start bs))), bs)
 else if b.marker ≠ 0 then ((-1, 16), bs)
 else putD cap start bs (b.at (endD start bs))
noncomputable def markD (cap start : Int) (bs : List Bat) (p e m : Int) : (Int × Int) × List Bat :=
 if m = 0 then ((-1, 12), bs) else putD cap start bs ⟨endD start bs, p, e, -1, true, m, []⟩
theorem tcheck_right {l : List Pd} {b : Bat} (h : (tcheckD l b).2 = 0) : rightE b = 0 := by
 unfold tcheckD at h
 split at h
 · simp only at h; assumption
 · rename_i h1; exact Classical.byContradiction fun h2 => h1 h2
/-- A row that a partition may have. -/
inductive RowD (start : Int) : List Bat → Prop
 | nil : RowD start []
 | snoc {l : List Bat} {b : Bat} : RowD start l → b.base = endD start l → b.wf → (tcheckD (foldP [] l) b).2 = 0 → (tcheckD (foldP [] l) b).1 < 0 → endD start l + countD b ≤ 1099511627776 → RowD start (l ++ [b])
theorem rowD_ok {start : Int} {bs : List Bat} (h : RowD start bs) : RowOk bs := by
 induction h with
 | nil => intro b hb; cases hb
 | snoc _ _ h2 h1 _ _ ih =>
   intro b hb
   rcases List.mem_append.1 hb with h3 | h3
   · exact ih b h3
   · rw [List.mem_singleton.1 h3]; exact ⟨tcheck_right h1, h2⟩
theorem end_last {start : Int} {bs : List Bat} {b : Bat} (h : bs.getLast? = some b) : endD start bs = b.base + countD b := by unfold endD; rw [h]
theorem rowD_end {start : Int} {bs : List Bat} (h : RowD start bs) (h0 : 0 ≤ start) (h1 : start ≤ 1099511627776) : 0 ≤ endD start bs ∧ endD start bs ≤ 1099511627776 := by
 cases h with
 | nil => exact ⟨h0, h1⟩
 | @snoc l b h2 hb hw hr hc he =>
   rw [end_last (b := b) (by simp), hb]
   have := ok_of (tcheck_right hr)
   have h3 := this.base0
   have h4 : 0 ≤ countD b := by unfold countD; split <;> omega
   omega
end Go.ProdMath
namespace Go.ProdMath
open Go.SeqMath
open Go.BatMath
set_option linter.unusedVariables false

/-- In ascending order. -/
def Asc (l : List Pd) : Prop := l.Pairwise fun a b => a.id < b.id
def lookD (l : List Pd) (k : Int) : Option Pd := l.find? fun p => decide (p.id = k)
/-- Put in its place, or in the place of the one of its number. -/
def insD : List Pd → Pd → List Pd
 | [], x => [x]
 | p :: l, x => if p.id < x.id then p :: insD l x else if p.id = x.id then x :: l else x :: p :: l
theorem look_cons (p : Pd) (l : List Pd) (k : Int) : lookD (p :: l) k = if p.id = k then some p else lookD l k := by
 unfold lookD
 rw [List.find?_cons]
 by_cases h : p.id = k
 · rw [if_pos h, decide_eq_true h]
 · rw [if_neg h, decide_eq_false h]
theorem look_above {l : List Pd} {k : Int} (h : ∀ p ∈ l, k < p.id) : lookD l k = none := by
 unfold lookD
 rw [List.find?_eq_none]
 intro p hp
 have := h p hp
 simp; omega
theorem look_id {l : List Pd} {k : Int} {p : Pd} (h : lookD l k = some p) : p.id = k ∧ p ∈ l := by
 unfold lookD at h
 exact ⟨by simpa using List.find?_some h, List.mem_of_find?_eq_some h⟩
theorem asc_tail {p : Pd} {l : List Pd} (h : Asc (p :: l)) : Asc l := (List.pairwise_cons.1 h).2
theorem asc_head {p : Pd} {l : List Pd} (h : Asc (p :: l)) : ∀ q ∈ l, p.id < q.id := (List.pairwise_cons.1 h).1
/-- What the document's own look-up finds. -/
theorem has_look : ∀ {l : List Pd} (h : Asc l) (k : Int), hasD l k = (lookD l k).isSome ∧ getD l k = (lookD l k).getD Pd.zero
 | [], _, k => ⟨rfl, rfl⟩
 | p :: l, h, k => by
   have ih := has_look (asc_tail h) k
   rw [look_cons]
   by_cases h1 : p.id < k
   · rw [if_neg (by omega)]
     have e1 : hasD (p :: l) k = hasD l k := by
      unfold hasD
      rw [show atD (p :: l) k = atD l k + 1 from by rw [atD, if_pos h1]]
      rfl
     have e2 : getD (p :: l) k = getD l k := by
      unfold getD
      rw [e1, show atD (p :: l) k = atD l k + 1 from by rw [atD, if_pos h1]]
      rfl
     rw [e1, e2]
     exact ih
   · have e0 : atD (p :: l) k = 0 := by rw [atD, if_neg h1]
     by_cases h2 : p.id = k
     · rw [if_pos h2]
       have e1 : hasD (p :: l) k = true := by
        unfold hasD
        rw [e0]
        show decide (p.id = k) = true
        exact decide_eq_true h2
       refine ⟨by rw [e1]; rfl, ?_⟩
       unfold getD
       rw [e1, e0]; rfl
     · rw [if_neg h2]
       have e1 : hasD (p :: l) k = false := by
        unfold hasD
        rw [e0]
        show decide (p.id = k) = false
        exact decide_eq_false h2
       have e3 : lookD l k = none := look_above fun q hq => by have := asc_head h q hq; omega
       rw [e3]
       refine ⟨e1, ?_⟩
       unfold getD
       rw [e1]; rfl
theorem ins_ids : ∀ (l : List Pd) (x : Pd) (q : Pd), q ∈ insD l x → q = x ∨ q ∈ l
 | [], x, q, h => .inl (by simpa [insD] using h)
 | p :: l, x, q, h => by
   unfold insD at h
   split at h
   · rcases List.mem_cons.1 h with h | h
     · exact .inr (by simp [h])
     · rcases ins_ids l x q h with h | h
       · exact .inl h
       · exact .inr (by simp [h])
   · split at h
     · rcases List.mem_cons.1 h with h | h
       · exact .inl h
       · exact .inr (by simp [h])
     · rcases List.mem_cons.1 h with h | h
       · exact .inl h
       · exact .inr h
theorem ins_asc : ∀ {l : List Pd} (x : Pd), Asc l → Asc (insD l x)
 | [], x, _ => List.pairwise_singleton _ _
 | p :: l, x, h => by
   unfold insD
   split
   · rename_i h1
     refine List.pairwise_cons.2 ⟨fun q hq => ?_, ins_asc x (asc_tail h)⟩
     rcases ins_ids l x q hq with e | e
     · rw [e]; exact h1
     · exact asc_head h q e
   · rename_i h1
     split
     · rename_i h2
       exact List.pairwise_cons.2 ⟨fun q hq => by have := asc_head h q hq; omega, asc_tail h⟩
     · rename_i h2
       refine List.pairwise_cons.2 ⟨fun q hq => ?_, h⟩
       rcases List.mem_cons.1 hq with e | e
       · rw [e]; omega
       · have := asc_head h q e; omega
theorem look_ins : ∀ {l : List Pd} (x : Pd) (k : Int), Asc l → lookD (insD l x) k = if x.id = k then some x else lookD l k
 | [], x, k, _ => by show lookD [x] k = _; rw [look_cons]
 | p :: l, x, k, h => by
   unfold insD
   split
   · rename_i h1
     rw [look_cons, look_ins x k (asc_tail h), look_cons]
     by_cases h2 : p.id = k
     · rw [if_pos h2, if_neg (by omega), if_pos h2]
     · rw [if_neg h2, if_neg h2]
   · rename_i h1
     split
     · rename_i h2
       rw [look_cons, look_cons]
       by_cases h3 : x.id = k
       · rw [if_pos h3, if_pos h3]
       · rw [if_neg h3, if_neg h3, if_neg (by omega)]
     · rw [look_cons]
theorem apply_id (p : Pd) (k : Bool) (b : Bat) : (applyD p k b).id = b.prod := by
 unfold applyD
 split <;> rfl
/-- What a batch turns: its producer's state alone. -/
theorem tapply_ins : ∀ {l : List Pd} (h : Asc l) (b : Bat), rightE b = 0 → 0 ≤ b.prod → tapplyD l b = insD l (applyD ((lookD l b.prod).getD Pd.zero) (lookD l b.prod).isSome b) := by
 intro l h b h0 h1
 have hl := has_look h b.prod
 unfold tapplyD
 rw [if_neg (by omega)]
 have key : ∀ (l : List Pd) (x : Pd), x.id = b.prod → Asc l → (if hasD l b.prod = true then l.set (atD l b.prod) x else l.take (atD l b.prod) ++ x :: l.drop (atD l b.prod)) = insD l x := by
  intro l
  induction l with
  | nil => intro x hx _; rfl
  | cons p l ih =>
    intro x hx ha
    have hi := ih x hx (asc_tail ha)
    have hh := has_look ha b.prod
    have hh2 := has_look (asc_tail ha) b.prod
    by_cases h2 : p.id < b.prod
    · rw [show atD (p :: l) b.prod = atD l b.prod + 1 from by rw [atD, if_pos h2]]
      have e1 : hasD (p :: l) b.prod = hasD l b.prod := by rw [hh.1, hh2.1, look_cons, if_neg (by omega)]
      have e2 : insD (p :: l) x = p :: insD l x := by rw [insD, if_pos (show p.id < x.id by omega)]
      rw [e1, e2, ← hi]
      cases hasD l b.prod
      · rfl
      · rfl
    · rw [show atD (p :: l) b.prod = 0 from by rw [atD, if_neg h2]]
      by_cases h3 : p.id = b.prod
      · have e1 : hasD (p :: l) b.prod = true := by rw [hh.1, look_cons, if_pos h3]; rfl
        have e2 : insD (p :: l) x = x :: l := by rw [insD, if_neg (show ¬ p.id < x.id by omega), if_pos (show p.id = x.id by omega)]
        rw [e1, e2]; rfl
      · have e1 : hasD (p :: l) b.prod = false := by
         rw [hh.1, look_cons, if_neg h3, look_above fun q hq => by have := asc_head ha q hq; omega]; rfl
        have e2 : insD (p :: l) x = x :: p :: l := by rw [insD, if_neg (show ¬ p.id < x.id by omega), if_neg (show ¬ p.id = x.id by omega)]
        rw [e1, e2]; rfl
 have k1 := key l (applyD ((lookD l b.prod).getD Pd.zero) (lookD l b.prod).isSome b) (apply_id _ _ _) h
 rw [← k1]
 split
 · rename_i hs
   rw [hl.2]
   rw [hl.1] at hs
   rw [hs]
 · rename_i hs
   rw [hl.1] at hs
   have hn : lookD l b.prod = none := by cases hq : lookD l b.prod <;> simp_all
   rw [hn]; rfl
theorem tapply_no {l : List Pd} {b : Bat} (h : rightE b ≠ 0 ∨ b.prod < 0) : tapplyD l b = l := by unfold tapplyD; rw [if_pos h]
theorem tapply_asc {l : List Pd} (h : Asc l) (b : Bat) : Asc (tapplyD l b) := by
 by_cases h0 : rightE b ≠ 0 ∨ b.prod < 0
 · rw [tapply_no h0]; exact h
 · rw [tapply_ins h b (Classical.byContradiction fun h1 => h0 (.inl h1)) (by omega)]
   exact ins_asc _ h
theorem fold_asc : ∀ {l : List Pd} (bs : List Bat), Asc l → Asc (foldP l bs)
 | l, [], h => h
 | l, b :: bs, h => fold_asc bs (tapply_asc h b)
/-- What is known of one producer behind some batches. -/
noncomputable def stepD (s : Option Pd) (b : Bat) : Option Pd := some (applyD (s.getD Pd.zero) s.isSome b)
theorem look_tapply {l : List Pd} (h : Asc l) (b : Bat) (k : Int) : lookD (tapplyD l b) k = if rightE b = 0 ∧ 0 ≤ b.prod ∧ b.prod = k then stepD (lookD l k) b else lookD l k := by
 by_cases h0 : rightE b ≠ 0 ∨ b.prod < 0
 · rw [tapply_no h0, if_neg (fun h1 => by rcases h0 with h2 | h2; exact h2 h1.1; have := h1.2.1; omega)]
 · have h1 : rightE b = 0 := Classical.byContradiction fun h1 => h0 (.inl h1)
   have h2 : 0 ≤ b.prod := by omega
   rw [tapply_ins h b h1 h2, look_ins _ _ h, apply_id]
   by_cases h3 : b.prod = k
   · rw [if_pos h3, if_pos ⟨h1, h2, h3⟩, h3]; rfl
   · rw [if_neg h3, if_neg (fun h4 => h3 h4.2.2)]
noncomputable def stateD (k : Int) : Option Pd → List Bat → Option Pd
 | s, [] => s
 | s, b :: bs => stateD k (if rightE b = 0 ∧ 0 ≤ b.prod ∧ b.prod = k then stepD s b else s) bs
theorem look_fold (k : Int) : ∀ {l : List Pd} (bs : List Bat), Asc l → lookD (foldP l bs) k = stateD k (lookD l k) bs
 | l, [], h => rfl
 | l, b :: bs, h => by
   show lookD (foldP (tapplyD l b) bs) k = stateD k _ bs
   rw [look_fold k bs (tapply_asc h b), look_tapply h b k]
end Go.ProdMath
namespace Go.ProdMath
open Go.SeqMath
open Go.BatMath
set_option linter.unusedVariables false

/-- The least Open of those that have one; -1, if none has. -/
def IsLeast (l : List Pd) (v : Int) : Prop := (v = -1 ∧ ∀ p ∈ l, p.opn < 0) ∨ (0 ≤ v ∧ (∃ p ∈ l, p.opn = v) ∧ ∀ p ∈ l, 0 ≤ p.opn → v ≤ p.opn)
theorem least_one {l : List Pd} {v u : Int} (h : IsLeast l v) (h2 : IsLeast l u) : v = u := by
 rcases h with ⟨e, h⟩ | ⟨h0, ⟨p, hp, hv⟩, hm⟩ <;> rcases h2 with ⟨e2, h2⟩ | ⟨g0, ⟨q, hq, hu⟩, gm⟩
 · omega
 · have := h q hq; omega
 · have := h2 p hp; omega
 · have h3 := hm q hq (by omega)
   have h4 := gm p hp (by omega)
   omega
def endsB (k : Int) (l : List Bat) : Bool := l.any fun c => decide (c.marker ≠ 0) && decide (c.prod = k)
def opensB (b : Bat) (l : List Bat) : Bool := b.txn && (decide (b.marker = 0) && !endsB b.prod l)
def firstOpen : List Bat → Int
 | [] => -1
 | b :: l => if opensB b l = true then b.base else firstOpen l
def pOpen (k : Int) : List Bat → Int
 | [] => -1
 | b :: l => if b.prod = k ∧ opensB b l = true then b.base else pOpen k l
def opnS (s : Option Pd) : Int := match s with | some p => p.opn | none => -1
theorem ends_cons (k : Int) (b : Bat) (l : List Bat) : endsB k (b :: l) = ((decide (b.marker ≠ 0) && decide (b.prod = k)) || endsB k l) := rfl
theorem opn_step (s : Option Pd) (b : Bat) : opnS (stepD s b) = if b.marker ≠ 0 then -1 else if b.txn = true ∧ opnS s < 0 then b.base else opnS s := by
 unfold stepD opnS applyD oldOpen
 cases s with
 | none =>
   by_cases h : b.marker ≠ 0
   · simp [h]
   · simp [h]
 | some p =>
   by_cases h : b.marker ≠ 0
   · simp [h]
   · simp [h]
/-- What one producer has open, behind some batches. -/
theorem state_opn (k : Int) (hk : 0 ≤ k) : ∀ (s : Option Pd) (bs : List Bat), -1 ≤ opnS s → (∀ b ∈ bs, rightE b = 0 ∧ 0 ≤ b.base) → opnS (stateD k s bs) = if endsB k bs = false ∧ 0 ≤ opnS s then opnS s else pOpen k bs
 | s, [], hs, _ => by
   show opnS s = if endsB k [] = false ∧ 0 ≤ opnS s then opnS s else -1
   split
   · rfl
   · rename_i h
     by_cases h2 : 0 ≤ opnS s
     · exact absurd ⟨rfl, h2⟩ h
     · omega
 | s, b :: bs, hs0, h => by
   have hb := h b (by simp)
   have ih := fun s hs => state_opn k hk s bs hs fun c hc => h c (by simp [hc])
   rw [ends_cons]
   by_cases hp : b.prod = k
   · have e1 : stateD k s (b :: bs) = stateD k (stepD s b) bs := by
      show stateD k (if rightE b = 0 ∧ 0 ≤ b.prod ∧ b.prod = k then stepD s b else s) bs = _
      rw [if_pos ⟨hb.1, by omega, hp⟩]
     have e2 : pOpen k (b :: bs) = if opensB b bs = true then b.base else pOpen k bs := by
      show (if b.prod = k ∧ opensB b bs = true then b.base else pOpen k bs) = _
      simp [hp]
     have hs := opn_step s b
     have hs1 : -1 ≤ opnS (stepD s b) := by
      rw [hs]
      split
      · omega
      · split
        · have := hb.2; omega
        · exact hs0
     have i1 := ih (stepD s b) hs1
     have hb0 := hb.2
     rw [e1, e2, i1]
     by_cases hm : b.marker = 0
     · have e3 : opensB b bs = (b.txn && !endsB k bs) := by unfold opensB; rw [hp]; simp [hm]
       rw [if_neg (by simp [hm])] at hs
       have e4 : (decide (b.marker ≠ 0) && decide (b.prod = k) || endsB k bs) = endsB k bs := by simp [hm]
       rw [e3, e4]
       cases he : endsB k bs
       · cases ht : b.txn
         · rw [ht, if_neg (by simp)] at hs
           rw [hs]; rfl
         · rw [ht] at hs
           by_cases h0 : opnS s < 0
           · rw [if_pos ⟨rfl, h0⟩] at hs
             rw [hs, if_pos ⟨rfl, hb0⟩, if_neg (by omega)]; rfl
           · rw [if_neg (fun h => h0 h.2)] at hs
             rw [hs]
             rw [if_pos ⟨rfl, by omega⟩, if_pos ⟨rfl, by omega⟩]
       · cases ht : b.txn <;> simp
     · have e3 : opensB b bs = false := by unfold opensB; simp [hm]
       have e4 : (decide (b.marker ≠ 0) && decide (b.prod = k) || endsB k bs) = true := by simp [hm, hp]
       rw [if_pos hm] at hs
       rw [e3, e4, hs]
       rw [if_neg (by omega), if_neg (fun h => by cases h.1), if_neg (by decide)]
   · have e1 : stateD k s (b :: bs) = stateD k s bs := by
      show stateD k (if rightE b = 0 ∧ 0 ≤ b.prod ∧ b.prod = k then stepD s b else s) bs = _
      rw [if_neg (fun h => hp h.2.2)]
     have e2 : pOpen k (b :: bs) = pOpen k bs := by
      show (if b.prod = k ∧ opensB b bs = true then b.base else pOpen k bs) = _
      rw [if_neg (fun h => hp h.1)]
     rw [e1, e2, decide_eq_false hp, Bool.and_false, Bool.false_or]
     exact ih s hs0
/-- Nothing is known of a producer with a number below 0. -/
theorem state_none (k : Int) (hk : k < 0) : ∀ (bs : List Bat), stateD k none bs = none
 | [] => rfl
 | b :: bs => by
   show stateD k (if rightE b = 0 ∧ 0 ≤ b.prod ∧ b.prod = k then stepD none b else none) bs = none
   rw [if_neg (by omega)]
   exact state_none k hk bs
theorem pOpen_bd (k : Int) : ∀ (bs : List Bat), (∀ b ∈ bs, 0 ≤ b.base) → pOpen k bs = -1 ∨ ∃ b ∈ bs, pOpen k bs = b.base
 | [], _ => .inl rfl
 | b :: bs, h => by
   unfold pOpen
   split
   · exact .inr ⟨b, by simp, rfl⟩
   · rcases pOpen_bd k bs fun c hc => h c (by simp [hc]) with e | ⟨c, hc, e⟩
     · exact .inl e
     · exact .inr ⟨c, by simp [hc], e⟩
/-- The first one of all is the least of those of each. -/
theorem first_least : ∀ (bs : List Bat), (bs.Pairwise fun a b => a.base < b.base) → (∀ b ∈ bs, 0 ≤ b.base) → (∀ b ∈ bs, b.txn = true → 0 ≤ b.prod) →
 (firstOpen bs = -1 ∧ ∀ k, pOpen k bs = -1) ∨ (0 ≤ firstOpen bs ∧ (∃ k, 0 ≤ k ∧ pOpen k bs = firstOpen bs) ∧ ∀ k, 0 ≤ pOpen k bs → firstOpen bs ≤ pOpen k bs)
 | [], _, _, _ => .inl ⟨rfl, fun k => rfl⟩
 | b :: bs, hp, h0, ht => by
   have h1 := List.pairwise_cons.1 hp
   by_cases ho : opensB b bs = true
   · have e : firstOpen (b :: bs) = b.base := by unfold firstOpen; rw [if_pos ho]
     have hb := h0 b (by simp)
     have htx : b.txn = true := by unfold opensB at ho; simp at ho; exact ho.1
     refine .inr ⟨by rw [e]; exact hb, ⟨b.prod, ht b (by simp) htx, ?_⟩, fun k hk => ?_⟩
     · rw [e]; unfold pOpen; rw [if_pos ⟨rfl, ho⟩]
     · rw [e]
       unfold pOpen at hk ⊢
       split
       · omega
       · rename_i h2
         rw [if_neg h2] at hk
         rcases pOpen_bd k bs fun c hc => h0 c (by simp [hc]) with e2 | ⟨c, hc, e2⟩
         · omega
         · have := h1.1 c hc; omega
   · have e : firstOpen (b :: bs) = firstOpen bs := by
      show (if opensB b bs = true then b.base else firstOpen bs) = _
      rw [if_neg ho]
     have e2 : ∀ k, pOpen k (b :: bs) = pOpen k bs := fun k => by
      show (if b.prod = k ∧ opensB b bs = true then b.base else pOpen k bs) = _
      rw [if_neg (fun h => ho h.2)]
     rw [e]
     simp only [e2]
     exact first_least bs h1.2 (fun c hc => h0 c (by simp [hc])) (fun c hc => ht c (by simp [hc]))
theorem asc_nil : Asc [] := List.Pairwise.nil
theorem fold_state (bs : List Bat) (k : Int) : lookD (foldP [] bs) k = stateD k none bs := look_fold k bs asc_nil
theorem look_mem {l : List Pd} (h : Asc l) {p : Pd} (hp : p ∈ l) : lookD l p.id = some p := by
 induction l with
 | nil => cases hp
 | cons q l ih =>
   rw [look_cons]
   rcases List.mem_cons.1 hp with e | e
   · rw [e, if_pos rfl]
   · have := asc_head h p e
     rw [if_neg (by omega)]
     exact ih (asc_tail h) e
/-- The first offset that is open, of a row that a partition may have. -/
theorem fold_least (bs : List Bat) (hr : ∀ b ∈ bs, rightE b = 0) (hp : bs.Pairwise fun a b => a.base < b.base) (h0 : ∀ b ∈ bs, 0 ≤ b.base) (ht : ∀ b ∈ bs, b.txn = true → 0 ≤ b.prod) : IsLeast (foldP [] bs) (firstOpen bs) := by
 have hasc := fold_asc bs asc_nil
 have hst : ∀ p ∈ foldP [] bs, 0 ≤ p.id ∧ p.opn = pOpen p.id bs := by
  intro p hp
  have h1 := look_mem hasc hp
  rw [fold_state] at h1
  by_cases hk : 0 ≤ p.id
  · refine ⟨hk, ?_⟩
    have h2 := state_opn p.id hk none bs (by decide) (fun b hb => ⟨hr b hb, h0 b hb⟩)
    rw [h1, if_neg (fun h => by have := h.2; revert this; decide)] at h2
    exact h2
  · rw [state_none _ (by omega)] at h1; cases h1
 rcases first_least bs hp h0 ht with ⟨e, h⟩ | ⟨hv, ⟨k, hk, hke⟩, hm⟩
 · exact .inl ⟨e, fun p hp => by rw [(hst p hp).2, h]; decide⟩
 · refine .inr ⟨hv, ?_, fun p hp hp0 => ?_⟩
   · have h2 := state_opn k hk none bs (by decide) (fun b hb => ⟨hr b hb, h0 b hb⟩)
     rw [if_neg (fun h => by have := h.2; revert this; decide)] at h2
     cases hs : stateD k none bs with
     | none =>
       rw [hs] at h2
       have h3 : pOpen k bs = -1 := h2.symm
       omega
     | some p =>
       rw [hs] at h2
       have h3 : p.opn = pOpen k bs := h2
       have h4 := fold_state bs k
       rw [hs] at h4
       exact ⟨p, (look_id h4).2, by omega⟩
   · rw [(hst p hp).2] at hp0 ⊢
     exact hm _ hp0
end Go.ProdMath
namespace Go.ProdMath
open Go.SeqMath
open Go.BatMath
set_option linter.unusedVariables false

theorem right_count {b : Bat} (h : rightE b = 0) : 1 ≤ countD b := by
 unfold countD
 split
 · omega
 · rename_i hm
   unfold rightE at h
   split at h
   · omega
   · split at h
     · rename_i h2
       have := List.length_pos_iff.2 h2.2
       omega
     · omega
theorem right_txn {b : Bat} (h : rightE b = 0) (ht : b.txn = true) : 0 ≤ b.prod := by
 unfold rightE at h
 split at h
 · omega
 · split at h
   · split at h
     · rename_i h2; exact (head_of h2.2.1).1
     · omega
   · split at h
     · rename_i h2
       rcases h2.1 with h3 | h3
       · have := (none_of h3).2.2.2
         rw [ht] at this; cases this
       · exact (head_of h3.1).1
     · omega
theorem row_bases {start : Int} {bs : List Bat} (h : RowD start bs) (h0 : 0 ≤ start) : (bs.Pairwise fun a b => a.base < b.base) ∧ (∀ b ∈ bs, 0 ≤ b.base ∧ b.base < endD start bs) ∧ start ≤ endD start bs := by
 induction h with
 | nil => exact ⟨List.Pairwise.nil, (fun b hb => by cases hb), Int.le_refl _⟩
 | @snoc l b h2 hb hw hr hc he ih =>
   obtain ⟨i1, i2, i3⟩ := ih
   have h3 := right_count (tcheck_right hr)
   have e : endD start (l ++ [b]) = endD start l + countD b := by rw [end_last (b := b) (by simp), hb]
   refine ⟨List.pairwise_append.2 ⟨i1, List.pairwise_singleton _ _, fun a ha c hc => ?_⟩, fun c hc => ?_, by omega⟩
   · rw [List.mem_singleton.1 hc, hb]
     exact (i2 a ha).2
   · rcases List.mem_append.1 hc with h4 | h4
     · have := i2 c h4; omega
     · rw [List.mem_singleton.1 h4]; omega
theorem row_least {start : Int} {bs : List Bat} (h : RowD start bs) (h0 : 0 ≤ start) : IsLeast (foldP [] bs) (firstOpen bs) := by
 have h1 := row_bases h h0
 have h2 := rowD_ok h
 exact fold_least bs (fun b hb => (h2 b hb).1) h1.1 (fun b hb => (h1.2.1 b hb).1) (fun b hb ht => right_txn (h2 b hb).1 ht)
end Go.ProdMath
namespace Go.FoMath
open Go.ProdMath
open Go.BatMath
set_option linter.unusedVariables false

/-- A record with its offset and its producer. -/
structure Gt where
 off : Int
 prod : Int
 rc : Rc
def recsG (p : Int) : Int → List Rc → List Gt
 | _, [] => []
 | n, r :: l => ⟨n, p, r⟩ :: recsG p (n + 1) l
def batG (b : Bat) (a z : Int) : List Gt := if b.marker = 0 then (recsG b.prod b.base b.recs).filter (fun g => decide (a ≤ g.off ∧ g.off < z)) else []
def recordsD : List Bat → Int → Int → List Gt
 | [], _, _ => []
 | b :: l, a, z => batG b a z ++ recordsD l a z
def stableD (start : Int) (bs : List Bat) : Int := if firstOpen bs = -1 then endD start bs else firstOpen bs
def nextMark (k : Int) : List Bat → Int
 | [] => 1
 | c :: l => if c.marker ≠ 0 ∧ c.prod = k then c.marker else nextMark k l
def commG (a z : Int) : List Bat → List Gt
 | [] => []
 | b :: l => (if b.txn = false ∨ nextMark b.prod l = 1 then batG b a z else []) ++ commG a z l
def committedD (start : Int) (bs : List Bat) : List Gt := commG start (stableD start bs) bs

theorem recsG_mem {p : Int} : ∀ {l : List Rc} {n : Int} {g : Gt}, g ∈ recsG p n l → n ≤ g.off ∧ g.off < n + (l.length : Int)
 | [], n, g, h => by cases h
 | r :: l, n, g, h => by
   rcases List.mem_cons.1 h with rfl | h
   · simp only [List.length_cons]; omega
   · have := recsG_mem h
     simp only [List.length_cons]
     omega
theorem recsG_asc {p : Int} : ∀ (l : List Rc) (n : Int), (recsG p n l).Pairwise fun a b => a.off < b.off
 | [], n => List.Pairwise.nil
 | r :: l, n => List.pairwise_cons.2 ⟨fun g hg => by have := (recsG_mem hg).1; show n < _; omega, recsG_asc l (n + 1)⟩
theorem batG_mem {b : Bat} {a z : Int} {g : Gt} (h : g ∈ batG b a z) : b.marker = 0 ∧ b.base ≤ g.off ∧ g.off < b.base + countD b ∧ a ≤ g.off ∧ g.off < z := by
 unfold batG at h
 split at h
 · rename_i hm
   obtain ⟨h1, h2⟩ := List.mem_filter.1 h
   have h3 := recsG_mem h1
   have h4 := of_decide_eq_true h2
   have hc : countD b = (b.recs.length : Int) := by unfold countD; rw [if_neg (by omega)]
   rw [hc]
   exact ⟨hm, h3.1, h3.2, h4⟩
 · cases h
theorem batG_high {b : Bat} {a z : Int} (h : z ≤ b.base) : batG b a z = [] := List.eq_nil_iff_forall_not_mem.2 fun g hg => by have := batG_mem hg; omega
theorem batG_all {b : Bat} {a z z' : Int} (h : b.base + countD b ≤ z) (h2 : b.base + countD b ≤ z') : batG b a z = batG b a z' := by
 unfold batG
 split
 · rename_i hm
   have hc : countD b = (b.recs.length : Int) := by unfold countD; rw [if_neg (by omega)]
   rw [hc] at h h2
   apply List.filter_congr
   intro g hg
   have := recsG_mem hg
   apply decide_eq_decide.2
   omega
 · rfl
theorem batG_asc (b : Bat) (a z : Int) : (batG b a z).Pairwise fun x y => x.off < y.off := by
 unfold batG
 split
 · exact (recsG_asc _ _).filter _
 · exact List.Pairwise.nil
/-- Each batch begins where the one ahead of it ended, or behind it. -/
def Chain (E : Int) : List Bat → Prop
 | [] => True
 | b :: l => 1 ≤ countD b ∧ 0 ≤ b.base ∧ b.base + countD b ≤ E ∧ (∀ c ∈ l, b.base + countD b ≤ c.base) ∧ Chain E l
theorem Chain.base {E : Int} : ∀ {l : List Bat}, Chain E l → ∀ b ∈ l, 0 ≤ b.base ∧ 1 ≤ countD b ∧ b.base + countD b ≤ E
 | [], _, b, hb => by cases hb
 | c :: l, h, b, hb => by
   obtain ⟨h1, h2, h3, h4, h5⟩ := h
   rcases List.mem_cons.1 hb with rfl | hb
   · exact ⟨h2, h1, h3⟩
   · exact h5.base b hb
theorem chain_app {E E' : Int} : ∀ {l m : List Bat}, Chain E l → Chain E' m → E ≤ E' → (∀ c ∈ m, E ≤ c.base) → Chain E' (l ++ m)
 | [], m, _, h2, _, _ => h2
 | b :: l, m, h, h2, he, hm => by
   obtain ⟨h1, h0, h3, h4, h5⟩ := h
   refine ⟨h1, h0, by omega, fun c hc => ?_, chain_app h5 h2 he hm⟩
   rcases List.mem_append.1 hc with hc | hc
   · exact h4 c hc
   · have := hm c hc; omega
theorem row_chain {start : Int} {bs : List Bat} (h : RowD start bs) (h0 : 0 ≤ start) : Chain (endD start bs) bs ∧ start ≤ endD start bs := by
 induction h with
 | nil => exact ⟨trivial, Int.le_refl _⟩
 | @snoc l b h2 hb hw hr hc he ih =>
   obtain ⟨i1, i2⟩ := ih
   have h3 := right_count (tcheck_right hr)
   have e : endD start (l ++ [b]) = endD start l + countD b := by rw [end_last (b := b) (by simp), hb]
   rw [e]
   exact ⟨chain_app i1 ⟨h3, by omega, by omega, (fun c hc => by cases hc), trivial⟩ (by omega) (fun c hc => by rw [List.mem_singleton.1 hc]; omega), by omega⟩
/-- The end of a beginning, and what stands behind it. -/
theorem row_split {start : Int} {bs : List Bat} (h : RowD start bs) (h0 : 0 ≤ start) : ∀ k, Chain (endD start (bs.take k)) (bs.take k) ∧ (∀ c ∈ bs.drop k, endD start (bs.take k) ≤ c.base) ∧ endD start (bs.take k) ≤ endD start bs ∧ start ≤ endD start (bs.take k) := by
 induction h with
 | nil => intro k; simp only [List.take_nil, List.drop_nil]; exact ⟨trivial, (fun c hc => by cases hc), Int.le_refl _, Int.le_refl _⟩
 | @snoc l b h2 hb hw hr hc he ih =>
   intro k
   have h3 := right_count (tcheck_right hr)
   have e : endD start (l ++ [b]) = endD start l + countD b := by rw [end_last (b := b) (by simp), hb]
   by_cases hk : k ≤ l.length
   · obtain ⟨i1, i2, i3, i4⟩ := ih k
     rw [List.take_append_of_le_length hk, List.drop_append_of_le_length hk]
     refine ⟨i1, fun c hc => ?_, by omega, i4⟩
     rcases List.mem_append.1 hc with hc | hc
     · exact i2 c hc
     · rw [List.mem_singleton.1 hc, hb]; exact i3
   · have hl : (l ++ [b]).length ≤ k := by rw [List.length_append, List.length_singleton]; omega
     have hr2 := RowD.snoc h2 hb hw hr hc he
     have hrc := row_chain hr2 h0
     rw [List.take_of_length_le hl, List.drop_of_length_le hl]
     exact ⟨hrc.1, (fun c hc => by cases hc), Int.le_refl _, hrc.2⟩
theorem first_base : ∀ (l : List Bat), firstOpen l = -1 ∨ ∃ b ∈ l, firstOpen l = b.base
 | [] => .inl rfl
 | b :: l => by
   show (if opensB b l = true then b.base else firstOpen l) = -1 ∨ ∃ c ∈ b :: l, (if opensB b l = true then b.base else firstOpen l) = c.base
   split
   · exact .inr ⟨b, by simp, rfl⟩
   · rcases first_base l with h | ⟨c, hc, e⟩
     · exact .inl h
     · exact .inr ⟨c, by simp [hc], e⟩
/-- What is stable of a row that ends at E. -/
def stG (E : Int) (l : List Bat) : Int := if firstOpen l = -1 then E else firstOpen l
theorem stG_nil (E : Int) : stG E [] = E := rfl
theorem stG_cons (E : Int) (b : Bat) (l : List Bat) (h0 : 0 ≤ b.base) : stG E (b :: l) = if opensB b l = true then b.base else stG E l := by
 unfold stG
 show (if (if opensB b l = true then b.base else firstOpen l) = -1 then E else if opensB b l = true then b.base else firstOpen l) = _
 split <;> split <;> first | rfl | omega | skip
theorem stG_in {E B : Int} {l : List Bat} (h : ∀ c ∈ l, B ≤ c.base) (hE : B ≤ E) : B ≤ stG E l := by
 unfold stG
 rcases first_base l with e | ⟨c, hc, e⟩
 · rw [if_pos e]; exact hE
 · split
   · exact hE
   · rw [e]; exact h c hc
theorem ends_app (k : Int) (l m : List Bat) : endsB k (l ++ m) = (endsB k l || endsB k m) := by unfold endsB; rw [List.any_append]
theorem opens_app {b : Bat} {l m : List Bat} (h : opensB b l = false) : opensB b (l ++ m) = false := by
 unfold opensB at *
 rw [ends_app]
 cases h1 : b.txn <;> cases h2 : decide (b.marker = 0) <;> cases h3 : endsB b.prod l <;> simp_all
theorem opens_no {b : Bat} {l : List Bat} (h : opensB b l = false) : b.txn = false ∨ b.marker ≠ 0 ∨ endsB b.prod l = true := by
 unfold opensB at h
 by_cases h2 : b.marker = 0
 · cases h1 : b.txn
   · exact .inl rfl
   · rw [h1, decide_eq_true h2] at h
     exact .inr (.inr (by simpa using h))
 · exact .inr (.inl h2)
/-- What is stable never falls as more comes. -/
theorem stG_mono {E E' : Int} : ∀ {l m : List Bat}, Chain E l → (∀ c ∈ m, E ≤ c.base) → E ≤ E' → stG E l ≤ stG E' (l ++ m)
 | [], m, _, hm, he => by rw [stG_nil]; exact stG_in hm he
 | b :: l, m, h, hm, he => by
   obtain ⟨h1, h0, h3, h4, h5⟩ := h
   have hlow : b.base ≤ stG E' (l ++ m) := stG_in (fun c hc => by
    rcases List.mem_append.1 hc with hc | hc
    · have := h4 c hc; omega
    · have := hm c hc; omega) (by omega)
   show _ ≤ stG E' (b :: (l ++ m))
   rw [stG_cons E b l h0, stG_cons E' b (l ++ m) h0]
   cases ho : opensB b l with
   | true =>
     rw [if_pos rfl]
     split
     · exact Int.le_refl _
     · exact hlow
   | false =>
     rw [if_neg (by decide), opens_app ho, if_neg (by decide)]
     exact stG_mono h5 hm he
theorem stable_st (start : Int) (bs : List Bat) : stableD start bs = stG (endD start bs) bs := rfl
theorem next_app {k : Int} : ∀ {l : List Bat} (m : List Bat), endsB k l = true → nextMark k (l ++ m) = nextMark k l
 | [], m, h => by cases h
 | c :: l, m, h => by
   rw [ends_cons] at h
   show (if c.marker ≠ 0 ∧ c.prod = k then c.marker else nextMark k (l ++ m)) = (if c.marker ≠ 0 ∧ c.prod = k then c.marker else nextMark k l)
   split
   · rfl
   · rename_i hn
     refine next_app m ?_
     cases he : endsB k l
     · rw [he, Bool.or_false, Bool.and_eq_true] at h
       exact absurd ⟨of_decide_eq_true h.1, of_decide_eq_true h.2⟩ hn
     · rfl
theorem comm_high {a T : Int} : ∀ {l : List Bat}, (∀ c ∈ l, T ≤ c.base) → commG a T l = []
 | [], _ => rfl
 | b :: l, h => by
   show (if _ then batG b a T else []) ++ commG a T l = []
   rw [batG_high (h b (by simp)), comm_high (fun c hc => h c (by simp [hc]))]
   simp
/-- What was committed in a beginning is committed in the whole, first. -/
theorem comm_grow {a E T' : Int} : ∀ {l m : List Bat}, Chain E l → (∀ c ∈ m, E ≤ c.base) → stG E l ≤ T' → ∃ rest, commG a T' (l ++ m) = commG a (stG E l) l ++ rest
 | [], m, _, _, _ => ⟨_, rfl⟩
 | b :: l, m, h, hm, hT => by
   obtain ⟨h1, h0, h3, h4, h5⟩ := h
   rw [stG_cons E b l h0] at hT ⊢
   cases ho : opensB b l with
   | true =>
     rw [if_pos rfl]
     refine ⟨commG a T' (b :: l ++ m), ?_⟩
     rw [comm_high (T := b.base) (l := b :: l) (fun c hc => ?_)]
     · rfl
     · rcases List.mem_cons.1 hc with rfl | hc
       · exact Int.le_refl _
       · have := h4 c hc; omega
   | false =>
     rw [ho, if_neg (by decide)] at hT
     rw [if_neg (by decide)]
     obtain ⟨rest, hr⟩ := comm_grow (a := a) (T' := T') h5 hm hT
     refine ⟨rest, ?_⟩
     have hlow : b.base + countD b ≤ stG E l := stG_in h4 h3
     have hb : batG b a T' = batG b a (stG E l) := batG_all (by omega) hlow
     show (if b.txn = false ∨ nextMark b.prod (l ++ m) = 1 then batG b a T' else []) ++ commG a T' (l ++ m) = (if b.txn = false ∨ nextMark b.prod l = 1 then batG b a (stG E l) else []) ++ commG a (stG E l) l ++ rest
     rw [hr, ← List.append_assoc, hb]
     congr 2
     rcases opens_no ho with h6 | h6 | h6
     · rw [if_pos (.inl h6), if_pos (.inl h6)]
     · have : batG b a (stG E l) = [] := by unfold batG; rw [if_neg h6]
       rw [this]
       split <;> split <;> rfl
     · rw [next_app m h6]
theorem row_begins {start : Int} {bs : List Bat} (h : RowD start bs) (h0 : 0 ≤ start) (k : Nat) : stableD start (bs.take k) ≤ stableD start bs ∧ endD start (bs.take k) ≤ endD start bs ∧ ∃ rest, committedD start bs = committedD start (bs.take k) ++ rest := by
 obtain ⟨h1, h2, h3, _⟩ := row_split h h0 k
 have hm := stG_mono (l := bs.take k) (m := bs.drop k) h1 h2 h3
 rw [List.take_append_drop] at hm
 obtain ⟨rest, hr⟩ := comm_grow (a := start) (T' := stableD start bs) h1 h2 hm
 rw [List.take_append_drop] at hr
 exact ⟨hm, h3, rest, hr⟩
end Go.FoMath
namespace Go.FoMath
open Go.ProdMath
open Go.BatMath
set_option linter.unusedVariables false

theorem pOpen_base (k : Int) : ∀ (l : List Bat), pOpen k l = -1 ∨ ∃ b ∈ l, pOpen k l = b.base
 | [] => .inl rfl
 | b :: l => by
   show (if b.prod = k ∧ opensB b l = true then b.base else pOpen k l) = -1 ∨ ∃ c ∈ b :: l, (if b.prod = k ∧ opensB b l = true then b.base else pOpen k l) = c.base
   split
   · exact .inr ⟨b, by simp, rfl⟩
   · rcases pOpen_base k l with h | ⟨c, hc, e⟩
     · exact .inl h
     · exact .inr ⟨c, by simp [hc], e⟩
theorem ends_one {k : Int} {m : Bat} (hm : m.marker ≠ 0) (hk : m.prod = k) (l : List Bat) : endsB k (l ++ [m]) = true := by
 rw [ends_app]
 have : endsB k [m] = true := by
  unfold endsB
  simp [hm, hk]
 rw [this, Bool.or_true]
/-- A marker of the one that is open first moves on what is stable. -/
theorem stable_moves {E E' k : Int} {m : Bat} (hm : m.marker ≠ 0) (hk : m.prod = k) (hE : E ≤ m.base) (hE' : m.base < E') : ∀ {l : List Bat}, Chain E l → firstOpen l ≠ -1 → pOpen k l = firstOpen l → firstOpen l < stG E' (l ++ [m])
 | [], _, h, _ => absurd rfl h
 | b :: l, h, hf, hp => by
   obtain ⟨h1, h0, h3, h4, h5⟩ := h
   have hlow : b.base < stG E' (l ++ [m]) := by
    have : b.base + countD b ≤ stG E' (l ++ [m]) := stG_in (fun c hc => by
     rcases List.mem_append.1 hc with hc | hc
     · exact h4 c hc
     · rw [List.mem_singleton.1 hc]; omega) (by omega)
    omega
   have e1 : firstOpen (b :: l) = if opensB b l = true then b.base else firstOpen l := rfl
   have e2 : pOpen k (b :: l) = if b.prod = k ∧ opensB b l = true then b.base else pOpen k l := rfl
   show firstOpen (b :: l) < stG E' (b :: (l ++ [m]))
   rw [stG_cons E' b (l ++ [m]) h0]
   cases ho : opensB b l with
   | true =>
     rw [ho, if_pos rfl] at e1
     rw [ho] at e2
     rw [e1]
     by_cases hb : b.prod = k
     · have h6 : opensB b (l ++ [m]) = false := by
        unfold opensB
        rw [hb, ends_one hm hk]
        simp
       rw [h6, if_neg (by decide)]
       exact hlow
     · rw [if_neg (fun h => hb h.1)] at e2
       rw [e1, e2] at hp
       rcases pOpen_base k l with h6 | ⟨c, hc, h6⟩
       · omega
       · have := h4 c hc; omega
   | false =>
     rw [ho, if_neg (by decide)] at e1
     rw [ho, if_neg (fun h => by cases h.2)] at e2
     rw [e1] at hf hp ⊢
     rw [e2] at hp
     rw [opens_app ho, if_neg (by decide)]
     exact stable_moves hm hk hE hE' h5 hf hp
theorem opn_p {bs : List Bat} (h : ∀ b ∈ bs, rightE b = 0 ∧ 0 ≤ b.base) {p : Pd} (hp : p ∈ foldP [] bs) (hk : 0 ≤ p.id) : p.opn = pOpen p.id bs := by
 have h1 := look_mem (fold_asc bs asc_nil) hp
 rw [fold_state] at h1
 have h2 := state_opn p.id hk none bs (Int.le_refl _) h
 rw [h1] at h2
 have h3 : opnS (some p) = p.opn := rfl
 rw [h3, if_neg (fun h => by have h7 : (0 : Int) ≤ -1 := h.2; omega)] at h2
 exact h2
/-! fetches -/
theorem recordsD_mem {a z : Int} {g : Gt} : ∀ {l : List Bat}, g ∈ recordsD l a z → a ≤ g.off ∧ g.off < z ∧ ∃ b ∈ l, g ∈ batG b a z
 | [], h => by cases h
 | b :: l, h => by
   rcases List.mem_append.1 h with h | h
   · have := batG_mem h
     exact ⟨this.2.2.2.1, this.2.2.2.2, b, by simp, h⟩
   · obtain ⟨h1, h2, c, hc, h3⟩ := recordsD_mem h
     exact ⟨h1, h2, c, by simp [hc], h3⟩
theorem recordsD_asc {E a z : Int} : ∀ {l : List Bat}, Chain E l → (recordsD l a z).Pairwise fun x y => x.off < y.off
 | [], _ => List.Pairwise.nil
 | b :: l, h => by
   refine List.pairwise_append.2 ⟨batG_asc b a z, recordsD_asc h.2.2.2.2, fun x hx y hy => ?_⟩
   obtain ⟨_, _, c, hc, h3⟩ := recordsD_mem hy
   have h4 := batG_mem hx
   have h5 := batG_mem h3
   have := h.2.2.2.1 c hc
   omega
/-- The offset behind the last of the first n, or behind all. -/
def nextD (l : List Gt) (n : Nat) (top o : Int) : Int := match l[n - 1]? with
 | some g => g.off + 1
 | none => max top o
theorem next_some {l : List Gt} {n : Nat} {top o : Int} {g : Gt} (h : l[n - 1]? = some g) : nextD l n top o = g.off + 1 := by unfold nextD; rw [h]
theorem next_none {l : List Gt} {n : Nat} {top o : Int} (h : l.length < n) : nextD l n top o = max top o := by
 unfold nextD
 rw [List.getElem?_eq_none (by omega)]
theorem asc_at {l : List Gt} (h : l.Pairwise fun x y => x.off < y.off) {i j : Nat} {x y : Gt} (hi : l[i]? = some x) (hj : l[j]? = some y) (hij : i ≤ j) : x.off ≤ y.off := by
 rcases Nat.lt_or_ge i j with h1 | h1
 · obtain ⟨a1, rfl⟩ := List.getElem?_eq_some_iff.1 hi
   obtain ⟨a2, rfl⟩ := List.getElem?_eq_some_iff.1 hj
   exact Int.le_of_lt (List.pairwise_iff_getElem.1 h i j a1 a2 h1)
 · have : i = j := by omega
   subst this
   rw [hi] at hj
   cases hj
   exact Int.le_refl _
theorem next_le {l : List Gt} {n n' : Nat} {top o : Int} (h : l.Pairwise fun x y => x.off < y.off) (hin : ∀ g ∈ l, o ≤ g.off ∧ g.off < top) (hn : n ≤ n') (h1 : 1 ≤ n) : nextD l n top o ≤ nextD l n' top o := by
 by_cases h2 : n' ≤ l.length
 · obtain ⟨x, hx⟩ : ∃ x, l[n - 1]? = some x := ⟨_, List.getElem?_eq_getElem (by omega)⟩
   obtain ⟨y, hy⟩ : ∃ y, l[n' - 1]? = some y := ⟨_, List.getElem?_eq_getElem (by omega)⟩
   rw [next_some hx, next_some hy]
   have := asc_at h hx hy (by omega)
   omega
 · rw [next_none (n := n') (by omega)]
   by_cases h3 : n ≤ l.length
   · obtain ⟨x, hx⟩ : ∃ x, l[n - 1]? = some x := ⟨_, List.getElem?_eq_getElem (by omega)⟩
     rw [next_some hx]
     have := hin x (List.mem_of_getElem? hx)
     omega
   · rw [next_none (by omega)]
     exact Int.le_refl _
theorem next_ge {l : List Gt} {n : Nat} {top o : Int} (hin : ∀ g ∈ l, o ≤ g.off ∧ g.off < top) : o ≤ nextD l n top o := by
 unfold nextD
 cases h : l[n - 1]? with
 | none => show o ≤ max top o; omega
 | some g => have := hin g (List.mem_of_getElem? h); show o ≤ g.off + 1; omega
theorem next_past {l : List Gt} {n : Nat} {top o : Int} (h : l.Pairwise fun x y => x.off < y.off) (hin : ∀ g ∈ l, o ≤ g.off ∧ g.off < top) (h1 : 1 ≤ n) : ∀ g ∈ l.take n, o ≤ g.off ∧ g.off < nextD l n top o := fun g hg => by
 have h2 := hin g (List.mem_of_mem_take hg)
 refine ⟨h2.1, ?_⟩
 obtain ⟨i, hi⟩ := List.mem_iff_getElem?.1 hg
 have hil := (List.getElem?_eq_some_iff.1 hi).1
 rw [List.length_take] at hil
 rw [List.getElem?_take_of_lt (by omega)] at hi
 by_cases h3 : n ≤ l.length
 · obtain ⟨y, hy⟩ : ∃ y, l[n - 1]? = some y := ⟨_, List.getElem?_eq_getElem (by omega)⟩
   rw [next_some hy]
   have := asc_at h hi hy (by omega)
   omega
 · rw [next_none (by omega)]
   omega
end Go.FoMath
