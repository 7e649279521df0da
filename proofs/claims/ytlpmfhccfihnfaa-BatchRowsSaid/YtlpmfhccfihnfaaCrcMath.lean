/- Plain mathematics of the sums of chapter 1: one bit's bstep, a byte's eight bsteps, a row's sum, the four bytes of a sum; that a bstep is linear and takes nothing but 0 to 0, so that up to 32 bits side by side that are turned turn the sum. No condition on any program. -/
namespace Go.CrcMath

def poly : Nat := 2197175160
/-- One bit: shifted right, and, if the lowest bit was 1, exclusive or the polynomial. -/
def bstep (c : Nat) : Nat := if c % 2 = 1 then c / 2 ^^^ poly else c / 2
def bsteps : Nat → Nat → Nat
  | 0, c => c
  | n + 1, c => bstep (bsteps n c)
def nxt (c b : Nat) : Nat := bsteps 8 (c ^^^ b)
def run (c : Nat) (bs : List Nat) : Nat := bs.foldl nxt c
def full : Nat := 4294967295
theorem full_lt : full < 4294967296 := by unfold full; omega
def cpl (c : Nat) : Nat := full ^^^ c
def ofB (bs : List Nat) : Nat := cpl (run full bs)
def leB (c : Nat) : List Nat := [c % 256, c / 256 % 256, c / 65536 % 256, c / 16777216 % 256]
def sealB (bs : List Nat) : List Nat := leB (ofB bs) ++ bs
def unl : List Nat → Nat
  | [] => 0
  | b :: bs => b + 256 * unl bs
def okB (bs : List Nat) : Bool := decide (4 ≤ bs.length) && decide (unl (bs.take 4) = ofB (bs.drop 4))
abbrev AllB (bs : List Nat) : Prop := ∀ x ∈ bs, x < 256

theorem bstep_lt {c : Nat} (h : c < 4294967296) : bstep c < 4294967296 := by
  unfold bstep
  split
  · exact Nat.xor_lt_two_pow (n := 32) (by omega) (by decide)
  · omega
theorem bsteps_lt {c : Nat} (h : c < 4294967296) : ∀ n, bsteps n c < 4294967296
  | 0 => h
  | n + 1 => bstep_lt (bsteps_lt h n)
theorem xor_lt {c b : Nat} (h : c < 4294967296) (hb : b < 4294967296) : c ^^^ b < 4294967296 := Nat.xor_lt_two_pow (n := 32) h hb
theorem nxt_lt {c b : Nat} (h : c < 4294967296) (hb : b < 256) : nxt c b < 4294967296 := bsteps_lt (xor_lt h (by omega)) 8
theorem run_lt : ∀ (bs : List Nat) (c : Nat), c < 4294967296 → AllB bs → run c bs < 4294967296
  | [], c, h, _ => h
  | b :: bs, c, h, hb => run_lt bs (nxt c b) (nxt_lt h (hb b (by simp))) (fun x hx => hb x (by simp [hx]))
theorem cpl_lt {c : Nat} (h : c < 4294967296) : cpl c < 4294967296 := xor_lt full_lt h
theorem xor_twice (m c : Nat) : m ^^^ (m ^^^ c) = c := by rw [← Nat.xor_assoc, Nat.xor_self, Nat.zero_xor]
theorem cpl_eq (c : Nat) : cpl c = full ^^^ c := rfl
theorem cpl_cpl (c : Nat) : cpl (cpl c) = c := by rw [cpl_eq, cpl_eq, xor_twice]
theorem ofB_lt {bs : List Nat} (h : AllB bs) : ofB bs < 4294967296 := cpl_lt (run_lt bs _ full_lt h)
theorem run_append (c : Nat) (a b : List Nat) : run c (a ++ b) = run (run c a) b := by simp [run, List.foldl_append]
theorem run_snoc (c : Nat) (a : List Nat) (b : Nat) : run c (a ++ [b]) = nxt (run c a) b := by simp [run, List.foldl_append]

/-! the bstep is linear, and only 0 goes to 0 -/
theorem xor_div2 (x y : Nat) : (x ^^^ y) / 2 = x / 2 ^^^ y / 2 := by
  have := Nat.shiftRight_xor_distrib (a := x) (b := y) (i := 1)
  simpa [Nat.shiftRight_eq_div_pow] using this
theorem xor_mod2 (x y : Nat) : (x ^^^ y) % 2 = (x % 2 + y % 2) % 2 := by
  have h : (x ^^^ y) % 2 ^ 1 = x % 2 ^ 1 ^^^ y % 2 ^ 1 := Nat.xor_mod_two_pow
  simp only [Nat.pow_one] at h
  rw [h]
  rcases Nat.mod_two_eq_zero_or_one x with hx | hx <;> rcases Nat.mod_two_eq_zero_or_one y with hy | hy <;> simp [hx, hy]
theorem bstep_xor (x y : Nat) : bstep (x ^^^ y) = bstep x ^^^ bstep y := by
  unfold bstep
  rw [xor_mod2, xor_div2]
  rcases Nat.mod_two_eq_zero_or_one x with hx | hx <;> rcases Nat.mod_two_eq_zero_or_one y with hy | hy
  · simp [hx, hy]
  · simp [hx, hy, Nat.xor_assoc]
  · simp only [hx, hy]; simp [Nat.xor_assoc, Nat.xor_comm poly]
  · simp only [hx, hy]; simp [Nat.xor_assoc]; rw [Nat.xor_comm poly, Nat.xor_assoc, Nat.xor_self, Nat.xor_zero]
theorem bsteps_xor (x y : Nat) : ∀ n, bsteps n (x ^^^ y) = bsteps n x ^^^ bsteps n y
  | 0 => rfl
  | n + 1 => by unfold bsteps; rw [bsteps_xor x y n, bstep_xor]
theorem bstep_zero {x : Nat} (h : x < 4294967296) (e : bstep x = 0) : x = 0 := by
  unfold bstep at e
  split at e
  · have : x / 2 = poly := by
      have h2 : x / 2 ^^^ poly ^^^ poly = 0 ^^^ poly := by rw [e]
      rwa [Nat.xor_assoc, Nat.xor_self, Nat.xor_zero, Nat.zero_xor] at h2
    unfold poly at this; omega
  · omega
theorem bsteps_zero {x : Nat} (h : x < 4294967296) : ∀ n, bsteps n x = 0 → x = 0
  | 0, e => e
  | n + 1, e => bsteps_zero h n (bstep_zero (bsteps_lt h n) e)
theorem bsteps_add (m x : Nat) : ∀ n, bsteps (m + n) x = bsteps n (bsteps m x)
  | 0 => rfl
  | n + 1 => by show bstep (bsteps (m + n) x) = bstep (bsteps n (bsteps m x)); rw [bsteps_add m x n]
theorem bstep_double (u : Nat) : bstep (2 * u) = u := by unfold bstep; rw [if_neg (by omega)]; omega
theorem steps8_256 (u : Nat) : bsteps 8 (256 * u) = u := by
  have e : 256 * u = 2 * (2 * (2 * (2 * (2 * (2 * (2 * (2 * u))))))) := by omega
  rw [e]
  simp only [bsteps, bstep_double]
theorem low_xor (t u : Nat) (h : t < 256) : t ^^^ 256 * u = t + 256 * u := by
  have h1 : 2 ^ 8 * u + t = 2 ^ 8 * u ||| t := Nat.two_pow_add_eq_or_of_lt (i := 8) (b := t) (by simpa using h) u
  have e2 : 2 ^ 8 * u ||| t = t ^^^ 2 ^ 8 * u := by
    apply Nat.eq_of_testBit_eq
    intro i
    rw [Nat.testBit_or, Nat.testBit_xor]
    by_cases hi : i < 8
    · have h2 : Nat.testBit (2 ^ 8 * u) i = false := by rw [Nat.testBit_two_pow_mul]; simp; omega
      rw [h2]; simp
    · have h3 : Nat.testBit t i = false := Nat.testBit_lt_two_pow (Nat.lt_of_lt_of_le h (Nat.pow_le_pow_right (n := 2) (i := 8) (by decide) (by omega)))
      rw [h3]; simp
  have h4 : 2 ^ 8 * u = 256 * u := rfl
  rw [h4] at h1 e2
  omega
/-- The difference of two sums behind one byte more, the bytes' own difference t. -/
theorem nxt_xor (c d b t : Nat) : nxt (c ^^^ d) (b ^^^ t) = nxt c b ^^^ bsteps 8 (d ^^^ t) := by
  unfold nxt
  rw [← bsteps_xor]
  congr 1
  rw [Nat.xor_assoc, Nat.xor_assoc, ← Nat.xor_assoc d b t, Nat.xor_comm d b, Nat.xor_assoc]
theorem peel (d t u : Nat) (h : t < 256) : bsteps 8 (d ^^^ (t + 256 * u)) = bsteps 8 (d ^^^ t) ^^^ u := by
  rw [← low_xor t u h, ← Nat.xor_assoc, bsteps_xor, steps8_256]
theorem four (c a0 a1 a2 a3 t0 t1 t2 t3 : Nat) (h0 : t0 < 256) (h1 : t1 < 256) (h2 : t2 < 256) :
    run c [a0 ^^^ t0, a1 ^^^ t1, a2 ^^^ t2, a3 ^^^ t3] = run c [a0, a1, a2, a3] ^^^ bsteps 32 (t0 + 256 * (t1 + 256 * (t2 + 256 * t3))) := by
  have e : bsteps 32 (t0 + 256 * (t1 + 256 * (t2 + 256 * t3))) = bsteps 8 (bsteps 8 (bsteps 8 (bsteps 8 t0 ^^^ t1) ^^^ t2) ^^^ t3) := by
    have p0 := peel 0 t0 (t1 + 256 * (t2 + 256 * t3)) h0
    simp only [Nat.zero_xor] at p0
    rw [show (32 : Nat) = 8 + (8 + (8 + 8)) from rfl, bsteps_add, p0, bsteps_add, peel _ _ _ h1, bsteps_add, peel _ _ _ h2]
  rw [e]
  have q0 : nxt c (a0 ^^^ t0) = nxt c a0 ^^^ bsteps 8 t0 := by have := nxt_xor c 0 a0 t0; simpa using this
  simp only [run, List.foldl_cons, List.foldl_nil]
  rw [q0, nxt_xor, nxt_xor, nxt_xor]
theorem run_diff (d : Nat) : ∀ (bs : List Nat) (c : Nat), ∃ n, run (c ^^^ d) bs = run c bs ^^^ bsteps n d
  | [], c => ⟨0, rfl⟩
  | b :: bs, c => by
    have h := nxt_xor c d b 0
    simp only [Nat.xor_zero] at h
    obtain ⟨n, hn⟩ := run_diff (bsteps 8 d) bs (nxt c b)
    refine ⟨8 + n, ?_⟩
    show run (nxt (c ^^^ d) b) bs = run (nxt c b) bs ^^^ bsteps (8 + n) d
    rw [h, hn, bsteps_add]
theorem xor_eq_self {a b : Nat} (h : a ^^^ b = a) : b = 0 := by
  have : a ^^^ (a ^^^ b) = a ^^^ a := by rw [h]
  rwa [← Nat.xor_assoc, Nat.xor_self, Nat.zero_xor] at this
/-- Up to 32 bits side by side turned: the sum is the same only if nothing is turned. -/
theorem burst (p q : List Nat) (a0 a1 a2 a3 t : Nat) (ht : t < 4294967296) :
    ofB (p ++ [a0 ^^^ t % 256, a1 ^^^ t / 256 % 256, a2 ^^^ t / 65536 % 256, a3 ^^^ t / 16777216 % 256] ++ q) = ofB (p ++ [a0, a1, a2, a3] ++ q) ↔ t = 0 := by
  have hT : t % 256 + 256 * (t / 256 % 256 + 256 * (t / 65536 % 256 + 256 * (t / 16777216 % 256))) = t := by omega
  constructor
  · intro h
    have h1 : run full (p ++ [a0 ^^^ t % 256, a1 ^^^ t / 256 % 256, a2 ^^^ t / 65536 % 256, a3 ^^^ t / 16777216 % 256] ++ q) = run full (p ++ [a0, a1, a2, a3] ++ q) := by
      have := congrArg cpl h
      unfold ofB at this
      rwa [cpl_cpl, cpl_cpl] at this
    rw [run_append, run_append, run_append, run_append, four _ _ _ _ _ _ _ _ _ (by omega) (by omega) (by omega), hT] at h1
    obtain ⟨n, hn⟩ := run_diff (bsteps 32 t) q (run (run full p) [a0, a1, a2, a3])
    rw [hn, ← bsteps_add] at h1
    exact bsteps_zero ht _ (xor_eq_self h1)
  · intro h; subst h; simp

/-! four bytes and their number -/
theorem leB_all (c : Nat) : AllB (leB c) := by intro x hx; simp [leB] at hx; omega
theorem sealB_all {bs : List Nat} (h : AllB bs) : AllB (sealB bs) := by
  intro x hx
  rcases List.mem_append.1 hx with h1 | h1
  · exact leB_all _ x h1
  · exact h x h1
theorem length_leB (c : Nat) : (leB c).length = 4 := rfl
theorem length_sealB (bs : List Nat) : (sealB bs).length = bs.length + 4 := by simp [sealB, leB]
theorem unl_leB {c : Nat} (h : c < 4294967296) : unl (leB c) = c := by simp only [leB, unl]; omega
theorem leB_unl {b0 b1 b2 b3 : Nat} (h0 : b0 < 256) (h1 : b1 < 256) (h2 : b2 < 256) (h3 : b3 < 256) : leB (unl [b0, b1, b2, b3]) = [b0, b1, b2, b3] := by
  simp only [leB, unl]
  congr 1
  · omega
  · congr 1
    · omega
    · congr 1
      · omega
      · congr 1; omega
theorem take_sealB (bs : List Nat) : (sealB bs).take 4 = leB (ofB bs) := by simp [sealB, leB]
theorem drop_sealB (bs : List Nat) : (sealB bs).drop 4 = bs := by simp [sealB, leB]
theorem four_of {bs : List Nat} (h : 4 ≤ bs.length) : ∃ b0 b1 b2 b3 r, bs = b0 :: b1 :: b2 :: b3 :: r := by
  match bs, h with
  | b0 :: b1 :: b2 :: b3 :: r, _ => exact ⟨b0, b1, b2, b3, r, rfl⟩
theorem okB_short {bs : List Nat} (h : bs.length < 4) : okB bs = false := by simp [okB]; omega
theorem okB_seal {bs : List Nat} (h : AllB bs) : okB (sealB bs) = true := by
  simp only [okB, length_sealB, take_sealB, drop_sealB, unl_leB (ofB_lt h)]; simp
theorem okB_long {bs : List Nat} (h : 4 ≤ bs.length) : okB bs = decide (unl (bs.take 4) = ofB (bs.drop 4)) := by simp [okB, h]
/-- A row is right just where it is what the rest of it is when it is sealed. -/
theorem sealB_drop {bs : List Nat} (h : 4 ≤ bs.length) (hb : AllB bs) : sealB (bs.drop 4) = bs ↔ okB bs = true := by
  obtain ⟨b0, b1, b2, b3, r, rfl⟩ := four_of h
  have h0 := hb b0 (by simp)
  have h1 := hb b1 (by simp)
  have h2 := hb b2 (by simp)
  have h3 := hb b3 (by simp)
  have hr : AllB r := fun x hx => hb x (by simp [hx])
  rw [okB_long h]
  simp only [List.drop_succ_cons, List.drop_zero, List.take_succ_cons, List.take_zero, decide_eq_true_eq]
  constructor
  · intro e
    have e2 : leB (ofB r) = [b0, b1, b2, b3] := by
      have := congrArg (List.take 4) e
      simpa [sealB, leB] using this
    rw [← e2, unl_leB (ofB_lt hr)]
  · intro e
    show leB (ofB r) ++ r = _
    rw [← e, leB_unl h0 h1 h2 h3]; rfl
theorem okB_bad {bs : List Nat} (h : AllB bs) : okB (sealB bs ++ [1]) = decide (ofB bs = ofB (bs ++ [1])) := by
  have e1 : (sealB bs ++ [1]).take 4 = leB (ofB bs) := by simp [sealB, leB]
  have e2 : (sealB bs ++ [1]).drop 4 = bs ++ [1] := by simp [sealB, leB]
  rw [okB_long (by simp [length_sealB]), e1, e2, unl_leB (ofB_lt h)]
theorem okB_turned {xs ys : List Nat} (h : AllB xs) : okB (leB (ofB xs) ++ ys) = decide (ofB xs = ofB ys) := by
  have e1 : (leB (ofB xs) ++ ys).take 4 = leB (ofB xs) := by simp [leB]
  have e2 : (leB (ofB xs) ++ ys).drop 4 = ys := by simp [leB]
  rw [okB_long (by simp [leB]), e1, e2, unl_leB (ofB_lt h)]
end Go.CrcMath
