/- Plain mathematics: a list of configurations, then of words and numbers: what the code makes of it, and what the statements' own reckoning makes of it. -/
import Derived.Test.YtifogkacjfpipaaFits
namespace Go.Proofs.Ytifogkacjfpipaa
open Go.RowKit
open Go.RuneMath
set_option linter.unusedVariables false

/-- The statements' own: a number cut to what an int may hold. -/
def clamp (n : Int) : Int := max (min n 1099511627776) (-1)
theorem within_clamp (n : Int) : within (clamp n) = within n := by
  unfold within clamp
  rw [Bool.eq_iff_iff]
  simp
  omega
theorem clamp_in {n : Int} (h : within n = true) : clamp n = n := by
  unfold within at h
  simp at h
  unfold clamp
  omega
theorem narrow_of {n : Int} (h : within n = true) : narrow n = n := by
  unfold narrow
  rw [if_pos h]
theorem within_narrow (n : Int) : within (narrow n) = within n := by
  unfold narrow
  cases h : within n
  · rfl
  · exact h
/-- Two numbers of a field: both are right, and the same, or neither is. -/
def Sim1 (x y : Int) : Prop := within x = within y ∧ (within x = true → x = y)
theorem Sim1.refl (x : Int) : Sim1 x x := ⟨rfl, fun _ => rfl⟩
theorem sim_num (n : Int) : Sim1 (narrow n) (clamp n) := by
  refine ⟨by rw [within_narrow, within_clamp], fun h => ?_⟩
  rw [within_narrow] at h
  rw [narrow_of h, clamp_in h]
structure Sim (x y : Cf) : Prop where
  a : Sim1 x.a y.a
  b : Sim1 x.b y.b
  c : Sim1 x.c y.c
  d : Sim1 x.d y.d
theorem Sim.refl (x : Cf) : Sim x x := ⟨Sim1.refl _, Sim1.refl _, Sim1.refl _, Sim1.refl _⟩
theorem Sim.put {x y : Cf} (h : Sim x y) (k : Nat) (n : Int) : Sim (x.put k (narrow n)) (y.put k (clamp n)) := by
  have hn := sim_num n
  unfold Cf.put
  split
  · exact ⟨hn, h.b, h.c, h.d⟩
  · split
    · exact ⟨h.a, hn, h.c, h.d⟩
    · split
      · exact ⟨h.a, h.b, hn, h.d⟩
      · split
        · exact ⟨h.a, h.b, h.c, hn⟩
        · exact h
theorem Sim.valid {x y : Cf} (h : Sim x y) : x.valid = y.valid := by
  unfold Cf.valid
  rw [h.a.1, h.b.1, h.c.1, h.d.1]
theorem Sim.same {x y : Cf} (h : Sim x y) (hv : x.valid = true) : x = y := by
  unfold Cf.valid at hv
  simp only [Bool.and_eq_true] at hv
  obtain ⟨⟨⟨ha, hb⟩, hc⟩, hd⟩ := hv
  have e1 := h.a.2 ha
  have e2 := h.b.2 hb
  have e3 := h.c.2 hc
  have e4 := h.d.2 hd
  cases x
  cases y
  simp at e1 e2 e3 e4
  rw [e1, e2, e3, e4]
/-- Words and numbers. -/
abbrev Words := List (ByteArray × Int)
def els (p : Words) : List El := p.flatMap fun x => [.str x.1, .i64 x.2]
def narC (c : Cf) (p : Words) : Cf := p.foldl (fun c x => c.put (word x.1) (narrow x.2)) c
def refC (c : Cf) (p : Words) : Cf := p.foldl (fun c x => c.put (word x.1) (clamp x.2)) c
def refO (p : Words) : Bool := p.all fun x => decide (word x.1 < 4)
theorem els_snoc (p : Words) (x : ByteArray × Int) : els (p ++ [x]) = els p ++ [.str x.1, .i64 x.2] := by simp [els]
theorem refC_snoc (c : Cf) (p : Words) (x : ByteArray × Int) : refC c (p ++ [x]) = (refC c p).put (word x.1) (clamp x.2) := by simp [refC]
theorem refO_snoc (p : Words) (x : ByteArray × Int) : refO (p ++ [x]) = (refO p && decide (word x.1 < 4)) := by simp [refO]
theorem els_len (p : Words) : (els p).length = 2 * p.length := by
  induction p with
  | nil => rfl
  | cons x p ih =>
    have e : els (x :: p) = .str x.1 :: .i64 x.2 :: els p := rfl
    rw [e, List.length_cons, List.length_cons, ih, List.length_cons]
    omega
theorem sim_words (p : Words) : ∀ (x y : Cf), Sim x y → Sim (narC x p) (refC y p) := by
  induction p with
  | nil => exact fun x y h => h
  | cons q p ih => exact fun x y h => ih _ _ (h.put _ _)
theorem run_conf (x y : Cf) (l : List El) : run x (.conf y :: l) = run y l := by
  rw [run_step _ (by simp)]
  rfl
theorem run_bad (x : Cf) {s : ByteArray} (n : Int) (l : List El) (h : ¬ word s < 4) : run x (.str s :: .i64 n :: l) = none := by
  rw [run_step _ (by simp)]
  have hk : setK s (.i64 n) = false := by unfold setK El.num; simp; omega
  unfold chN
  simp [hk]
theorem run_two (x : Cf) {s : ByteArray} (n : Int) (l : List El) (h : word s < 4) : run x (.str s :: .i64 n :: l) = run (x.put (word s) (narrow n)) l := by
  rw [run_step _ (by simp)]
  have hk : setK s (.i64 n) = true := by unfold setK El.num; simp [h]
  unfold chN chC
  simp only [hk, if_true]
  rw [if_neg (by omega)]
  unfold setC El.num
  simp only [List.drop_succ_cons, List.drop_zero]
theorem run_els (p : Words) : ∀ x : Cf, run x (els p) = if refO p then some (narC x p) else none := by
  induction p with
  | nil => intro x; rfl
  | cons q p ih =>
    intro x
    have e : els (q :: p) = .str q.1 :: .i64 q.2 :: els p := rfl
    have e2 : refO (q :: p) = (decide (word q.1 < 4) && refO p) := rfl
    rw [e, e2]
    by_cases h : word q.1 < 4
    · rw [run_two x q.2 _ h, ih, decide_eq_true h, Bool.true_and]
      rfl
    · rw [run_bad x q.2 _ h, decide_eq_false h, Bool.false_and]
      rfl
/-- The last of some configurations, or what holds where there is none. -/
def lastC (c : Cf) (f : List Cf) : Cf := f.foldl (fun _ y => y) c
theorem lastC_snoc (c : Cf) (f : List Cf) (y : Cf) : lastC c (f ++ [y]) = y := by simp [lastC]
def opts (f : List Cf) (p : Words) : List El := f.map El.conf ++ els p
theorem run_opts (f : List Cf) (p : Words) : ∀ x : Cf, run x (opts f p) = run (lastC x f) (els p) := by
  induction f with
  | nil => intro x; rfl
  | cons y f ih =>
    intro x
    have e : opts (y :: f) p = .conf y :: opts f p := rfl
    rw [e, run_conf, ih]
    rfl
/-- What Config answers: none, or too long, or the statements' own. -/
theorem cfg_opts (f : List Cf) (p : Words) :
    (refO p = false → cfgC (opts f p) = Cf.zero ∧ cfgE (opts f p) = 1) ∧
    (refO p = true → (refC (lastC Cf.dflt f) p).valid = false → cfgC (opts f p) = Cf.zero ∧ cfgE (opts f p) = 3) ∧
    (refO p = true → (refC (lastC Cf.dflt f) p).valid = true → cfgC (opts f p) = refC (lastC Cf.dflt f) p ∧ cfgE (opts f p) = 0) := by
  have hs := sim_words p _ _ (Sim.refl (lastC Cf.dflt f))
  have hr := run_opts f p Cf.dflt
  rw [run_els] at hr
  unfold cfgC cfgE
  rw [hr]
  refine ⟨fun h => ?_, fun h hv => ?_, fun h hv => ?_⟩
  · rw [h]
    exact ⟨rfl, rfl⟩
  · rw [← hs.valid] at hv
    simp [h, hv]
  · have e := hs.same (by rw [hs.valid]; exact hv)
    simp only [h, if_true]
    rw [e]
    simp [hv]
end Go.Proofs.Ytifogkacjfpipaa
