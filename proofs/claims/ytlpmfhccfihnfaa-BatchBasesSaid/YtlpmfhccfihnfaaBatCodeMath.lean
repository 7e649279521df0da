/- Plain mathematics of the code's own reader of chapter 6: what it gives is what is asked of a reader. No condition on any program. -/
import Derived.Test.YtlpmfhccfihnfaaBatMath
namespace Go.BatMath
set_option linter.unusedVariables false
open Go.SeqMath
open Go.VarMath (textB cutB encU longB beB unbe low64 sg64 backB getB scan zag val)
open Go.CrcMath (sealB okB)

theorem fold_lin : ∀ (bs : List Nat) (a : Nat), bs.foldl (fun a b => a * 256 + b) a = a * 256 ^ bs.length + unbe bs
  | [], a => by simp [unbe]
  | b :: t, a => by
    unfold unbe
    rw [List.foldl_cons, List.foldl_cons, fold_lin t (a * 256 + b), fold_lin t (0 * 256 + b), List.length_cons, Nat.pow_succ]
    rw [Nat.zero_mul, Nat.zero_add, Nat.add_mul, Nat.mul_assoc, Nat.mul_comm 256 (256 ^ t.length), Nat.add_assoc]
theorem be_fold : ∀ (bs : List Nat) (a : Nat), AllB bs → beB bs.length (bs.foldl (fun a b => a * 256 + b) a) = bs
  | [], a, _ => rfl
  | b :: t, a, h => by
    have hb := h b (by simp)
    have ht : AllB t := fun x hx => h x (by simp [hx])
    have ih := be_fold t (a * 256 + b) ht
    have hlt := VarMath.unbe_lt ht
    rw [List.length_cons, List.foldl_cons]
    show (_ / 256 ^ t.length % 256) :: beB t.length _ = _
    rw [ih, fold_lin, Nat.add_comm, Nat.add_mul_div_right _ _ (Nat.pow_pos (by decide)), Nat.div_eq_of_lt hlt, Nat.zero_add]
    congr 1
    omega
theorem be_unbe {bs : List Nat} (h : AllB bs) : beB bs.length (unbe bs) = bs := be_fold bs 0 h
theorem low64_sg64 {u : Nat} (h : u < 18446744073709551616) : low64 (sg64 u) = u := by unfold low64 sg64; split <;> omega
theorem long_back {q : List Nat} (h : AllB q) (h8 : 8 ≤ q.length) : longB (backB q).1 = q.take 8 := by
  have ht := take_all h 8
  have hl : (q.take 8).length = 8 := by rw [List.length_take]; omega
  have hlt := VarMath.unbe_lt ht
  rw [hl, VarMath.pow8] at hlt
  unfold backB
  rw [if_neg (by omega)]
  show longB (sg64 (unbe (q.take 8))) = _
  unfold longB
  rw [low64_sg64 hlt]
  have := be_unbe ht
  rw [hl] at this
  exact this

/-! texts -/
theorem scan_pre : ∀ (f : Nat) (bs l : List Nat), scan f bs = some l → bs.take l.length = l
  | 0, bs, l, h => by cases h
  | f + 1, [], l, h => by cases h
  | f + 1, b :: r, l, h => by
    unfold scan at h
    split at h
    · cases h; rfl
    · obtain ⟨t, ht, rfl⟩ := Option.map_eq_some_iff.1 h
      have := scan_pre f r t ht
      simp [this]
theorem getB_sound {bs : List Nat} (h : (getB bs).2 ≠ 0) : ∃ u, u < 18446744073709551616 ∧ (getB bs).1 = zag u ∧ bs.take (getB bs).2 = encU u ∧ (encU u).length = (getB bs).2 := by
  rcases hs : scan 10 bs with _ | l
  · rw [VarMath.getB_none hs] at h
    exact absurd rfl h
  · have hp := scan_pre 10 bs l hs
    have hg := VarMath.getB_some hs
    by_cases hc : encU (val l % VarMath.two64) = l
    · rw [if_pos hc] at hg
      refine ⟨val l % VarMath.two64, Nat.mod_lt _ (by decide), by rw [hg], ?_, ?_⟩
      · rw [hg, hc]; exact hp
      · rw [hg, hc]
    · rw [if_neg hc] at hg
      rw [hg] at h
      exact absurd rfl h
theorem cut_sound {p : List Nat} {s : List Nat} {k : Nat} (h : cutB p 64 = (s, k)) (hk : k ≠ 0) : p = textB s ++ p.drop k ∧ (textB s).length = k ∧ s.length ≤ 64 := by
  by_cases hc : (getB p).2 = 0 ∨ (getB p).1 < 0 ∨ (64 : Int) < (getB p).1 ∨ (p.length : Int) - ((getB p).2 : Int) < (getB p).1
  · rw [VarMath.cutB_no hc] at h
    exact absurd (Prod.mk.inj h).2.symm hk
  · rw [VarMath.cutB_yes hc] at h
    have hn : (getB p).2 ≠ 0 := by omega
    obtain ⟨u, hu, hz, ht, hl⟩ := getB_sound hn
    obtain ⟨hs, hk'⟩ := Prod.mk.inj h
    have h0 : 0 ≤ (getB p).1 := by omega
    have h64 : (getB p).1 ≤ 64 := by omega
    have hr : (getB p).1 ≤ (p.length : Int) - ((getB p).2 : Int) := by omega
    obtain ⟨n, hn'⟩ : ∃ n : Nat, (getB p).1 = (n : Int) := ⟨(getB p).1.toNat, by omega⟩
    obtain ⟨m, hm⟩ : ∃ m : Nat, (getB p).2 = m := ⟨_, rfl⟩
    rw [hn', hm] at hr hs hk'
    rw [hm] at ht hl
    rw [hn'] at hz h64
    have hu2 : u = 2 * n := by
      unfold zag at hz
      split at hz <;> omega
    simp only [Int.toNat_natCast] at hs hk'
    have hsl : s.length = n := by rw [← hs, List.length_take, List.length_drop]; omega
    have e : textB s = p.take m ++ (p.drop m).take n := by
      unfold textB
      rw [hsl, ← hu2, ← ht, hs]
    have hlen : (textB s).length = k := by
      unfold textB
      rw [hsl, ← hu2, List.length_append, hl, hsl, hk']
    refine ⟨?_, hlen, by omega⟩
    rw [e, ← hk', ← List.drop_drop, List.append_assoc, List.take_append_drop, List.take_append_drop]

/-! the records -/
def recsC : Nat → List Nat → Option (List Rc × List Nat)
  | 0, p => some ([], p)
  | n + 1, p =>
    if (cutB p 64).2 = 0 ∨ (cutB (p.drop (cutB p 64).2) 64).2 = 0 then none
    else (recsC n (p.drop ((cutB p 64).2 + (cutB (p.drop (cutB p 64).2) 64).2))).map fun q => (⟨sb (cutB p 64).1, sb (cutB (p.drop (cutB p 64).2) 64).1⟩ :: q.1, q.2)
theorem recsC_step {n k m : Nat} {p a c : List Nat} (h1 : cutB p 64 = (a, k)) (h2 : cutB (p.drop k) 64 = (c, m)) (hk : k ≠ 0) (hm : m ≠ 0) :
    recsC (n + 1) p = (recsC n (p.drop (k + m))).map fun q => (⟨sb a, sb c⟩ :: q.1, q.2) := by
  show (if (cutB p 64).2 = 0 ∨ _ then _ else _) = _
  rw [h1]
  simp only
  rw [h2]
  simp only
  rw [if_neg (by omega)]
theorem recsC_fell {n k m : Nat} {p a c : List Nat} (h1 : cutB p 64 = (a, k)) (h2 : cutB (p.drop k) 64 = (c, m)) (h : k = 0 ∨ m = 0) : recsC (n + 1) p = none := by
  show (if (cutB p 64).2 = 0 ∨ _ then _ else _) = _
  rw [h1]
  simp only
  rw [h2]
  simp only
  rw [if_pos h]
theorem cut_all {p s : List Nat} {k : Nat} (hp : AllB p) (h : cutB p 64 = (s, k)) : AllB s := by
  by_cases hc : (getB p).2 = 0 ∨ (getB p).1 < 0 ∨ (64 : Int) < (getB p).1 ∨ (p.length : Int) - ((getB p).2 : Int) < (getB p).1
  · rw [VarMath.cutB_no hc] at h
    rw [← (Prod.mk.inj h).1]
    exact all_nil
  · rw [VarMath.cutB_yes hc] at h
    rw [← (Prod.mk.inj h).1]
    exact take_all (drop_all hp _) _
theorem recsC_sound : ∀ (n : Nat) (p : List Nat) (l : List Rc) (r : List Nat), AllB p → recsC n p = some (l, r) → l.length = n ∧ p = recsB l ++ r ∧ (∀ c ∈ l, c.key.size ≤ 64 ∧ c.val.size ≤ 64)
  | 0, p, l, r, _, h => by
    cases h
    exact ⟨rfl, rfl, fun c hc => by cases hc⟩
  | n + 1, p, l, r, hp, h => by
    rcases h1 : cutB p 64 with ⟨a, k⟩
    rcases h2 : cutB (p.drop k) 64 with ⟨c, m⟩
    by_cases hz : k = 0 ∨ m = 0
    · rw [recsC_fell h1 h2 hz] at h
      cases h
    · rw [recsC_step h1 h2 (by omega) (by omega)] at h
      obtain ⟨q, hq, he⟩ := Option.map_eq_some_iff.1 h
      obtain ⟨l', r'⟩ := q
      simp only [Prod.mk.injEq] at he
      obtain ⟨rfl, rfl⟩ := he
      obtain ⟨i1, i2, i3⟩ := recsC_sound n _ l' r' (drop_all hp _) hq
      obtain ⟨e1, e2, e3⟩ := cut_sound h1 (by omega)
      obtain ⟨f1, f2, f3⟩ := cut_sound h2 (by omega)
      have ba := bl_sb (cut_all hp h1)
      have bc := bl_sb (cut_all (drop_all hp k) h2)
      refine ⟨by rw [List.length_cons, i1], ?_, ?_⟩
      · rw [recsB_cons]
        unfold recB
        simp only
        rw [ba, bc, List.append_assoc, List.append_assoc, ← i2, ← List.drop_drop, ← f1, ← e1]
      · intro x hx
        rcases List.mem_cons.1 hx with rfl | hx
        · have z1 : (sb a).size = a.length := by simp [sb, ByteArray.size]
          have z2 : (sb c).size = c.length := by simp [sb, ByteArray.size]
          simp only
          rw [z1, z2]
          exact ⟨e3, f3⟩
        · exact i3 x hx
theorem recsC_enc : ∀ (l : List Rc) (r : List Nat), (∀ c ∈ l, c.key.size ≤ 64 ∧ c.val.size ≤ 64) → recsC l.length (recsB l ++ r) = some (l, r)
  | [], r, _ => by simp [recsC, recsB]
  | c :: l, r, h => by
    obtain ⟨hc1, hc2⟩ := h c (by simp)
    have e1 : recsB (c :: l) ++ r = textB (bl c.key) ++ (textB (bl c.val) ++ (recsB l ++ r)) := by
      rw [recsB_cons, recB]
      simp only [List.append_assoc]
    have l1 := text_len (s := bl c.key) (by rw [bl_len]; omega)
    have l2 := text_len (s := bl c.val) (by rw [bl_len]; omega)
    have c1 := cut_text_any (s := bl c.key) (by rw [bl_len]; omega) (textB (bl c.val) ++ (recsB l ++ r)) 64 (by rw [bl_len]; omega)
    have c2 := cut_text_any (s := bl c.val) (by rw [bl_len]; omega) (recsB l ++ r) 64 (by rw [bl_len]; omega)
    have d1 : (textB (bl c.key) ++ (textB (bl c.val) ++ (recsB l ++ r))).drop (textB (bl c.key)).length = textB (bl c.val) ++ (recsB l ++ r) := by
      rw [List.drop_append_of_le_length (Nat.le_refl _), List.drop_length, List.nil_append]
    have d2 : (textB (bl c.val) ++ (recsB l ++ r)).drop (textB (bl c.val)).length = recsB l ++ r := by
      rw [List.drop_append_of_le_length (Nat.le_refl _), List.drop_length, List.nil_append]
    have c2' : cutB ((textB (bl c.key) ++ (textB (bl c.val) ++ (recsB l ++ r))).drop (textB (bl c.key)).length) 64 = (bl c.val, (textB (bl c.val)).length) := by rw [d1]; exact c2
    have st := recsC_step (n := l.length) c1 c2' (by omega) (by omega)
    rw [e1, List.length_cons, st, ← List.drop_drop, d1, d2, recsC_enc l r (fun x hx => h x (by simp [hx])), Option.map_some, sb_bl, sb_bl]

/-! what stands under the sum -/
def i16D (n : Nat) : Int := if n < 32768 then (n : Int) else (n : Int) - 65536
def fieldsC (x : List Nat) (base : Int) (l : List Rc) : Bat :=
  ⟨base, (backB (x.drop 1)).1, i16D (unbe ((x.drop 9).take 2)), (backB (x.drop 11)).1, decide (x.getD 0 0 % 2 = 1), ((x.getD 0 0 / 2 : Nat) : Int), l⟩
theorem twenty {x : List Nat} (h : 20 ≤ x.length) : x = x.getD 0 0 :: ((x.drop 1).take 8 ++ (x.getD 9 0 :: x.getD 10 0 :: ((x.drop 11).take 8 ++ (x.getD 19 0 :: x.drop 20)))) := by
  have g : ∀ k, k < x.length → x.drop k = x.getD k 0 :: x.drop (k + 1) := by
    intro k hk
    rw [List.drop_eq_getElem_cons hk, List.getD_eq_getElem?_getD, List.getElem?_eq_getElem hk]
    rfl
  have t : ∀ k m, x.drop k = (x.drop k).take m ++ x.drop (k + m) := by
    intro k m
    rw [← List.drop_drop, List.take_append_drop]
  have g0 : x = x.getD 0 0 :: x.drop 1 := g 0 (by omega)
  have g9 : x.drop 9 = x.getD 9 0 :: x.drop 10 := g 9 (by omega)
  have g10 : x.drop 10 = x.getD 10 0 :: x.drop 11 := g 10 (by omega)
  have g19 : x.drop 19 = x.getD 19 0 :: x.drop 20 := g 19 (by omega)
  have t1 : x.drop 1 = (x.drop 1).take 8 ++ x.drop 9 := t 1 8
  have t11 : x.drop 11 = (x.drop 11).take 8 ++ x.drop 19 := t 11 8
  exact g0.trans (congrArg (x.getD 0 0 :: ·) (t1.trans (congrArg ((x.drop 1).take 8 ++ ·) (g9.trans (congrArg (x.getD 9 0 :: ·) (g10.trans (congrArg (x.getD 10 0 :: ·) (t11.trans (congrArg ((x.drop 11).take 8 ++ ·) g19)))))))))
theorem unbe_two (a b : Nat) : unbe [a, b] = a * 256 + b := by simp [unbe]
theorem take_two {x : List Nat} (h : 20 ≤ x.length) : (x.drop 9).take 2 = [x.getD 9 0, x.getD 10 0] := by
  have g : ∀ k, k < x.length → x.drop k = x.getD k 0 :: x.drop (k + 1) := by
    intro k hk
    rw [List.drop_eq_getElem_cons hk, List.getD_eq_getElem?_getD, List.getElem?_eq_getElem hk]
    rfl
  rw [g 9 (by omega), g 10 (by omega)]
  rfl
theorem fields_wf {x : List Nat} (hx : AllB x) (h : 20 ≤ x.length) {n : Int} (hn : In64 n) (l : List Rc) : (fieldsC x n l).wf := by
  have h0 := getD_lt hx 0
  have h9 := getD_lt hx 9
  have h10 := getD_lt hx 10
  refine ⟨hn, back_in (drop_all hx 1), ?_, back_in (drop_all hx 11), ?_⟩
  · show In64 (i16D (unbe ((x.drop 9).take 2)))
    rw [take_two h, unbe_two]
    unfold i16D In64
    split <;> omega
  · show In64 ((x.getD 0 0 / 2 : Nat) : Int)
    unfold In64
    omega
theorem fields_body {x : List Nat} (hx : AllB x) (h : 20 ≤ x.length) (n : Int) {l : List Rc} (hl : l.length = x.getD 19 0) (hr : x.drop 20 = recsB l) : bodyB (fieldsC x n l) = x := by
  have h0 := getD_lt hx 0
  have h9 := getD_lt hx 9
  have h10 := getD_lt hx 10
  have h19 := getD_lt hx 19
  have e1 : flagN (fieldsC x n l) = x.getD 0 0 := by
    unfold flagN fieldsC
    simp only [decide_eq_true_eq]
    split <;> omega
  have e2 : epochN (fieldsC x n l) = x.getD 9 0 * 256 + x.getD 10 0 := by
    show ((i16D (unbe ((x.drop 9).take 2))) % 65536).toNat = _
    rw [take_two h, unbe_two]
    unfold i16D
    split <;> omega
  have e3 : longB (fieldsC x n l).prod = (x.drop 1).take 8 := long_back (drop_all hx 1) (by rw [List.length_drop]; omega)
  have e4 : longB (fieldsC x n l).seq = (x.drop 11).take 8 := long_back (drop_all hx 11) (by rw [List.length_drop]; omega)
  have e5 : (fieldsC x n l).recs.length % 256 = x.getD 19 0 := by
    show l.length % 256 = _
    omega
  unfold bodyB frontB
  rw [e1, e2, e3, e4, e5, show (x.getD 9 0 * 256 + x.getD 10 0) / 256 = x.getD 9 0 by omega, show (x.getD 9 0 * 256 + x.getD 10 0) % 256 = x.getD 10 0 by omega]
  show _ ++ recsB l = x
  rw [← hr]
  conv => rhs; rw [twenty h]
  simp
theorem body_fields {b : Bat} (h : Ok b) (hw : b.wf) : fieldsC (bodyB b) b.base b.recs = b ∧ 20 ≤ (bodyB b).length ∧ (bodyB b).getD 19 0 = b.recs.length ∧ (bodyB b).drop 20 = recsB b.recs := by
  have hl := body_len b
  have hx : bodyB b = flagN b :: (longB b.prod ++ (epochN b / 256 :: epochN b % 256 :: (longB b.seq ++ (b.recs.length % 256 :: recsB b.recs)))) := by simp [bodyB, frontB]
  have d1 : (bodyB b).drop 1 = longB b.prod ++ (epochN b / 256 :: epochN b % 256 :: (longB b.seq ++ (b.recs.length % 256 :: recsB b.recs))) := by rw [hx]; rfl
  have d9 : (bodyB b).drop 9 = epochN b / 256 :: epochN b % 256 :: (longB b.seq ++ (b.recs.length % 256 :: recsB b.recs)) := by rw [hx]; exact drop_cons_app _ _ _ 8 (VarMath.length_longB _)
  have d10 : (bodyB b).drop 10 = epochN b % 256 :: (longB b.seq ++ (b.recs.length % 256 :: recsB b.recs)) := by rw [show (10 : Nat) = 9 + 1 from rfl, ← List.drop_drop, d9]; rfl
  have d11 : (bodyB b).drop 11 = longB b.seq ++ (b.recs.length % 256 :: recsB b.recs) := by rw [show (11 : Nat) = 10 + 1 from rfl, ← List.drop_drop, d10]; rfl
  have d19 : (bodyB b).drop 19 = b.recs.length % 256 :: recsB b.recs := by rw [show (19 : Nat) = 10 + 9 from rfl, ← List.drop_drop, d10]; exact drop_cons_app _ _ _ 8 (VarMath.length_longB _)
  have g0 : (bodyB b).getD 0 0 = flagN b := by rw [hx]; rfl
  have hr := h.recs
  have g19 : (bodyB b).getD 19 0 = b.recs.length := by rw [getD_drop, d19]; show b.recs.length % 256 = _; omega
  have t2 : ((bodyB b).drop 9).take 2 = [epochN b / 256, epochN b % 256] := by rw [d9]; rfl
  have d20 : (bodyB b).drop 20 = recsB b.recs := by rw [show (20 : Nat) = 19 + 1 from rfl, ← List.drop_drop, d19]; rfl
  obtain ⟨h1, h2, h3, h4, h5, h6, h7, h8, h9, _, _⟩ := h
  obtain ⟨w1, w2, w3, w4, w5⟩ := hw
  refine ⟨?_, by omega, g19, d20⟩
  unfold fieldsC
  rw [d1, d11, g0, t2, unbe_two, VarMath.backB_long w2.1 w2.2, VarMath.backB_long w4.1 w4.2]
  have hf : flagN b = (2 * b.marker + (if b.txn = true then 1 else 0)).toNat := by
    unfold flagN
    split <;> omega
  refine Bat.ext_of rfl rfl ?_ rfl ?_ ?_ rfl
  · show i16D (epochN b / 256 * 256 + epochN b % 256) = b.epoch
    unfold i16D epochN
    split <;> omega
  · show decide (flagN b % 2 = 1) = b.txn
    rw [hf]
    cases b.txn
    · rw [if_neg (by decide)]; exact decide_eq_false (by omega)
    · rw [if_pos rfl]; exact decide_eq_true (by omega)
  · show ((flagN b / 2 : Nat) : Int) = b.marker
    rw [hf]
    split <;> omega

/-! a row that is one batch, as its length says -/
/-- What 'opened' gives of p. -/
def Opens (p : List Nat) (o : Option Bat) : Prop :=
  (∀ b, o = some b → okB (p.drop 12) = true ∧ 20 ≤ ((p.drop 12).drop 4).length ∧ recsC (((p.drop 12).drop 4).getD 19 0) (((p.drop 12).drop 4).drop 20) = some (b.recs, []) ∧ b = fieldsC ((p.drop 12).drop 4) (backB p).1 b.recs ∧ rightE b = 0) ∧
  (o = none → ∀ l, okB (p.drop 12) = true → 20 ≤ ((p.drop 12).drop 4).length → recsC (((p.drop 12).drop 4).getD 19 0) (((p.drop 12).drop 4).drop 20) = some (l, []) → rightE (fieldsC ((p.drop 12).drop 4) (backB p).1 l) ≠ 0)
theorem opens_good {p : List Nat} (hp : AllB p) (h12 : 12 ≤ p.length) (hl : p.length = lenD p + 12) {o : Option Bat} (h : Opens p o) (b : Bat) : o = some b ↔ Good p b := by
  have hs := CrcMath.sealB_drop (bs := p.drop 12)
  constructor
  · intro e
    obtain ⟨h1, h2, h3, h4, h5⟩ := h.1 b e
    have hall := drop_all hp 12
    have hx := drop_all hall 4
    obtain ⟨i1, i2, i3⟩ := recsC_sound _ _ _ _ (drop_all hx 20) h3
    have h4l : 4 ≤ (p.drop 12).length := by rw [List.length_drop] at h2; omega
    have hseal := (hs h4l hall).2 h1
    have hbody : bodyB b = (p.drop 12).drop 4 := by
      rw [h4]
      exact fields_body hx h2 _ i1 (by rw [i2, List.append_nil])
    have hbase : longB b.base = p.take 8 := by
      rw [h4]
      exact long_back hp (by omega)
    have h84 : ((p.drop 8).take 4).length = 4 := by rw [List.length_take, List.length_drop]; omega
    have hbe := be_unbe (take_all (drop_all hp 8) 4)
    rw [h84] at hbe
    have hbytes : bytesB b = p := by
      unfold bytesB
      rw [hbody, hseal, hbase, show (p.drop 12).length = lenD p by rw [List.length_drop]; omega]
      unfold lenD
      rw [hbe, show p.drop 12 = (p.drop 8).drop 4 by rw [List.drop_drop], List.take_append_drop, List.take_append_drop]
    refine ⟨h5, ?_, by rw [hbytes]; exact List.prefix_refl _⟩
    rw [h4]
    exact fields_wf hx h2 (back_in hp) _
  · intro g
    obtain ⟨g1, g2, g3, g4, g5, g6, g7⟩ := good_parts g
    have ho := ok_of g.right
    have hd : p.drop 12 = sealB (bodyB b) := by
      rw [← g5, List.take_of_length_le (by rw [List.length_drop]; omega)]
    have hx : (p.drop 12).drop 4 = bodyB b := by rw [hd, CrcMath.drop_sealB]
    obtain ⟨f1, f2, f3, f4⟩ := body_fields ho g.wf
    have hok : okB (p.drop 12) = true := by rw [hd]; exact CrcMath.okB_seal (body_all ho)
    have hrc : recsC (((p.drop 12).drop 4).getD 19 0) (((p.drop 12).drop 4).drop 20) = some (b.recs, []) := by
      rw [hx, f3, f4]
      have := recsC_enc b.recs [] ho.texts
      rw [List.append_nil] at this
      exact this
    have hbk : (backB p).1 = b.base := by rw [g7]
    rcases o with _ | b'
    · refine absurd ?_ (h.2 rfl b.recs hok (by rw [hx]; exact f2) hrc)
      rw [hx, hbk, f1]
      exact g.right
    · obtain ⟨h1, h2, h3, h4, h5⟩ := h.1 b' rfl
      rw [hrc] at h3
      have e : b'.recs = b.recs := (congrArg Prod.fst (Option.some.inj h3)).symm
      rw [h4, e, hx, hbk, f1]
/-- Of a row p, the first bytes of which say how long it is. -/
theorem lenD_take {p : List Nat} {n : Nat} (h : 12 ≤ n) : lenD (p.take n) = lenD p := by
  unfold lenD
  rw [List.drop_take, List.take_take, Nat.min_eq_left (by omega)]
theorem good_take {p : List Nat} (h : lenD p + 12 ≤ p.length) (b : Bat) : Good (p.take (lenD p + 12)) b ↔ Good p b := by
  constructor
  · intro g
    exact ⟨g.right, g.wf, g.pre.trans (List.take_prefix _ _)⟩
  · intro g
    obtain ⟨g1, _, _, _, _, g6, _⟩ := good_parts g
    refine ⟨g.right, g.wf, ?_⟩
    rw [Nat.add_comm, g6]
    exact List.prefix_refl _
theorem reads_some {p : List Nat} {b : Bat} (g : Good p b) : Reads p ⟨b, lenD p + 12, 0⟩ :=
  ⟨fun _ => ⟨g, (good_parts g).1.symm⟩, fun h => absurd rfl h, fun c hc => ⟨rfl, good_one g hc⟩⟩
theorem reads_none {p : List Nat} {e : Int} (he : e = fellD p) (h : ∀ b, ¬ Good p b) : Reads p ⟨Bat.zero, 0, e⟩ :=
  ⟨fun h0 => absurd h0 (by show e ≠ 0; rw [he]; exact fell_pos p), fun _ => ⟨rfl, rfl, he⟩, fun b hb => absurd hb (h b)⟩
end Go.BatMath
