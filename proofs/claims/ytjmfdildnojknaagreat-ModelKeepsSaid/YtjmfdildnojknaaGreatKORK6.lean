/- Parts of a proof. -/
import Derived.Test.YtjmfdildnojknaaGreatKORK5
set_option maxRecDepth 100000
set_option maxHeartbeats 16000000
set_option linter.unusedVariables false
namespace Go.BatMath
open Go.SeqMath
open Go.VarMath (textB cutB encU longB beB unbe low64 sg64 backB getB scan zag val)
open Go.CrcMath (sealB okB)
theorem fold_lin : ∀ (bs : List Nat) (a : Nat), bs.foldl (fun a b => a * 256 + b) a = a * 256 ^ bs.length + unbe bs
 | [], a => by simp [unbe]
 | b :: t, a => by
   unfold unbe
   rw [List.foldl_cons, List.foldl_cons, fold_lin t (a * 256 + b), fold_lin t (0 * 256 + b), List.length_cons, Nat.pow_succ]
   rw [Nat.zero_mul, Nat.zero_add, Nat.add_mul, Nat.mul_assoc, Nat.mul_comm 256 (256 ^ t.length), Nat.add_assoc]
theorem be_fold : ∀ (bs : List Nat) (a : Nat), AllB bs → beB bs.length (bs.foldl (fun a b => a * 256 + b) a) = bs
 | [], a, _ => rfl
 | b :: t, a, h => by
   have hb := h b (by simp)
   have ht : AllB t := fun x hx => h x (by simp [hx])
   have ih := be_fold t (a * 256 + b) ht
   have hlt := VarMath.unbe_lt ht
   rw [List.length_cons, List.foldl_cons]
   show (_ / 256 ^ t.length % 256) :: beB t.length _ = _
   rw [ih, fold_lin, Nat.add_comm, Nat.add_mul_div_right _ _ (Nat.pow_pos (by decide)), Nat.div_eq_of_lt hlt, Nat.zero_add]
   congr 1
   omega
theorem be_unbe {bs : List Nat} (h : AllB bs) : beB bs.length (unbe bs) = bs := be_fold bs 0 h
theorem low64_sg64 {u : Nat} (h : u < 18446744073709551616) : low64 (sg64 u) = u := by unfold low64 sg64; split <;> omega
theorem long_back {q : List Nat} (h : AllB q) (h8 : 8 ≤ q.length) : longB (backB q).1 = q.take 8 := by
 have ht := take_all h 8
 have hl : (q.take 8).length = 8 := by rw [List.length_take]; omega
 have hlt := VarMath.unbe_lt ht
 rw [hl, VarMath.pow8] at hlt
 unfold backB
 rw [if_neg (by omega)]
 show longB (sg64 (unbe (q.take 8))) = _
 unfold longB
 rw [low64_sg64 hlt]
 have := be_unbe ht
 rw [hl] at this
 exact this
theorem scan_pre : ∀ (f : Nat) (bs l : List Nat), scan f bs = some l → bs.take l.length = l
 | 0, bs, l, h => by cases h
 | f + 1, [], l, h => by cases h
 | f + 1, b :: r, l, h => by
   unfold scan at h
   split at h
   · cases h; rfl
   obtain ⟨t, ht, rfl⟩ := Option.map_eq_some_iff.1 h
   have := scan_pre f r t ht
   simp [this]
theorem getB_sound {bs : List Nat} (h : (getB bs).2 ≠ 0) : ∃ u, u < 18446744073709551616 ∧ (getB bs).1 = zag u ∧ bs.take (getB bs).2 = encU u ∧ (encU u).length = (getB bs).2 := by
 rcases hs : scan 10 bs with _ | l
 · rw [VarMath.getB_none hs] at h
   exact absurd rfl h
 have hp := scan_pre 10 bs l hs
 have hg := VarMath.getB_some hs
 by_cases hc : encU (val l % VarMath.two64) = l
 · rw [if_pos hc] at hg
   refine ⟨val l % VarMath.two64, Nat.mod_lt _ (by decide), by rw [hg], ?_, ?_⟩
   · rw [hg, hc]; exact hp
   rw [hg, hc]
 rw [if_neg hc] at hg
 rw [hg] at h
 exact absurd rfl h
theorem cut_sound {p : List Nat} {s : List Nat} {k : Nat} (h : cutB p 64 = (s, k)) (hk : k ≠ 0) : p = textB s ++ p.drop k ∧ (textB s).length = k ∧ s.length ≤ 64 := by
 by_cases hc : (getB p).2 = 0 ∨ (getB p).1 < 0 ∨ (64 : Int) < (getB p).1 ∨ (p.length : Int) - ((getB p).2 : Int) < (getB p).1
 · rw [VarMath.cutB_no hc] at h
   exact absurd (Prod.mk.inj h).2.symm hk
 rw [VarMath.cutB_yes hc] at h
 have hn : (getB p).2 ≠ 0 := by omega
 obtain ⟨u, hu, hz, ht, hl⟩ := getB_sound hn
 obtain ⟨hs, hk'⟩ := Prod.mk.inj h
 have h0 : 0 ≤ (getB p).1 := by omega
 have h64 : (getB p).1 ≤ 64 := by omega
 have hr : (getB p).1 ≤ (p.length : Int) - ((getB p).2 : Int) := by omega
 obtain ⟨n, hn'⟩ : ∃ n : Nat, (getB p).1 = (n : Int) := ⟨(getB p).1.toNat, by omega⟩
 obtain ⟨m, hm⟩ : ∃ m : Nat, (getB p).2 = m := ⟨_, rfl⟩
 rw [hn', hm] at hr hs hk'
 rw [hm] at ht hl
 rw [hn'] at hz h64
 have hu2 : u = 2 * n := by
  unfold zag at hz
  split at hz <;> omega
 simp only [Int.toNat_natCast] at hs hk'
 have hsl : s.length = n := by rw [← hs, List.length_take, List.length_drop]; omega
 have e : textB s = p.take m ++ (p.drop m).take n := by
  unfold textB
  rw [hsl, ← hu2, ← ht, hs]
 have hlen : (textB s).length = k := by
  unfold textB
  rw [hsl, ← hu2, List.length_append, hl, hsl, hk']
 refine ⟨?_, hlen, by omega⟩
 rw [e, ← hk', ← List.drop_drop, List.append_assoc, List.take_append_drop, List.take_append_drop]
def recsC : Nat → List Nat → Option (List Rc × List Nat)
 | 0, p => some ([], p)
 | n + 1, p =>
   if (cutB p 64).2 = 0 ∨ (cutB (p.drop (cutB p 64).2) 64).2 = 0 then none
   else (recsC n (p.drop ((cutB p 64).2 + (cutB (p.drop (cutB p 64).2) 64).2))).map fun q => (⟨sb (cutB p 64).1, sb (cutB (p.drop (cutB p 64).2) 64).1⟩ :: q.1, q.2)
theorem recsC_step {n k m : Nat} {p a c : List Nat} (h1 : cutB p 64 = (a, k)) (h2 : cutB (p.drop k) 64 = (c, m)) (hk : k ≠ 0) (hm : m ≠ 0) :
 recsC (n + 1) p = (recsC n (p.drop (k + m))).map fun q => (⟨sb a, sb c⟩ :: q.1, q.2) := by
 show (if (cutB p 64).2 = 0 ∨ _ then _ else _) = _
 rw [h1]
 simp only
 rw [h2]
 simp only
 rw [if_neg (by omega)]
theorem recsC_fell {n k m : Nat} {p a c : List Nat} (h1 : cutB p 64 = (a, k)) (h2 : cutB (p.drop k) 64 = (c, m)) (h : k = 0 ∨ m = 0) : recsC (n + 1) p = none := by
 show (if (cutB p 64).2 = 0 ∨ _ then _ else _) = _
 rw [h1]
 simp only
 rw [h2]
 simp only
 rw [if_pos h]
theorem cut_all {p s : List Nat} {k : Nat} (hp : AllB p) (h : cutB p 64 = (s, k)) : AllB s := by
 by_cases hc : (getB p).2 = 0 ∨ (getB p).1 < 0 ∨ (64 : Int) < (getB p).1 ∨ (p.length : Int) - ((getB p).2 : Int) < (getB p).1
 · rw [VarMath.cutB_no hc] at h
   rw [← (Prod.mk.inj h).1]
   exact all_nil
 rw [VarMath.cutB_yes hc] at h
 rw [← (Prod.mk.inj h).1]
 exact take_all (drop_all hp _) _
theorem recsC_sound : ∀ (n : Nat) (p : List Nat) (l : List Rc) (r : List Nat), AllB p → recsC n p = some (l, r) → l.length = n ∧ p = recsB l ++ r ∧ (∀ c ∈ l, c.key.size ≤ 64 ∧ c.val.size ≤ 64)
 | 0, p, l, r, _, h => by
   cases h
   exact ⟨rfl, rfl, fun c hc => by cases hc⟩
 | n + 1, p, l, r, hp, h => by
   rcases h1 : cutB p 64 with ⟨a, k⟩
   rcases h2 : cutB (p.drop k) 64 with ⟨c, m⟩
   by_cases hz : k = 0 ∨ m = 0
   · rw [recsC_fell h1 h2 hz] at h
     cases h
   rw [recsC_step h1 h2 (by omega) (by omega)] at h
   obtain ⟨q, hq, he⟩ := Option.map_eq_some_iff.1 h
   obtain ⟨l', r'⟩ := q
   simp only [Prod.mk.injEq] at he
   obtain ⟨rfl, rfl⟩ := he
   obtain ⟨i1, i2, i3⟩ := recsC_sound n _ l' r' (drop_all hp _) hq
   obtain ⟨e1, e2, e3⟩ := cut_sound h1 (by omega)
   obtain ⟨f1, f2, f3⟩ := cut_sound h2 (by omega)
   have ba := bl_sb (cut_all hp h1)
   have bc := bl_sb (cut_all (drop_all hp k) h2)
   refine ⟨by rw [List.length_cons, i1], ?_, ?_⟩
   · rw [recsB_cons]
     unfold recB
     simp only
     rw [ba, bc, List.append_assoc, List.append_assoc, ← i2, ← List.drop_drop, ← f1, ← e1]
   intro x hx
   rcases List.mem_cons.1 hx with rfl | hx
   · have z1 : (sb a).size = a.length := by simp [sb, ByteArray.size]
     have z2 : (sb c).size = c.length := by simp [sb, ByteArray.size]
     simp only
     rw [z1, z2]
     exact ⟨e3, f3⟩
   exact i3 x hx
theorem recsC_enc : ∀ (l : List Rc) (r : List Nat), (∀ c ∈ l, c.key.size ≤ 64 ∧ c.val.size ≤ 64) → recsC l.length (recsB l ++ r) = some (l, r)
 | [], r, _ => by simp [recsC, recsB]
 | c :: l, r, h => by
   obtain ⟨hc1, hc2⟩ := h c (by simp)
   have e1 : recsB (c :: l) ++ r = textB (bl c.key) ++ (textB (bl c.val) ++ (recsB l ++ r)) := by
    rw [recsB_cons, recB]
    simp only [List.append_assoc]
   have l1 := text_len (s := bl c.key) (by rw [bl_len]; omega)
   have l2 := text_len (s := bl c.val) (by rw [bl_len]; omega)
   have c1 := cut_text_any (s := bl c.key) (by rw [bl_len]; omega) (textB (bl c.val) ++ (recsB l ++ r)) 64 (by rw [bl_len]; omega)
   have c2 := cut_text_any (s := bl c.val) (by rw [bl_len]; omega) (recsB l ++ r) 64 (by rw [bl_len]; omega)
   have d1 : (textB (bl c.key) ++ (textB (bl c.val) ++ (recsB l ++ r))).drop (textB (bl c.key)).length = textB (bl c.val) ++ (recsB l ++ r) := by
    rw [List.drop_append_of_le_length (Nat.le_refl _), List.drop_length, List.nil_append]
   have d2 : (textB (bl c.val) ++ (recsB l ++ r)).drop (textB (bl c.val)).length = recsB l ++ r := by
    rw [List.drop_append_of_le_length (Nat.le_refl _), List.drop_length, List.nil_append]
   have c2' : cutB ((textB (bl c.key) ++ (textB (bl c.val) ++ (recsB l ++ r))).drop (textB (bl c.key)).length) 64 = (bl c.val, (textB (bl c.val)).length) := by rw [d1]; exact c2
   have st := recsC_step (n := l.length) c1 c2' (by omega) (by omega)
   rw [e1, List.length_cons, st, ← List.drop_drop, d1, d2, recsC_enc l r (fun x hx => h x (by simp [hx])), Option.map_some, sb_bl, sb_bl]
def i16D (n : Nat) : Int := if n < 32768 then (n : Int) else (n : Int) - 65536
def fieldsC (x : List Nat) (base : Int) (l : List Rc) : Bat :=
 ⟨base, (backB (x.drop 1)).1, i16D (unbe ((x.drop 9).take 2)), (backB (x.drop 11)).1, decide (x.getD 0 0 % 2 = 1), ((x.getD 0 0 / 2 : Nat) : Int), l⟩
theorem twenty {x : List Nat} (h : 20 ≤ x.length) : x = x.getD 0 0 :: ((x.drop 1).take 8 ++ (x.getD 9 0 :: x.getD 10 0 :: ((x.drop 11).take 8 ++ (x.getD 19 0 :: x.drop 20)))) := by
 have g : ∀ k, k < x.length → x.drop k = x.getD k 0 :: x.drop (k + 1) := by
  intro k hk
  rw [List.drop_eq_getElem_cons hk, List.getD_eq_getElem?_getD, List.getElem?_eq_getElem hk]
  rfl
 have t : ∀ k m, x.drop k = (x.drop k).take m ++ x.drop (k + m) := by
  intro k m
  rw [← List.drop_drop, List.take_append_drop]
 have g0 : x = x.getD 0 0 :: x.drop 1 := g 0 (by omega)
 have g9 : x.drop 9 = x.getD 9 0 :: x.drop 10 := g 9 (by omega)
 have g10 : x.drop 10 = x.getD 10 0 :: x.drop 11 := g 10 (by omega)
 have g19 : x.drop 19 = x.getD 19 0 :: x.drop 20 := g 19 (by omega)
 have t1 : x.drop 1 = (x.drop 1).take 8 ++ x.drop 9 := t 1 8
 have t11 : x.drop 11 = (x.drop 11).take 8 ++ x.drop 19 := t 11 8
 exact g0.trans (congrArg (x.getD 0 0 :: ·) (t1.trans (congrArg ((x.drop 1).take 8 ++ ·) (g9.trans (congrArg (x.getD 9 0 :: ·) (g10.trans (congrArg (x.getD 10 0 :: ·) (t11.trans (congrArg ((x.drop 11).take 8 ++ ·) g19)))))))))
theorem unbe_two (a b : Nat) : unbe [a, b] = a * 256 + b := by simp [unbe]
theorem take_two {x : List Nat} (h : 20 ≤ x.length) : (x.drop 9).take 2 = [x.getD 9 0, x.getD 10 0] := by
 have g : ∀ k, k < x.length → x.drop k = x.getD k 0 :: x.drop (k + 1) := by
  intro k hk
  rw [List.drop_eq_getElem_cons hk, List.getD_eq_getElem?_getD, List.getElem?_eq_getElem hk]
  rfl
 rw [g 9 (by omega), g 10 (by omega)]
 rfl
theorem fields_wf {x : List Nat} (hx : AllB x) (h : 20 ≤ x.length) {n : Int} (hn : In64 n) (l : List Rc) : (fieldsC x n l).wf := by
 have h0 := getD_lt hx 0
 have h9 := getD_lt hx 9
 have h10 := getD_lt hx 10
 refine ⟨hn, back_in (drop_all hx 1), ?_, back_in (drop_all hx 11), ?_⟩
 · show In64 (i16D (unbe ((x.drop 9).take 2)))
   rw [take_two h, unbe_two]
   unfold i16D In64
   split <;> omega
 show In64 ((x.getD 0 0 / 2 : Nat) : Int)
 unfold In64
 omega
theorem fields_body {x : List Nat} (hx : AllB x) (h : 20 ≤ x.length) (n : Int) {l : List Rc} (hl : l.length = x.getD 19 0) (hr : x.drop 20 = recsB l) : bodyB (fieldsC x n l) = x := by
 have h0 := getD_lt hx 0
 have h9 := getD_lt hx 9
 have h10 := getD_lt hx 10
 have h19 := getD_lt hx 19
 have e1 : flagN (fieldsC x n l) = x.getD 0 0 := by
  unfold flagN fieldsC
  simp only [decide_eq_true_eq]
  split <;> omega
 have e2 : epochN (fieldsC x n l) = x.getD 9 0 * 256 + x.getD 10 0 := by
  show ((i16D (unbe ((x.drop 9).take 2))) % 65536).toNat = _
  rw [take_two h, unbe_two]
  unfold i16D
  split <;> omega
 have e3 : longB (fieldsC x n l).prod = (x.drop 1).take 8 := long_back (drop_all hx 1) (by rw [List.length_drop]; omega)
 have e4 : longB (fieldsC x n l).seq = (x.drop 11).take 8 := long_back (drop_all hx 11) (by rw [List.length_drop]; omega)
 have e5 : (fieldsC x n l).recs.length % 256 = x.getD 19 0 := by
  show l.length % 256 = _
  omega
 unfold bodyB frontB
 rw [e1, e2, e3, e4, e5, show (x.getD 9 0 * 256 + x.getD 10 0) / 256 = x.getD 9 0 by omega, show (x.getD 9 0 * 256 + x.getD 10 0) % 256 = x.getD 10 0 by omega]
 show _ ++ recsB l = x
 rw [← hr]
 conv => rhs; rw [twenty h]
 simp
theorem body_fields {b : Bat} (h : Ok b) (hw : b.wf) : fieldsC (bodyB b) b.base b.recs = b ∧ 20 ≤ (bodyB b).length ∧ (bodyB b).getD 19 0 = b.recs.length ∧ (bodyB b).drop 20 = recsB b.recs := by
 have hl := body_len b
 have hx : bodyB b = flagN b :: (longB b.prod ++ (epochN b / 256 :: epochN b % 256 :: (longB b.seq ++ (b.recs.length % 256 :: recsB b.recs)))) := by simp [bodyB, frontB]
 have d1 : (bodyB b).drop 1 = longB b.prod ++ (epochN b / 256 :: epochN b % 256 :: (longB b.seq ++ (b.recs.length % 256 :: recsB b.recs))) := by rw [hx]; rfl
 have d9 : (bodyB b).drop 9 = epochN b / 256 :: epochN b % 256 :: (longB b.seq ++ (b.recs.length % 256 :: recsB b.recs)) := by rw [hx]; exact drop_cons_app _ _ _ 8 (VarMath.length_longB _)
 have d10 : (bodyB b).drop 10 = epochN b % 256 :: (longB b.seq ++ (b.recs.length % 256 :: recsB b.recs)) := by rw [show (10 : Nat) = 9 + 1 from rfl, ← List.drop_drop, d9]; rfl
 have d11 : (bodyB b).drop 11 = longB b.seq ++ (b.recs.length % 256 :: recsB b.recs) := by rw [show (11 : Nat) = 10 + 1 from rfl, ← List.drop_drop, d10]; rfl
 have d19 : (bodyB b).drop 19 = b.recs.length % 256 :: recsB b.recs := by rw [show (19 : Nat) = 10 + 9 from rfl, ← List.drop_drop, d10]; exact drop_cons_app _ _ _ 8 (VarMath.length_longB _)
 have g0 : (bodyB b).getD 0 0 = flagN b := by rw [hx]; rfl
 have hr := h.recs
 have g19 : (bodyB b).getD 19 0 = b.recs.length := by rw [getD_drop, d19]; show b.recs.length % 256 = _; omega
 have t2 : ((bodyB b).drop 9).take 2 = [epochN b / 256, epochN b % 256] := by rw [d9]; rfl
 have d20 : (bodyB b).drop 20 = recsB b.recs := by rw [show (20 : Nat) = 19 + 1 from rfl, ← List.drop_drop, d19]; rfl
 obtain ⟨h1, h2, h3, h4, h5, h6, h7, h8, h9, _, _⟩ := h
 obtain ⟨w1, w2, w3, w4, w5⟩ := hw
 refine ⟨?_, by omega, g19, d20⟩
 unfold fieldsC
 rw [d1, d11, g0, t2, unbe_two, VarMath.backB_long w2.1 w2.2, VarMath.backB_long w4.1 w4.2]
 have hf : flagN b = (2 * b.marker + (if b.txn = true then 1 else 0)).toNat := by
  unfold flagN
  split <;> omega
 refine Bat.ext_of rfl rfl ?_ rfl ?_ ?_ rfl
 · show i16D (epochN b / 256 * 256 + epochN b % 256) = b.epoch
   unfold i16D epochN
   split <;> omega
 · show decide (flagN b % 2 = 1) = b.txn
   rw [hf]
   cases b.txn
   · rw [if_neg (by decide)]; exact decide_eq_false (by omega)
   rw [if_pos rfl]; exact decide_eq_true (by omega)
 show ((flagN b / 2 : Nat) : Int) = b.marker
 rw [hf]
 split <;> omega
def Opens (p : List Nat) (o : Option Bat) : Prop :=
 (∀ b, o = some b → okB (p.drop 12) = true ∧ 20 ≤ ((p.drop 12).drop 4).length ∧ recsC (((p.drop 12).drop 4).getD 19 0) (((p.drop 12).drop 4).drop 20) = some (b.recs, []) ∧ b = fieldsC ((p.drop 12).drop 4) (backB p).1 b.recs ∧ rightE b = 0) ∧
 (o = none → ∀ l, okB (p.drop 12) = true → 20 ≤ ((p.drop 12).drop 4).length → recsC (((p.drop 12).drop 4).getD 19 0) (((p.drop 12).drop 4).drop 20) = some (l, []) → rightE (fieldsC ((p.drop 12).drop 4) (backB p).1 l) ≠ 0)
theorem opens_good {p : List Nat} (hp : AllB p) (h12 : 12 ≤ p.length) (hl : p.length = lenD p + 12) {o : Option Bat} (h : Opens p o) (b : Bat) : o = some b ↔ Good p b := by
 have hs := CrcMath.sealB_drop (bs := p.drop 12)
 constructor
 · intro e
   obtain ⟨h1, h2, h3, h4, h5⟩ := h.1 b e
   have hall := drop_all hp 12
   have hx := drop_all hall 4
   obtain ⟨i1, i2, i3⟩ := recsC_sound _ _ _ _ (drop_all hx 20) h3
   have h4l : 4 ≤ (p.drop 12).length := by rw [List.length_drop] at h2; omega
   have hseal := (hs h4l hall).2 h1
   have hbody : bodyB b = (p.drop 12).drop 4 := by
    rw [h4]
    exact fields_body hx h2 _ i1 (by rw [i2, List.append_nil])
   have hbase : longB b.base = p.take 8 := by
    rw [h4]
    exact long_back hp (by omega)
   have h84 : ((p.drop 8).take 4).length = 4 := by rw [List.length_take, List.length_drop]; omega
   have hbe := be_unbe (take_all (drop_all hp 8) 4)
   rw [h84] at hbe
   have hbytes : bytesB b = p := by
    unfold bytesB
    rw [hbody, hseal, hbase, show (p.drop 12).length = lenD p by rw [List.length_drop]; omega]
    unfold lenD
    rw [hbe, show p.drop 12 = (p.drop 8).drop 4 by rw [List.drop_drop], List.take_append_drop, List.take_append_drop]
   refine ⟨h5, ?_, by rw [hbytes]; exact List.prefix_refl _⟩
   rw [h4]
   exact fields_wf hx h2 (back_in hp) _
 intro g
 obtain ⟨g1, g2, g3, g4, g5, g6, g7⟩ := good_parts g
 have ho := ok_of g.right
 have hd : p.drop 12 = sealB (bodyB b) := by
  rw [← g5, List.take_of_length_le (by rw [List.length_drop]; omega)]
 have hx : (p.drop 12).drop 4 = bodyB b := by rw [hd, CrcMath.drop_sealB]
 obtain ⟨f1, f2, f3, f4⟩ := body_fields ho g.wf
 have hok : okB (p.drop 12) = true := by rw [hd]; exact CrcMath.okB_seal (body_all ho)
 have hrc : recsC (((p.drop 12).drop 4).getD 19 0) (((p.drop 12).drop 4).drop 20) = some (b.recs, []) := by
  rw [hx, f3, f4]
  have := recsC_enc b.recs [] ho.texts
  rw [List.append_nil] at this
  exact this
 have hbk : (backB p).1 = b.base := by rw [g7]
 rcases o with _ | b'
 · refine absurd ?_ (h.2 rfl b.recs hok (by rw [hx]; exact f2) hrc)
   rw [hx, hbk, f1]
   exact g.right
 obtain ⟨h1, h2, h3, h4, h5⟩ := h.1 b' rfl
 rw [hrc] at h3
 have e : b'.recs = b.recs := (congrArg Prod.fst (Option.some.inj h3)).symm
 rw [h4, e, hx, hbk, f1]
theorem lenD_take {p : List Nat} {n : Nat} (h : 12 ≤ n) : lenD (p.take n) = lenD p := by
 unfold lenD
 rw [List.drop_take, List.take_take, Nat.min_eq_left (by omega)]
theorem good_take {p : List Nat} (h : lenD p + 12 ≤ p.length) (b : Bat) : Good (p.take (lenD p + 12)) b ↔ Good p b := by
 constructor
 · intro g
   exact ⟨g.right, g.wf, g.pre.trans (List.take_prefix _ _)⟩
 intro g
 obtain ⟨g1, _, _, _, _, g6, _⟩ := good_parts g
 refine ⟨g.right, g.wf, ?_⟩
 rw [Nat.add_comm, g6]
 exact List.prefix_refl _
theorem reads_some {p : List Nat} {b : Bat} (g : Good p b) : Reads p ⟨b, lenD p + 12, 0⟩ :=
 ⟨fun _ => ⟨g, (good_parts g).1.symm⟩, fun h => absurd rfl h, fun c hc => ⟨rfl, good_one g hc⟩⟩
theorem reads_none {p : List Nat} {e : Int} (he : e = fellD p) (h : ∀ b, ¬ Good p b) : Reads p ⟨Bat.zero, 0, e⟩ :=
 ⟨fun h0 => absurd h0 (by show e ≠ 0; rw [he]; exact fell_pos p), fun _ => ⟨rfl, rfl, he⟩, fun b hb => absurd hb (h b)⟩
end Go.BatMath
namespace Go.Proofs.YtjmfdildnojknaaGreat
open Go.RowKit
open Go.SeqMath
open Go.BatMath hiding AllB getD_lt take_all
open Go.VarMath (longB length_longB textB backB unbe unbe_lt unbe_take)
theorem join_or (u x : Nat) (hu : u < 16777216) (hx : x < 256) : bits .or .u32 ((u : Int) * 256) (x : Int) = ((u * 256 + x : Nat) : Int) := by
 have e : (u : Int) * 256 = ((u * 256 : Nat) : Int) := by omega
 rw [e, u32_or_nat (u * 256) x (by omega) (by omega), nat_join 8 (u * 256) x (Nat.mul_mod_left _ _) (by simpa using hx)]
theorem unbe_three {bs : List Nat} (h : AllB bs) (k : Nat) (hk : k < 4) : unbe (bs.take k) < 16777216 := by
 have h1 := unbe_lt (take_all h k)
 have h2 : (bs.take k).length ≤ 3 := by rw [List.length_take]; omega
 have h3 : (256 : Nat) ^ (bs.take k).length ≤ 256 ^ 3 := Nat.pow_le_pow_right (by omega) h2
 have h4 : (256 : Nat) ^ 3 = 16777216 := by decide
 omega
theorem join_eq {a b : Int} (h : a = b) : Value.int .u32 a = Value.int .u32 b := by rw [h]
theorem u32_ret {a b : Int} (h : a = b) : Ending.returned (.int .u32 a) = .returned (.int .u32 b) := by rw [h]
theorem wrap_i16 (e : Nat) (h : e < 65536) : IntKind.i16.wrap (e : Int) = i16D e := by
 unfold i16D
 simp only [IntKind.wrap, IntKind.bits, IntKind.signed, Bool.true_and, decide_eq_true_eq, ge_iff_le, Nat.reduceSub, Int.reducePow]
 split <;> split <;> omega
theorem join_any (w : World) (ad : Option Addr) (len cap : Nat) (bs : List Nat) (h : Byt w ad len cap bs) (h1 : 0 < len) (h4 : len ≤ 4) :
 Calls Tryz.prog 100 #[.slice ad len cap] w fun e w' => e = .returned (.int .u32 (unbe bs : Nat)) ∧ w = w' := by
 have HL := Lib.hid h.length
 obtain ⟨b, off, rfl, hcell⟩ := h.get h1
 have HC := Lib.hid hcell
 have HA := Lib.hid h.all
 clear h hcell
 go_enter Tryz.func100, Tryz.ntmps100
 go_wp2
 go_loop [3, 8] (fun v3 v8 => ∃ k : Nat, k ≤ len ∧ v8 = .int .i64 k ∧ v3 = .int .u32 (unbe (bs.take k) : Nat)) (fun _ i => len - (intOf i).toNat)
 case atStart => exact ⟨0, by omega, rfl, rfl⟩
 obtain ⟨k, hk, rfl, rfl⟩ := hrel
 by_cases hlt : k < len
 rotate_left
 · obtain rfl : k = len := by omega
   have HU : Hid (unbe (bs.take k) = unbe bs) := by show _ = _; rw [List.take_of_length_le (by rw [HL.out]; exact Nat.le_refl _)]
   obtain ⟨u, hue⟩ : ∃ u, u = unbe (bs.take k) := ⟨_, rfl⟩
   rw [← hue] at HU ⊢
   clear hue
   go_wp2
   go_ret
   exact ⟨u32_ret (by rw [HU.out]), rfl⟩
 have hu := unbe_three HA.out k (by omega)
 have hx8 := getD_all HA.out k
 have hc := HC.out k (by omega)
 have hs := unbe_take bs k (by rw [HL.out]; omega)
 obtain ⟨u, hue⟩ : ∃ u, u = unbe (bs.take k) := ⟨_, rfl⟩
 obtain ⟨x, hxe⟩ : ∃ x, x = bs.getD k 0 := ⟨_, rfl⟩
 rw [← hue] at hu hs ⊢
 rw [← hxe] at hx8 hc hs
 have HS := Lib.hid hs
 clear hue hxe hs
 have hor := join_or u x hu hx8
 go_wp2
 go_round
 case rel => exact ⟨k + 1, by omega, by go_num, by rw [HS.out]; exact join_eq (by omega)⟩
 simp [intOf]; omega
theorem results_cell_lone {fn : Func} {p : Tmp} {ty : TypeId} (h : fn.results = #[.cell p ty]) (tmps : Array Value) (P : Program) (w : World) :
 (results fn tmps).run P w = ((asAddr (tmps.getD p undef)).run P w).andThen fun a w₁ => (loadVar ty a).run P w₁ := by
 simp only [results, h]
 simp [Sem.run_bind, Result.andThen]
theorem resultsFields {tmps : Array Value} {B : Nat} {W : World} {b0 b1 b2 b3 : Int} {b4 : Bool} {b5 : Int} {v : Value} (h : BoxAt W B b0 b1 b2 b3 b4 b5 v) (ht : tmps.getD 2 undef = .pointer (some ⟨B, 0, none⟩)) :
 (results Tryz.f129 tmps).run Tryz.prog W = .ok (.agg #[.int .i64 b0, .int .i64 b1, .int .i64 b2, .int .i64 b3, .bool b4, .int .i64 b5, v]) W := by
 rw [results_cell_lone (p := 2) (ty := 29) Tryz.results129, ht]
 have hl := run_loadVar_row (P := Tryz.prog) W B 29 29 _ (0, 0) _ h Tryz.underlying29 rfl (by kernel_rfl)
 simp only [asAddr, Sem.run_pure, Result.andThen, hl]
def GivesFields (w : World) (x : List Nat) (e : Ending) (w' : World) : Prop :=
 ∃ (b : Bat), b = fieldsC x 0 [] ∧ e = .returned (.agg #[.int .i64 b.base, .int .i64 b.prod, .int .i64 b.epoch, .int .i64 b.seq, .bool b.txn, .int .i64 b.marker, .slice none 0 0]) ∧ Below w.heap.size w w'
theorem fields_any (w : World) (ad : Option Addr) (len cap : Nat) (x : List Nat) (h : Byt w ad len cap x) (h20 : 20 ≤ len) (hL : len ≤ 140737488355328) :
 Calls Tryz.prog 129 #[.slice ad len cap] w (GivesFields w x) := by
 have hxl := h.length
 obtain ⟨bx, ox, rfl, hcell⟩ := h.get (by omega)
 have g0 := getD_all h.all 0
 have hc0 := hcell 0 (by omega)
 rw [Nat.add_zero] at hc0
 have hbx : bx < w.heap.size := World.block_lt_of_cell? _ _ hc0
 have HF : Hid (∀ p e s t m, p = (backB (x.drop 1)).1 → e = i16D (unbe ((x.drop 9).take 2)) → s = (backB (x.drop 11)).1 → t = decide (x.getD 0 0 % 2 = 1) → m = ((x.getD 0 0 / 2 : Nat) : Int) → ∀ w', Below w.heap.size w w' →
  GivesFields w x (.returned (.agg #[.int .i64 0, .int .i64 p, .int .i64 e, .int .i64 s, .bool t, .int .i64 m, .slice none 0 0])) w') := by
  rintro p e s t m rfl rfl rfl rfl rfl w' hb
  exact ⟨_, rfl, rfl, hb⟩
 obtain ⟨x0, hx0⟩ : ∃ x0, x0 = x.getD 0 0 := ⟨_, rfl⟩
 obtain ⟨ew, hew⟩ : ∃ x0, x0 = unbe ((x.drop 9).take 2) := ⟨_, rfl⟩
 obtain ⟨o1, k1, hs1, hB1⟩ := from_lit h 1 1 rfl (by omega)
 obtain ⟨o9, k9, hs9, hB9⟩ := part_lit h 9 2 9 11 rfl (by omega) (by omega)
 obtain ⟨o11, k11, hs11, hB11⟩ := from_lit h 11 11 rfl (by omega)
 obtain ⟨p, hp⟩ : ∃ p, p = (backB (x.drop 1)).1 := ⟨_, rfl⟩
 obtain ⟨s, hs⟩ : ∃ p, p = (backB (x.drop 11)).1 := ⟨_, rfl⟩
 obtain ⟨po, hpo⟩ : ∃ p, p = (backB (x.drop 1)).2 := ⟨_, rfl⟩
 obtain ⟨so, hso⟩ : ∃ p, p = (backB (x.drop 11)).2 := ⟨_, rfl⟩
 have hew6 : ew < 65536 := by
  have h1 := unbe_lt hB9.all
  rw [hB9.length] at h1
  rw [hew]
  exact h1
 have CB1 : Hid (∀ W, Below w.heap.size w W → Calls Tryz.prog 130 #[.slice (some ⟨bx, o1, none⟩) (len - 1) k1] W fun e w' => e = .returned (.tuple #[.int .i64 p, .bool po]) ∧ W = w') := by
  intro W hW
  have := back_any W _ _ _ _ (hB1.keep hW (Nat.le_refl _)) (by omega)
  unfold GivesBack at this
  rw [← hp, ← hpo] at this
  exact this
 have CB11 : Hid (∀ W, Below w.heap.size w W → Calls Tryz.prog 130 #[.slice (some ⟨bx, o11, none⟩) (len - 11) k11] W fun e w' => e = .returned (.tuple #[.int .i64 s, .bool so]) ∧ W = w') := by
  intro W hW
  have := back_any W _ _ _ _ (hB11.keep hW (Nat.le_refl _)) (by omega)
  unfold GivesBack at this
  rw [← hs, ← hso] at this
  exact this
 have CJ : Hid (∀ W, Below w.heap.size w W → Calls Tryz.prog 100 #[.slice (some ⟨bx, o9, none⟩) 2 k9] W fun e w' => e = .returned (.int .u32 (ew : Int)) ∧ W = w') := by
  intro W hW
  have := join_any W _ _ _ _ (hB9.keep hW (Nat.le_refl _)) (by omega) (by omega)
  rw [← hew] at this
  exact this
 rw [← hx0, ← hp, ← hs, ← hew] at HF
 rw [← hx0] at hc0 g0
 have hlow : bits .and .u8 (x0 : Int) 1 = ((x0 % 2 : Nat) : Int) := u8_low x0 g0
 obtain ⟨tx, htx⟩ : ∃ tx, (bits .and .u8 (x0 : Int) 1 == 1) = tx := ⟨_, rfl⟩
 have htx2 : Hid (tx = decide (x0 % 2 = 1)) := by
  show tx = decide _
  rw [← htx, hlow]
  by_cases h1 : x0 % 2 = 1
  · rw [h1]; rfl
  have : x0 % 2 = 0 := by omega
  rw [this]; rfl
 obtain ⟨m2, hm2'⟩ : ∃ m2, m2 = x0 / 2 := ⟨_, rfl⟩
 have hm2 : (x0 : Int) / 2 = (m2 : Int) := by omega
 rw [← hm2'] at HF
 have hi16 : IntKind.i16.wrap (ew : Int) = i16D ew := wrap_i16 ew hew6
 obtain ⟨ev, hev⟩ : ∃ ev, ev = i16D ew := ⟨_, rfl⟩
 have hevb : -32768 ≤ ev ∧ ev ≤ 32767 := by rw [hev]; unfold i16D; split <;> omega
 rw [← hev] at hi16 HF
 have HX := Lib.hid h
 clear h hxl hcell hx0 hB1 hB11 hB9 hp hs hpo hso hlow hm2' hew hev
 go_enter Tryz.func129, Tryz.ntmps129
 go_upto_region 1 with fail
 go_cut [3] from 4 (fun s3 wx => s3 = .pointer (some ⟨w.heap.size + 1, 0, none⟩) ∧ Hid (Two w 0 0 0 tx (m2 : Int) (.slice none 0 0) wx))
 case first =>
  go_region
  all_goals
   go_wp2
   go_meet
   case rel => exact ⟨by simp, two_new w tx (m2 : Int)⟩
 case rest =>
  obtain ⟨rfl, HT1⟩ := hcut
  clear hc0 htx
  have hk1 := HT1.out.bx.c1
  have hf1 := HT1.out.bx.free 1
  go_wp2_with fail
  refine (CB1.out _ HT1.out.bel).mono ?_
  rintro e w' ⟨rfl, rfl⟩
  go_upto_region 3 with fail
  obtain ⟨W2, hW2⟩ : ∃ W2, W2 = wc.setCell ⟨w.heap.size + 1, 1, none⟩ (.int .i64 p) := ⟨_, rfl⟩
  have HT2 : Hid (Two w p 0 0 tx (m2 : Int) (.slice none 0 0) W2) := by rw [hW2]; exact HT1.out.s1 p
  rw [← hW2]
  clear hk1 hf1 hW2 hs1
  have hk2 := HT2.out.bx.c2
  have hf2 := HT2.out.bx.free 2
  go_wp2_with fail
  refine (CJ.out _ HT2.out.bel).mono ?_
  rintro e w' ⟨rfl, rfl⟩
  go_upto_region 4 with fail
  obtain ⟨W3, hW3⟩ : ∃ W3, W3 = W2.setCell ⟨w.heap.size + 1, 2, none⟩ (.int .i64 ev) := ⟨_, rfl⟩
  have HT3 : Hid (Two w p ev 0 tx (m2 : Int) (.slice none 0 0) W3) := by rw [hW3]; exact HT2.out.s2 ev
  rw [← hW3]
  clear hk2 hf2 hW3 hs9
  have hk3 := HT3.out.bx.c3
  have hf3 := HT3.out.bx.free 3
  go_wp2_with fail
  refine (CB11.out _ HT3.out.bel).mono ?_
  rintro e w' ⟨rfl, rfl⟩
  go_upto_region 5 with fail
  obtain ⟨W4, hW4⟩ : ∃ W4, W4 = W3.setCell ⟨w.heap.size + 1, 3, none⟩ (.int .i64 s) := ⟨_, rfl⟩
  have HT4 : Hid (Two w p ev s tx (m2 : Int) (.slice none 0 0) W4) := by rw [hW4]; exact HT3.out.s3 s
  rw [← hW4]
  clear hk3 hf3 hW4 hs11
  have p0 := HT4.out.bx.c0
  have p1 := HT4.out.bx.c1
  have p2 := HT4.out.bx.c2
  have p3 := HT4.out.bx.c3
  have p4 := HT4.out.bx.c4
  have p5 := HT4.out.bx.c5
  have p6 := HT4.out.bx.c6
  have r0 := HT4.out.rs.c0
  have q0 := HT4.out.rs.free 0
  have r1 := HT4.out.rs.c1
  have q1 := HT4.out.rs.free 1
  have r2 := HT4.out.rs.c2
  have q2 := HT4.out.rs.free 2
  have r3 := HT4.out.rs.c3
  have q3 := HT4.out.rs.free 3
  have r4 := HT4.out.rs.c4
  have q4 := HT4.out.rs.free 4
  have r5 := HT4.out.rs.c5
  have q5 := HT4.out.rs.free 5
  have r6 := HT4.out.rs.c6
  have q6 := HT4.out.rs.free 6
  go_wp2
  exact bodyPost_ret (resultsFields (((((((HT4.out.rs.s0 0).s1 p).s2 ev).s3 s).s4 tx).s5 (m2 : Int)).s6 (.slice none 0 0)) rfl) rfl (HF.out p ev s tx (m2 : Int) rfl rfl rfl htx2.out rfl _ (((((((HT4.out.bel.setCell (Nat.le_refl _) _).setCell (Nat.le_refl _) _).setCell (Nat.le_refl _) _).setCell (Nat.le_refl _) _).setCell (Nat.le_refl _) _).setCell (Nat.le_refl _) _).setCell (Nat.le_refl _) _))
end Go.Proofs.YtjmfdildnojknaaGreat
namespace Go.Proofs.YtjmfdildnojknaaGreat
open Go.RowKit
open Go.SeqMath
open Go.BatMath hiding AllB getD_lt take_all
open Go.VarMath (cutB)
def GivesRecords (w : World) (n : Nat) (x : List Nat) (e : Ending) (w' : World) : Prop :=
 (∃ (l : List Rc) (ad : Option Addr) (cap : Nat), recsC n x = some (l, []) ∧ e = .returned (.tuple #[.slice ad l.length cap, .bool true]) ∧ RecsAt w' ad l.length cap l ∧ (∀ a, ad = some a → w.heap.size ≤ a.block) ∧ Below w.heap.size w w') ∨
 ((∀ l, recsC n x ≠ some (l, [])) ∧ e = .returned (.tuple #[.slice none 0 0, .bool false]) ∧ Below w.heap.size w w')
theorem gives_records {w w' : World} {n m : Nat} {x : List Nat} {l : List Rc} {ad : Option Addr} {cap : Nat} (h : recsC n x = some (l, [])) (hm : l.length = m) (hr : RecsAt w' ad m cap l) (hk : ∀ a, ad = some a → w.heap.size ≤ a.block) (hb : Below w.heap.size w w') :
 GivesRecords w n x (.returned (.tuple #[.slice ad m cap, .bool true])) w' := by
 subst hm; exact .inl ⟨l, ad, cap, h, rfl, hr, hk, hb⟩
theorem gives_no_records {w w' : World} {n : Nat} {x : List Nat} (h : ∀ l, recsC n x ≠ some (l, [])) (hb : Below w.heap.size w w') : GivesRecords w n x (.returned (.tuple #[.slice none 0 0, .bool false])) w' := .inr ⟨h, rfl, hb⟩
def RecordsAt (w : World) (bx n : Nat) (x : List Nat) (v0 v6 v12 : Value) (wr : World) : Prop :=
 ∃ (j : Nat) (l : List Rc) (p : List Nat) (o len cap : Nat) (v : Value), j ≤ n ∧ v12 = .int .i64 j ∧ v0 = .slice (some ⟨bx, o, none⟩) len cap ∧ v6 = v ∧ Byt w (some ⟨bx, o, none⟩) len cap p ∧ len ≤ 4096 ∧ l.length = j ∧ OwnRecs wr w.heap.size v l ∧
   recsC n x = (recsC (n - j) p).map (fun q => (l ++ q.1, q.2)) ∧ Below w.heap.size w wr
theorem map_nil_app2 (o : Option (List Rc × List Nat)) : o = o.map (fun q => ([] ++ q.1, q.2)) := by cases o <;> rfl
theorem recordsAt_start {w : World} {bx n o len cap : Nat} {x : List Nat} (h : Byt w (some ⟨bx, o, none⟩) len cap x) (hL : len ≤ 4096) : RecordsAt w bx n x (.slice (some ⟨bx, o, none⟩) len cap) (.slice none 0 0) (.int .i64 0) w :=
 ⟨0, [], x, o, len, cap, _, Nat.zero_le _, rfl, rfl, rfl, h, hL, rfl, ownRecs_nil _ _, map_nil_app2 _, Below.refl _ _⟩
theorem records_any (w : World) (bx o len cap n : Nat) (x : List Nat) (h : Byt w (some ⟨bx, o, none⟩) len cap x) (hL : len ≤ 4096) (hn : n ≤ 255) :
 Calls Tryz.prog 131 #[.slice (some ⟨bx, o, none⟩) len cap, .int .i64 (n : Int)] w (GivesRecords w n x) := by
 have HX := Lib.hid h
 clear h
 go_enter Tryz.func131, Tryz.ntmps131
 go_wp2_with fail
 go_loopw [0, 6, 12] (fun v0 v6 v12 wr => RecordsAt w bx n x v0 v6 v12 wr) (fun _ _ v12 _ => n - (intOf v12).toNat)
 case atStart => exact recordsAt_start HX.out hL
 clear HX
 obtain ⟨j, l, p, o, len, cap, v, hj, rfl, rfl, rfl, hbyt, hlen, hl, hown, hdec, hbel⟩ := hrel
 have HLJ := Lib.hid hl
 have HO := Lib.hid hown
 have HD := Lib.hid hdec
 have HB := Lib.hid hbel
 have HP := Lib.hid hbyt
 have HPL := Lib.hid hbyt.length
 clear hl hown hdec hbel hbyt
 by_cases hlt : j < n
 rotate_left
 · obtain rfl : j = n := by omega
   have HDD : Hid (recsC j x = some (l, p)) := by
    show _ = _
    rw [HD.out, Nat.sub_self]
    simp [recsC]
   by_cases h0 : len = 0
   · subst h0
     have hp0 : p = [] := List.eq_nil_of_length_eq_zero HPL.out
     subst hp0
     obtain ⟨ad', cap', rfl, hrecs, hblk⟩ := HO.out.at
     have HREC := Lib.hid hrecs
     have HBLK := Lib.hid hblk
     obtain ⟨m, hm⟩ : ∃ m, l.length = m := ⟨_, rfl⟩
     rw [hm] at HREC ⊢
     have HM := Lib.hid hm
     clear hrecs hblk hm
     go_wp2
     go_ret2
     exact gives_records HDD.out HM.out HREC.out HBLK.out HB.out
   have hp0 : Hid (∀ l', recsC j x ≠ some (l', [])) := by
    intro l' h
    rw [HDD.out] at h
    have : p = [] := congrArg Prod.snd (Option.some.inj h)
    have h2 := HPL.out
    rw [this] at h2
    simp at h2
    omega
   have hl0 : 0 < len := by omega
   clear h0
   go_wp2
   go_ret2
   exact gives_no_records hp0.out HB.out
 obtain ⟨a, ha⟩ : ∃ a, a = (cutB p 64).1 := ⟨_, rfl⟩
 obtain ⟨k, hk⟩ : ∃ a, a = (cutB p 64).2 := ⟨_, rfl⟩
 have hkl : k ≤ len := by
  have := cutB_le p 64
  rw [HPL.out, ← hk] at this
  exact this
 obtain ⟨o1, c1, hsl1, hB1⟩ := from_lit HP.out k (k : Int) rfl hkl
 obtain ⟨a2, ha2⟩ : ∃ a, a = (cutB (p.drop k) 64).1 := ⟨_, rfl⟩
 obtain ⟨k2, hk2⟩ : ∃ a, a = (cutB (p.drop k) 64).2 := ⟨_, rfl⟩
 have hk2l : k + k2 ≤ len := by
  have := cutB_le (p.drop k) 64
  rw [List.length_drop, HPL.out, ← hk2] at this
  omega
 obtain ⟨o2, c2, hsl2, hB2⟩ := from_lit HP.out (k + k2) ((k : Int) + (k2 : Int)) (by omega) hk2l
 obtain ⟨s1, hs1'⟩ : ∃ s, s = sb a := ⟨_, rfl⟩
 obtain ⟨s2, hs2'⟩ : ∃ s, s = sb a2 := ⟨_, rfl⟩
 have C1 : Hid (∀ W, Below w.heap.size w W → Calls Tryz.prog 148 #[.slice (some ⟨bx, o, none⟩) len cap, .int .i64 64] W fun e w' => e = .returned (.tuple #[.string s1, .int .i64 (k : Int)]) ∧ Below W.heap.size W w') := by
  intro W hW
  have := cut_any W _ _ _ _ 64 (HP.out.keep hW (Nat.le_refl _)) (by omega) (by omega) (by omega)
  unfold GivesCut at this
  rw [← ha, ← hk] at this
  rw [hs1']
  exact this
 have C2 : Hid (∀ W, Below w.heap.size w W → Calls Tryz.prog 148 #[.slice (some ⟨bx, o1, none⟩) (len - k) c1, .int .i64 64] W fun e w' => e = .returned (.tuple #[.string s2, .int .i64 (k2 : Int)]) ∧ Below W.heap.size W w') := by
  intro W hW
  have := cut_any W _ _ _ _ 64 (hB1.keep hW (Nat.le_refl _)) (by omega) (by omega) (by omega)
  unfold GivesCut at this
  rw [← ha2, ← hk2] at this
  rw [hs2']
  exact this
 have hcut1 : cutB p 64 = (a, k) := by rw [ha, hk]
 have hcut2 : cutB (p.drop k) 64 = (a2, k2) := by rw [ha2, hk2]
 have hnj : n - j = n - (j + 1) + 1 := by omega
 have HFELL : Hid (k = 0 ∨ k2 = 0 → ∀ l, recsC n x ≠ some (l, [])) := by
  intro hh l
  rw [HD.out, hnj, recsC_fell hcut1 hcut2 hh]
  intro h; cases h
 have HSTEP : Hid (k ≠ 0 → k2 ≠ 0 → recsC n x = (recsC (n - (j + 1)) (p.drop (k + k2))).map (fun q => ((l ++ [⟨s1, s2⟩]) ++ q.1, q.2))) := by
  intro h1 h2
  rw [HD.out, hnj, recsC_step hcut1 hcut2 h1 h2, hs1', hs2']
  cases recsC (n - (j + 1)) (p.drop (k + k2))
  · rfl
  simp
 have HB2 := Lib.hid hB2
 clear hB1 hB2 ha hk ha2 hk2 hs1' hs2' hcut1 hcut2 hnj
 go_wp2_with fail
 refine (C1.out _ HB.out).mono ?_
 rintro e w1 ⟨rfl, hb1⟩
 have HW1 := Lib.hid (HB.out.trans (hb1.mono HB.out.size))
 have HO1 := Lib.hid (HO.out.on hb1)
 clear hb1
 go_wp2_with fail
 refine (C2.out _ HW1.out).mono ?_
 rintro e w2 ⟨rfl, hb2⟩
 have HW2 := Lib.hid (HW1.out.trans (hb2.mono HW1.out.size))
 have HO2 := Lib.hid (HO1.out.on hb2)
 clear hb2 hsl1
 by_cases hz : k = 0 ∨ k2 = 0
 · have HF := Lib.hid (HFELL.out hz)
   rcases Nat.eq_zero_or_pos k with hk0 | hk0
   · subst hk0
     clear hz
     go_wp2
     go_ret2
     exact gives_no_records HF.out HW2.out
   have hk20 : k2 = 0 := by omega
   subst hk20
   clear hz
   have hkb : ((k : Int) == 0) = false := by simp; omega
   go_wp2
   go_ret2
   exact gives_no_records HF.out HW2.out
 have hk1 : ((k : Int) == 0) = false := by simp; omega
 have hk2 : ((k2 : Int) == 0) = false := by simp; omega
 have HSTEP2 := Lib.hid (HSTEP.out (by omega) (by omega))
 have hs2 := HW2.out.size
 clear hz
 go_wp2_with (at_builtin; refine list_recs (by rfl) (.tmp 32) (.tmp 36) rfl w.heap.size l [⟨s1, s2⟩] _ rfl (HO2.out.on ((Below.refl _ _).alloc (Nat.le_refl _) _)) (by simp; omega) ⟨w2.heap.size, 0, none⟩ 1 1 rfl rfl (recNews_lit w2 s1 s2 _ rfl) (by have := HLJ.out; omega) ?_)
 intro v' w3 ho3 hg3
 have HW3 : Hid (Below w.heap.size w w3) := Below.recs (HW2.out.alloc hs2 _) (HO2.out.on ((Below.refl _ _).alloc (Nat.le_refl _) _)) (Nat.le_refl _) (by simp; omega) hg3
 have HO3 := Lib.hid ho3
 have HLL : Hid ((l ++ [(⟨s1, s2⟩ : Rc)]).length = j + 1) := by show _ = _; rw [List.length_append, HLJ.out]; rfl
 clear ho3 hg3
 go_wp2
 go_roundw
 case rel => exact ⟨j + 1, _, _, _, _, _, _, hlt, by go_num, rfl, rfl, HB2.out, by omega, HLL.out, HO3.out, HSTEP2.out, HW3.out⟩
 simp [intOf]; omega
end Go.Proofs.YtjmfdildnojknaaGreat
namespace Go.Proofs.YtjmfdildnojknaaGreat
open Go.RowKit
open Go.SeqMath
open Go.BatMath hiding AllB getD_lt take_all
open Go.VarMath (backB)
open Go.CrcMath (okB)
theorem check_any (w : World) (ad : Option Addr) (len cap : Nat) (bs : List Nat) (h : Byt w ad len cap bs) (hL : len ≤ 140737488355328) :
 Calls Tryz.prog 128 #[.slice ad len cap] w fun e w' => (okB bs = false → e = .returned (.tuple #[.slice none 0 0, .bool false]) ∧ Below w.heap.size w w') ∧
  (okB bs = true → ∃ g m, 4 + m = len ∧ e = .returned (.tuple #[.slice (some ⟨g, 0, none⟩) m m, .bool true]) ∧ w.heap.size ≤ g ∧ Own w' g (bs.drop 4) ∧ Below w.heap.size w w') := by
 by_cases h4 : len < 4
 · refine (check_short w ad len cap bs h h4).mono ?_
   rintro e w' ⟨rfl, n, rfl⟩
   exact ⟨fun _ => ⟨rfl, below_drewN (Below.refl _ _) n⟩, fun hk => by rw [CrcMath.okB_short (by rw [h.length]; exact h4)] at hk; cases hk⟩
 refine (check_long w ad len cap bs h (by omega) hL).mono ?_
 rintro e w' ⟨h1, h2⟩
 refine ⟨h1, fun hk => ?_⟩
 obtain ⟨g, rfl, a, b, c⟩ := h2 hk
 exact ⟨g, len - 4, by omega, rfl, a, b, c⟩
theorem gives_fields_parts {w w' : World} {x : List Nat} {e : Ending} (h : GivesFields w x e w') :
 ∃ p ep s t m, Hid (∀ n l, fieldsC x n l = ⟨n, p, ep, s, t, m, l⟩) ∧ e = .returned (.agg #[.int .i64 0, .int .i64 p, .int .i64 ep, .int .i64 s, .bool t, .int .i64 m, .slice none 0 0]) ∧ Hid (Below w.heap.size w w') := by
 obtain ⟨b, rfl, rfl, hb⟩ := h
 exact ⟨_, _, _, _, _, fun n l => rfl, rfl, hb⟩
theorem gives_records_parts {w w' : World} {n : Nat} {x : List Nat} {e : Ending} (h : GivesRecords w n x e w') :
 ∃ ad k cap l ok, e = .returned (.tuple #[.slice ad k cap, .bool ok]) ∧ Hid (RecsAt w' ad k cap l) ∧ Hid (∀ a, ad = some a → w.heap.size ≤ a.block) ∧ Hid (Below w.heap.size w w') ∧ Hid (ok = true → recsC n x = some (l, [])) ∧ Hid (ok = false → ∀ l, recsC n x ≠ some (l, [])) := by
 rcases h with ⟨l, ad, cap, h1, rfl, h2, h3, h4⟩ | ⟨h1, rfl, h2⟩
 · exact ⟨ad, _, cap, l, true, rfl, h2, h3, h4, fun _ => h1, fun h => by cases h⟩
 exact ⟨none, 0, 0, [], false, rfl, recsAt_nil _, fun a h => (by cases h), h2, fun h => (by cases h), fun _ => h1⟩
theorem resultsOpened {tmps : Array Value} {B : Nat} {W : World} {b0 b1 b2 b3 : Int} {b4 : Bool} {b5 : Int} {v : Value} (h : BoxAt W B b0 b1 b2 b3 b4 b5 v) (ht : tmps.getD 2 undef = .pointer (some ⟨B, 0, none⟩)) :
 (results Tryz.f101 tmps).run Tryz.prog W = .ok (.tuple #[.agg #[.int .i64 b0, .int .i64 b1, .int .i64 b2, .int .i64 b3, .bool b4, .int .i64 b5, v], tmps.getD 3 undef]) W := by
 rw [results_cell_tmp (p := 2) (u := 3) (ty := 29) Tryz.results101, ht]
 have hl := run_loadVar_row (P := Tryz.prog) W B 29 29 _ (0, 0) _ h Tryz.underlying29 rfl (by kernel_rfl)
 simp only [asAddr, Sem.run_pure, Result.andThen, hl]
def GivesOpened (w : World) (p : List Nat) (e : Ending) (w' : World) : Prop :=
 (∃ (b : Bat) (ad : Option Addr) (cap : Nat), Opens p (some b) ∧ e = .returned (.tuple #[.agg #[.int .i64 b.base, .int .i64 b.prod, .int .i64 b.epoch, .int .i64 b.seq, .bool b.txn, .int .i64 b.marker, .slice ad b.recs.length cap], .bool true]) ∧
  RecsAt w' ad b.recs.length cap b.recs ∧ (∀ a, ad = some a → w.heap.size ≤ a.block) ∧ Below w.heap.size w w') ∨
 (Opens p none ∧ e = .returned (.tuple #[.agg #[.int .i64 0, .int .i64 0, .int .i64 0, .int .i64 0, .bool false, .int .i64 0, .slice none 0 0], .bool false]) ∧ Below w.heap.size w w')
theorem gives_unopened {w w' : World} {p : List Nat} (h : Opens p none) (hb : Below w.heap.size w w') : GivesOpened w p (.returned (.tuple #[.agg #[.int .i64 0, .int .i64 0, .int .i64 0, .int .i64 0, .bool false, .int .i64 0, .slice none 0 0], .bool false])) w' := .inr ⟨h, rfl, hb⟩
theorem gives_opened {w w' : World} {p : List Nat} {b : Bat} {ad : Option Addr} {n cap : Nat} (h : Opens p (some b)) (hn : b.recs.length = n) (hr : RecsAt w' ad n cap b.recs) (hk : ∀ a, ad = some a → w.heap.size ≤ a.block) (hb : Below w.heap.size w w') :
 GivesOpened w p (.returned (.tuple #[.agg #[.int .i64 b.base, .int .i64 b.prod, .int .i64 b.epoch, .int .i64 b.seq, .bool b.txn, .int .i64 b.marker, .slice ad n cap], .bool true])) w' := by
 subst hn; exact .inl ⟨b, ad, cap, h, rfl, hr, hk, hb⟩
theorem opened_any (w : World) (bx ox len cap : Nat) (p : List Nat) (h : Byt w (some ⟨bx, ox, none⟩) len cap p) (h12 : 12 ≤ len) (hL : len ≤ 4096) :
 Calls Tryz.prog 101 #[.slice (some ⟨bx, ox, none⟩) len cap] w (GivesOpened w p) := by
 obtain ⟨o12, k12, hs12, hB12⟩ := from_lit h 12 12 rfl h12
 obtain ⟨q, hq⟩ : ∃ q, q = p.drop 12 := ⟨_, rfl⟩
 obtain ⟨x, hx⟩ : ∃ x, x = q.drop 4 := ⟨_, rfl⟩
 obtain ⟨bs, hbs⟩ : ∃ s, s = (backB p).1 := ⟨_, rfl⟩
 obtain ⟨bo, hbo⟩ : ∃ s, s = (backB p).2 := ⟨_, rfl⟩
 have CK : Hid (∀ W, Below w.heap.size w W → Calls Tryz.prog 128 #[.slice (some ⟨bx, o12, none⟩) (len - 12) k12] W fun e w' => (okB q = false → e = .returned (.tuple #[.slice none 0 0, .bool false]) ∧ Below W.heap.size W w') ∧
  (okB q = true → ∃ g m, 4 + m = len - 12 ∧ e = .returned (.tuple #[.slice (some ⟨g, 0, none⟩) m m, .bool true]) ∧ W.heap.size ≤ g ∧ Own w' g x ∧ Below W.heap.size W w')) := by
  intro W hW
  rw [hx, hq]
  exact check_any W _ _ _ _ (hB12.keep hW (Nat.le_refl _)) (by omega)
 have CB : Hid (∀ W, Below w.heap.size w W → Calls Tryz.prog 130 #[.slice (some ⟨bx, ox, none⟩) len cap] W fun e w' => e = .returned (.tuple #[.int .i64 bs, .bool bo]) ∧ W = w') := by
  intro W hW
  have := back_any W _ _ _ _ (h.keep hW (Nat.le_refl _)) (by omega)
  unfold GivesBack at this
  rw [← hbs, ← hbo] at this
  exact this
 have hxl : 4 + x.length = len - 12 ∨ len - 12 < 4 := by
  rw [hx, hq, List.length_drop, List.length_drop, h.length]; omega
 have hxa : AllB x := by rw [hx, hq]; exact drop_all (drop_all h.all 12) 4
 have ON1 : Hid (okB q = false → Opens p none) := by
  intro hk
  unfold Opens
  rw [← hq]
  exact ⟨fun b hb => (by cases hb), fun _ l h1 => by rw [hk] at h1; cases h1⟩
 have ON2 : Hid (¬ 20 ≤ x.length → Opens p none) := by
  intro hk
  unfold Opens
  rw [← hq, ← hx]
  exact ⟨fun b hb => (by cases hb), fun _ l _ h1 => absurd h1 hk⟩
 have ON3 : Hid ((∀ l, recsC (x.getD 19 0) (x.drop 20) ≠ some (l, [])) → Opens p none) := by
  intro hk
  unfold Opens
  rw [← hq, ← hx]
  exact ⟨fun b hb => (by cases hb), fun _ l _ _ h1 => absurd h1 (hk l)⟩
 have ON4 : Hid (∀ l, recsC (x.getD 19 0) (x.drop 20) = some (l, []) → rightE (fieldsC x bs l) ≠ 0 → Opens p none) := by
  intro l hk hne
  unfold Opens
  rw [← hq, ← hx, ← hbs]
  refine ⟨fun b hb => (by cases hb), fun _ l' _ _ h1 => ?_⟩
  rw [hk] at h1
  have e : l = l' := congrArg Prod.fst (Option.some.inj h1)
  rw [← e]
  exact hne
 have OS : Hid (∀ l, okB q = true → 20 ≤ x.length → recsC (x.getD 19 0) (x.drop 20) = some (l, []) → rightE (fieldsC x bs l) = 0 → Opens p (some (fieldsC x bs l))) := by
  intro l hk h20 hrc h0
  unfold Opens
  rw [← hq, ← hx, ← hbs]
  refine ⟨fun b hb => ?_, fun hb => (by cases hb)⟩
  obtain rfl := Option.some.inj hb
  exact ⟨hk, h20, hrc, rfl, h0⟩
 obtain ⟨W0, hW0⟩ : ∃ W0, W0 = (w.alloc (.cells #[.int .i64 0, .int .i64 0, .int .i64 0, .int .i64 0, .bool false, .int .i64 0, .slice none 0 0] 29)) := ⟨_, rfl⟩
 have HX0 := Lib.hid (show BoxAt W0 w.heap.size 0 0 0 0 false 0 (.slice none 0 0) by rw [hW0]; exact boxAt_new w _ _ _ _ _ _ _)
 have HB0 := Lib.hid (show Below w.heap.size w W0 by rw [hW0]; exact (Below.refl _ _).alloc (Nat.le_refl _) _)
 have HW0 := Lib.hid hW0
 clear h hB12 hq hx hbs hbo hW0
 go_enter Tryz.func101, Tryz.ntmps101
 go_wp2_with fail
 rw [← HW0.out]
 refine (CK.out _ HB0.out).mono ?_
 rintro e w1 ⟨hF, hT⟩
 cases hok : okB q
 · obtain ⟨rfl, hb⟩ := hF hok
   have HX1 := Lib.hid (HX0.out.on hb)
   have HB1 := Lib.hid (HB0.out.trans (hb.mono HB0.out.size))
   have HON := Lib.hid (ON1.out hok)
   clear hb hF hT hok
   have r0 := HX1.out.c0
   have q0 := HX1.out.free 0
   have r1 := HX1.out.c1
   have q1 := HX1.out.free 1
   have r2 := HX1.out.c2
   have q2 := HX1.out.free 2
   have r3 := HX1.out.c3
   have q3 := HX1.out.free 3
   have r4 := HX1.out.c4
   have q4 := HX1.out.free 4
   have r5 := HX1.out.c5
   have q5 := HX1.out.free 5
   have r6 := HX1.out.c6
   have q6 := HX1.out.free 6
   go_wp2
   exact bodyPost_ret (resultsOpened (((((((HX1.out.s0 0).s1 0).s2 0).s3 0).s4 false).s5 0).s6 (.slice none 0 0)) rfl) rfl (gives_unopened HON.out (((((((HB1.out.setCell (Nat.le_refl _) _).setCell (Nat.le_refl _) _).setCell (Nat.le_refl _) _).setCell (Nat.le_refl _) _).setCell (Nat.le_refl _) _).setCell (Nat.le_refl _) _).setCell (Nat.le_refl _) _))
 obtain ⟨g, m, hm, rfl, hg, ho, hb⟩ := hT hok
 have HX1 := Lib.hid (HX0.out.on hb)
 have HB1 := Lib.hid (HB0.out.trans (hb.mono HB0.out.size))
 have hR := HX0.out.lt
 have hml : x.length = m := by omega
 have HML := Lib.hid hml
 have HOK := Lib.hid hok
 have HOW := Lib.hid ho
 have hy1 := ho.byt hxa m (by rw [hml]; exact Nat.le_refl _)
 rw [hml] at hy1
 have HY1 := Lib.hid hy1
 clear hb hF hT hok ho hml hy1 hxl
 by_cases h20 : m < 20
 · have HON := Lib.hid (ON2.out (by rw [HML.out]; omega))
   have r0 := HX1.out.c0
   have q0 := HX1.out.free 0
   have r1 := HX1.out.c1
   have q1 := HX1.out.free 1
   have r2 := HX1.out.c2
   have q2 := HX1.out.free 2
   have r3 := HX1.out.c3
   have q3 := HX1.out.free 3
   have r4 := HX1.out.c4
   have q4 := HX1.out.free 4
   have r5 := HX1.out.c5
   have q5 := HX1.out.free 5
   have r6 := HX1.out.c6
   have q6 := HX1.out.free 6
   go_wp2
   exact bodyPost_ret (resultsOpened (((((((HX1.out.s0 0).s1 0).s2 0).s3 0).s4 false).s5 0).s6 (.slice none 0 0)) rfl) rfl (gives_unopened HON.out (((((((HB1.out.setCell (Nat.le_refl _) _).setCell (Nat.le_refl _) _).setCell (Nat.le_refl _) _).setCell (Nat.le_refl _) _).setCell (Nat.le_refl _) _).setCell (Nat.le_refl _) _).setCell (Nat.le_refl _) _))
 have h20' : 20 ≤ m := by omega
 go_wp2_with fail
 refine (fields_any w1 _ m m x HY1.out h20' (by omega)).mono ?_
 rintro e w2 hg2
 obtain ⟨fp, fe, fs, ft, fm, HFD, rfl, hb2⟩ := gives_fields_parts hg2
 clear hg2
 obtain ⟨W3, hW3⟩ : ∃ W3, W3 = (w2.alloc (.cells #[.int .i64 0, .int .i64 fp, .int .i64 fe, .int .i64 fs, .bool ft, .int .i64 fm, .slice none 0 0] 29)) := ⟨_, rfl⟩
 have hBd : Below w1.heap.size w1 W3 := by rw [hW3]; exact hb2.out.alloc hb2.out.size _
 have HV3 := Lib.hid (show BoxAt W3 w2.heap.size 0 fp fe fs ft fm (.slice none 0 0) by rw [hW3]; exact boxAt_new w2 _ _ _ _ _ _ _)
 have HX3 := Lib.hid (HX1.out.on hBd)
 have HB3 := Lib.hid (HB1.out.trans (hBd.mono HB1.out.size))
 have HO3 := Lib.hid (HOW.out.keep hBd HOW.out.lt)
 have hgB : g < w2.heap.size := Nat.lt_of_lt_of_le HOW.out.lt hb2.out.size
 have hRB : w.heap.size < w2.heap.size := by omega
 have HW3 := Lib.hid hW3
 clear hBd hb2 hW3
 have p0 := HV3.out.c0
 have f0 := HV3.out.free 0
 go_wp2_with fail
 rw [← HW3.out]
 refine (CB.out _ HB3.out).mono ?_
 rintro e w' ⟨rfl, rfl⟩
 go_upto_region 6 with fail
 obtain ⟨B, hB⟩ : ∃ B, B = w2.heap.size := ⟨_, rfl⟩
 rw [← hB] at HV3 hgB hRB p0 f0 ⊢
 obtain ⟨W4, hW4⟩ : ∃ W4, W4 = W3.setCell ⟨B, 0, none⟩ (.int .i64 bs) := ⟨_, rfl⟩
 have HV4 := Lib.hid (show BoxAt W4 B bs fp fe fs ft fm (.slice none 0 0) by rw [hW4]; exact HV3.out.s0 bs)
 have HX4 := Lib.hid (show BoxAt W4 w.heap.size 0 0 0 0 false 0 (.slice none 0 0) by rw [hW4]; exact HX3.out.off (by omega) _)
 have HB4 := Lib.hid (show Below w.heap.size w W4 by rw [hW4]; exact HB3.out.setCell (by show w.heap.size ≤ B; omega) _)
 have HO4 := Lib.hid (show Own W4 g x by rw [hW4]; exact box_off HO3.out (by omega) _)
 rw [← hW4]
 clear p0 f0 hB hW4 hs12
 have hy4 := HO4.out.byt hxa m (by rw [HML.out]; exact Nat.le_refl _)
 rw [HML.out] at hy4
 obtain ⟨o20, k20, hs20, hB20⟩ := from_lit hy4 20 20 rfl h20'
 obtain ⟨n, hn⟩ : ∃ n, n = x.getD 19 0 := ⟨_, rfl⟩
 have hn255 : n < 256 := by rw [hn]; exact getD_all hxa 19
 have hc19 := HO4.out.cell 19 (by rw [HML.out]; omega)
 rw [← hn] at hc19 ON3 ON4 OS
 have CR : Hid (∀ W, Below W4.heap.size W4 W → Calls Tryz.prog 131 #[.slice (some ⟨g, o20, none⟩) (m - 20) k20, .int .i64 (n : Int)] W (GivesRecords W n (x.drop 20))) := by
  intro W hW
  exact records_any W g o20 (m - 20) k20 n _ (hB20.keep hW (Nat.le_refl _)) (by omega) (by omega)
 have hB4l := HV4.out.lt
 have hi19 : (19 : Int) < (m : Int) := by omega
 have hwn : IntKind.i64.wrap (n : Int) = (n : Int) := by rw [IntKind.wrap_i64]; omega
 clear hn hy4 hB20
 refine wp_region_noPanic ?_
 refine wp_region_held_drew (S := (fun W => W.cell? ⟨g, 19, none⟩ = some (.int .u8 (n : Int)))) (by kernel_rfl) (by simpa using hc19) (fun hHeld => ?_)
 refine wpAnyH_take (i := 0) (oi := ⟨_, _, _, _, _, _⟩) (v := ?_) rfl (by kernel_rfl) (by kernel_rfl) (by kernel_rfl) (fun _ _ _ h => h) (Or.inl ⟨by rfl, ?_⟩) (by assumption) ?_
 rotate_left
 · intro W hSw
   (try dsimp only at hSw)
   go_simp
   (try with_reducible rfl)
 (try simp only [Act.put, List.setIfInBounds_toArray, List.set_cons_zero, List.set_cons_succ])
 refine wpAnyH_take (i := 1) (oi := ⟨_, _, _, _, _, _⟩) (v := ?_) rfl (by kernel_rfl) (by kernel_rfl) (by kernel_rfl) (fun _ _ _ h => h) (Or.inl ⟨by rfl, ?_⟩) (by assumption) ?_
 rotate_left
 · intro W hSw
   (try dsimp only at hSw)
   go_simp
   (try with_reducible rfl)
 (try simp only [Act.put, List.setIfInBounds_toArray, List.set_cons_zero, List.set_cons_succ])
 refine wpAnyH_take (i := 2) (oi := ⟨_, _, _, _, _, _⟩) (v := ?_) rfl (by kernel_rfl) (by kernel_rfl) (by kernel_rfl) (fun _ _ _ h => h) (Or.inl ⟨by rfl, ?_⟩) (by assumption) ?_
 rotate_left
 · intro W hSw
   (try dsimp only at hSw)
   go_simp
   (try with_reducible rfl)
 (try simp only [Act.put, List.setIfInBounds_toArray, List.set_cons_zero, List.set_cons_succ])
 refine wpAnyH_take (i := 3) (oi := ⟨_, _, _, _, _, _⟩) (v := ?_) rfl (by kernel_rfl) (by kernel_rfl) (by kernel_rfl) (fun _ _ _ h => h) (Or.inl ⟨by rfl, ?_⟩) (by assumption) ?_
 rotate_left
 · intro W hSw
   (try dsimp only at hSw)
   go_simp
   (try with_reducible rfl)
 (try simp only [Act.put, List.setIfInBounds_toArray, List.set_cons_zero, List.set_cons_succ])
 refine wpAnyH_take (i := 4) (oi := ⟨_, _, _, _, _, _⟩) (v := ?_) rfl (by kernel_rfl) (by kernel_rfl) (by kernel_rfl) (fun _ _ _ h => h) (Or.inl ⟨by rfl, ?_⟩) (by assumption) ?_
 rotate_left
 · intro W hSw
   (try dsimp only at hSw)
   go_simp
   (try with_reducible rfl)
 (try simp only [Act.put, List.setIfInBounds_toArray, List.set_cons_zero, List.set_cons_succ])
 refine wpAnyH_take (i := 5) (oi := ⟨_, _, _, _, _, _⟩) (v := ?_) rfl (by kernel_rfl) (by kernel_rfl) (by kernel_rfl) (fun _ _ _ h => h) (Or.inl ⟨by rfl, ?_⟩) (by assumption) ?_
 rotate_left
 · intro W hSw
   (try dsimp only at hSw)
   go_simp
   (try with_reducible rfl)
 (try simp only [Act.put, List.setIfInBounds_toArray, List.set_cons_zero, List.set_cons_succ])
 refine wpAnyH_ready (rs := [6]) (by kernel_rfl) (by simp) ?_
 refine AllReadyH.cons (o := ⟨_, _, _, _, _, _⟩) rfl (fun K hK => ?_) AllReadyH.nil
 go_simp
 refine (CR.out _ ((Below.refl _ W4).drew)).mono ?_
 rintro e w5 hg5
 obtain ⟨ad5, n5, cap5, l5, ok5, rfl, HREC, HBLK, hb5, HYOK, HNOK⟩ := gives_records_parts hg5
 clear hg5
 have hb5' : Below W4.heap.size W4 w5 := ((Below.refl _ W4).drew).trans (hb5.out.mono (Nat.le_refl _))
 have HV5 := Lib.hid (HV4.out.on hb5')
 have HX5 := Lib.hid (HX4.out.on hb5')
 have HB5 := Lib.hid (HB4.out.trans (hb5'.mono HB4.out.size))
 have hcell5 : w5.cell? ⟨g, 19, none⟩ = some (.int .u8 (n : Int)) := (hb5'.cell (p := ⟨g, 19, none⟩) (by show g < W4.heap.size; omega)).trans hc19
 have p6 := HV5.out.c6
 have f6 := HV5.out.free 6
 have hcell6 : (w5.setCell ⟨B, 6, none⟩ (.slice ad5 n5 cap5)).cell? ⟨g, 19, none⟩ = some (.int .u8 (n : Int)) := by
  rw [← hcell5]
  exact World.cell?_of_block (a := ⟨g, 19, none⟩) (by
   show (w5.heap.modify B _)[g]? = _
   rw [Array.getElem?_modify, if_neg (by omega)])
 clear hb5 hb5'
 go_wp2_with fail
 refine hK.out _ _ ?_ (fun hHeld => ?_)
 · exact hcell5
 clear hK K
 (try simp only [Act.put, List.setIfInBounds_toArray, List.set_cons_zero, List.set_cons_succ])
 refine wpAnyH_take (i := 7) (oi := ⟨_, _, _, _, _, _⟩) (v := ?_) rfl (by kernel_rfl) (by kernel_rfl) (by kernel_rfl) (fun _ _ _ h => h) (Or.inl ⟨by rfl, ?_⟩) (by assumption) ?_
 rotate_left
 · intro W hSw
   (try dsimp only at hSw)
   go_simp
   (try with_reducible rfl)
 (try simp only [Act.put, List.setIfInBounds_toArray, List.set_cons_zero, List.set_cons_succ])
 refine wpAnyH_take (i := 8) (oi := ⟨_, _, _, _, _, _⟩) (v := ?_) rfl (by kernel_rfl) (by kernel_rfl) (by kernel_rfl) (fun _ _ _ h => h) (Or.inl ⟨by rfl, ?_⟩) (by assumption) ?_
 rotate_left
 · intro W hSw
   (try dsimp only at hSw)
   go_simp
   (try with_reducible rfl)
 (try simp only [Act.put, List.setIfInBounds_toArray, List.set_cons_zero, List.set_cons_succ])
 refine wpAnyH_take (i := 9) (oi := ⟨_, _, _, _, _, _⟩) (v := ?_) rfl (by kernel_rfl) (by kernel_rfl) (by kernel_rfl) (fun _ _ _ h => h) (Or.inl ⟨by rfl, ?_⟩) (by assumption) ?_
 rotate_left
 · intro W hSw
   (try dsimp only at hSw)
   go_simp
   (try with_reducible rfl)
 (try simp only [Act.put, List.setIfInBounds_toArray, List.set_cons_zero, List.set_cons_succ])
 refine wpAnyH_take (i := 10) (oi := ⟨_, _, _, _, _, _⟩) (v := ?_) rfl (by kernel_rfl) (by kernel_rfl) (by kernel_rfl) (fun _ _ _ h => h) (Or.inl ⟨by rfl, ?_⟩) (by assumption) ?_
 rotate_left
 · intro W hSw
   (try dsimp only at hSw)
   go_simp
   (try with_reducible rfl)
 (try simp only [Act.put, List.setIfInBounds_toArray, List.set_cons_zero, List.set_cons_succ])
 refine wpAnyH_ready (rs := [11]) (by kernel_rfl) (by simp) ?_
 refine AllReadyH.cons (o := ⟨_, _, _, _, _, _⟩) rfl (fun K hK => ?_) AllReadyH.nil
 go_simp
 refine hK.out _ _ ?_ (fun hHeld => ?_)
 · exact hcell6
 clear hK K
 (try simp only [Act.put, List.setIfInBounds_toArray, List.set_cons_zero, List.set_cons_succ])
 refine wpAnyH_take (i := 12) (oi := ⟨_, _, _, _, _, _⟩) (v := ?_) rfl (by kernel_rfl) (by kernel_rfl) (by kernel_rfl) (fun _ _ _ h => h) (Or.inl ⟨by rfl, ?_⟩) (by assumption) ?_
 rotate_left
 · intro W hSw
   (try dsimp only at hSw)
   go_simp
   (try with_reducible rfl)
 (try simp only [Act.put, List.setIfInBounds_toArray, List.set_cons_zero, List.set_cons_succ])
 refine wpAnyH_done (by kernel_rfl) ?_ _
 refine NoPanic.normal ?_
 clear hcell5 hcell6 p6 f6 hc19
 have HV6 := Lib.hid (HV5.out.s6 (.slice ad5 n5 cap5))
 have HX6 := Lib.hid (HX5.out.off (j := B) (i := 6) (by omega) (.slice ad5 n5 cap5))
 have HB6 : Hid (Below w.heap.size w (w5.setCell ⟨B, 6, none⟩ (.slice ad5 n5 cap5))) := HB5.out.setCell (by show w.heap.size ≤ B; omega) _
 have HREC6 := Lib.hid (RecsAt.put (base := B) (j := 6) (u := .slice ad5 n5 cap5) HREC.out (fun a h => by have h2 : W4.heap.size ≤ a.block := HBLK.out a h; omega))
 have HBLK6 : Hid (∀ a, ad5 = some a → w.heap.size < a.block) := fun a h => by have h2 : W4.heap.size ≤ a.block := HBLK.out a h; omega
 obtain ⟨W6, hW6⟩ : ∃ W6, W6 = w5.setCell ⟨B, 6, none⟩ (.slice ad5 n5 cap5) := ⟨_, rfl⟩
 rw [← hW6] at HV6 HX6 HB6 HREC6 ⊢
 clear hW6 hs20 CR
 cases ok5
 · have HON := Lib.hid (ON3.out (HNOK.out rfl))
   have r0 := HX6.out.c0
   have q0 := HX6.out.free 0
   have r1 := HX6.out.c1
   have q1 := HX6.out.free 1
   have r2 := HX6.out.c2
   have q2 := HX6.out.free 2
   have r3 := HX6.out.c3
   have q3 := HX6.out.free 3
   have r4 := HX6.out.c4
   have q4 := HX6.out.free 4
   have r5 := HX6.out.c5
   have q5 := HX6.out.free 5
   have r6 := HX6.out.c6
   have q6 := HX6.out.free 6
   go_wp2
   exact bodyPost_ret (resultsOpened (((((((HX6.out.s0 0).s1 0).s2 0).s3 0).s4 false).s5 0).s6 (.slice none 0 0)) rfl) rfl (gives_unopened HON.out (((((((HB6.out.setCell (Nat.le_refl _) _).setCell (Nat.le_refl _) _).setCell (Nat.le_refl _) _).setCell (Nat.le_refl _) _).setCell (Nat.le_refl _) _).setCell (Nat.le_refl _) _).setCell (Nat.le_refl _) _))
 have hrc := HYOK.out rfl
 have HRC := Lib.hid hrc
 obtain ⟨i1, i2, i3⟩ := recsC_sound _ _ _ _ (drop_all hxa 20) hrc
 have hn5 := HREC6.out.length
 have CT : Hid (Calls Tryz.prog 45 #[.agg #[.int .i64 bs, .int .i64 fp, .int .i64 fe, .int .i64 fs, .bool ft, .int .i64 fm, .slice ad5 n5 cap5]] W6 (Says (rightE ⟨bs, fp, fe, fs, ft, fm, l5⟩) W6)) :=
  batRight_any W6 ⟨bs, fp, fe, fs, ft, fm, l5⟩ ad5 n5 cap5 HREC6.out (fun r hr => by have := i3 r hr; omega) (by omega)
 have HFB := HFD.out bs l5
 have HN4 : Hid (rightE ⟨bs, fp, fe, fs, ft, fm, l5⟩ ≠ 0 → Opens p none) := fun h => ON4.out l5 HRC.out (by rw [HFB]; exact h)
 have HOS : Hid (rightE ⟨bs, fp, fe, fs, ft, fm, l5⟩ = 0 → Opens p (some ⟨bs, fp, fe, fs, ft, fm, l5⟩)) := fun h => by
  have := OS.out l5 HOK.out (by rw [HML.out]; exact h20') HRC.out (by rw [HFB]; exact h)
  rw [HFB] at this
  exact this
 obtain ⟨ev, hev⟩ : ∃ ev, ev = rightE ⟨bs, fp, fe, fs, ft, fm, l5⟩ := ⟨_, rfl⟩
 rw [← hev] at CT HN4 HOS
 clear hrc i1 i2 i3 hn5 hev HFB
 have p0 := HV6.out.c0
 have p1 := HV6.out.c1
 have p2 := HV6.out.c2
 have p3 := HV6.out.c3
 have p4 := HV6.out.c4
 have p5 := HV6.out.c5
 have p6 := HV6.out.c6
 go_wp2_with fail
 refine CT.out.mono ?_
 rintro e w7 ⟨rfl, hb7⟩
 have HX7 := Lib.hid (HX6.out.on hb7)
 have HV7 := Lib.hid (HV6.out.on hb7)
 have HB7 := Lib.hid (HB6.out.trans (hb7.mono HB6.out.size))
 have HREC7 := Lib.hid (HREC6.out.keep hb7)
 clear hb7 p0 p1 p2 p3 p4 p5 p6
 by_cases h0 : ev = 0
 rotate_left
 · have h1 : (ev != 0) = true := by simpa using h0
   have HON := Lib.hid (HN4.out h0)
   clear h0
   have r0 := HX7.out.c0
   have q0 := HX7.out.free 0
   have r1 := HX7.out.c1
   have q1 := HX7.out.free 1
   have r2 := HX7.out.c2
   have q2 := HX7.out.free 2
   have r3 := HX7.out.c3
   have q3 := HX7.out.free 3
   have r4 := HX7.out.c4
   have q4 := HX7.out.free 4
   have r5 := HX7.out.c5
   have q5 := HX7.out.free 5
   have r6 := HX7.out.c6
   have q6 := HX7.out.free 6
   go_wp2
   exact bodyPost_ret (resultsOpened (((((((HX7.out.s0 0).s1 0).s2 0).s3 0).s4 false).s5 0).s6 (.slice none 0 0)) rfl) rfl (gives_unopened HON.out (((((((HB7.out.setCell (Nat.le_refl _) _).setCell (Nat.le_refl _) _).setCell (Nat.le_refl _) _).setCell (Nat.le_refl _) _).setCell (Nat.le_refl _) _).setCell (Nat.le_refl _) _).setCell (Nat.le_refl _) _))
 have h1 : (ev != 0) = false := by simpa using h0
 have HOS2 := Lib.hid (HOS.out h0)
 clear h0
 have r0 := HX7.out.c0
 have q0 := HX7.out.free 0
 have r1 := HX7.out.c1
 have q1 := HX7.out.free 1
 have r2 := HX7.out.c2
 have q2 := HX7.out.free 2
 have r3 := HX7.out.c3
 have q3 := HX7.out.free 3
 have r4 := HX7.out.c4
 have q4 := HX7.out.free 4
 have r5 := HX7.out.c5
 have q5 := HX7.out.free 5
 have r6 := HX7.out.c6
 have q6 := HX7.out.free 6
 have p0 := HV7.out.c0
 have p1 := HV7.out.c1
 have p2 := HV7.out.c2
 have p3 := HV7.out.c3
 have p4 := HV7.out.c4
 have p5 := HV7.out.c5
 have p6 := HV7.out.c6
 go_wp2
 exact bodyPost_ret (resultsOpened (((((((HX7.out.s0 bs).s1 fp).s2 fe).s3 fs).s4 ft).s5 fm).s6 (.slice ad5 n5 cap5)) rfl) rfl (gives_opened HOS2.out HREC7.out.length (((((((HREC7.out.put HBLK6.out).put HBLK6.out).put HBLK6.out).put HBLK6.out).put HBLK6.out).put HBLK6.out).put HBLK6.out) (fun a h => by have := HBLK6.out a h; omega) (((((((HB7.out.setCell (Nat.le_refl _) _).setCell (Nat.le_refl _) _).setCell (Nat.le_refl _) _).setCell (Nat.le_refl _) _).setCell (Nat.le_refl _) _).setCell (Nat.le_refl _) _).setCell (Nat.le_refl _) _))
end Go.Proofs.YtjmfdildnojknaaGreat
namespace Go.Proofs.YtjmfdildnojknaaGreat
open Go.RowKit
open Go.SeqMath
open Go.BatMath hiding AllB getD_lt take_all
open Go.VarMath (unbe)
theorem resultsCodeRead {tmps : Array Value} {B : Nat} {W : World} {b0 b1 b2 b3 : Int} {b4 : Bool} {b5 : Int} {v : Value} (h : BoxAt W B b0 b1 b2 b3 b4 b5 v) (ht : tmps.getD 2 undef = .pointer (some ⟨B, 0, none⟩)) :
 (results Tryz.f66 tmps).run Tryz.prog W = .ok (.tuple #[.agg #[.int .i64 b0, .int .i64 b1, .int .i64 b2, .int .i64 b3, .bool b4, .int .i64 b5, v], tmps.getD 3 undef, tmps.getD 4 undef]) W := by
 rw [results_cell_tmp2 (p := 2) (u := 3) (v := 4) (ty := 29) Tryz.results66, ht]
 have hl := run_loadVar_row (P := Tryz.prog) W B 29 29 _ (0, 0) _ h Tryz.underlying29 rfl (by kernel_rfl)
 simp only [asAddr, Sem.run_pure, Result.andThen, hl]
theorem batRead_any (w : World) (ad : Option Addr) (len cap : Nat) (x : List Nat) (h : Byt w ad len cap x) (hL : len ≤ 140737488355328) :
 Calls Tryz.prog 66 #[.slice ad len cap] w (GivesRead w (readD x)) := by
 have hxl := h.length
 have hxa := h.all
 obtain ⟨o, ho⟩ : ∃ o, o = readD x := ⟨_, rfl⟩
 have HRD : Hid (∀ o', BatMath.Reads x o' → o = o') := fun o' h' => by rw [ho, readD_of hxa h']
 rw [← ho]
 clear ho
 by_cases h12 : len < 12
 · have HON : Hid (o = ⟨Bat.zero, 0, 12⟩) := HRD.out _ (reads_none (by unfold fellD; rw [if_pos (by omega)]) fun b hb => by have := (good_parts hb).2.1; omega)
   have hd : decide ((len : Int) < 12) = true := by simp; omega
   clear h hxl
   go_enter Tryz.func66, Tryz.ntmps66
   go_wp2
   exact bodyPost_ret (resultsCodeRead (boxAt_new w 0 0 0 0 false 0 (.slice none 0 0)) rfl) rfl (gives_read HON.out rfl rfl (recsAt_nil _) (fun a h => by cases h) ((Below.refl _ _).alloc (Nat.le_refl _) _))
 have h12' : 12 ≤ len := by omega
 obtain ⟨bx, ox, rfl, hcell⟩ := h.get (by omega)
 obtain ⟨o8, k8, hs8, hB8⟩ := part_lit h 8 4 8 12 rfl (by omega) (by omega)
 obtain ⟨N, hN⟩ : ∃ N, N = lenD x := ⟨_, rfl⟩
 have hN32 : N < 4294967296 := by
  have h1 := VarMath.unbe_lt hB8.all
  rw [hB8.length] at h1
  rw [hN]
  exact h1
 have CJ : Hid (∀ W, Below w.heap.size w W → Calls Tryz.prog 100 #[.slice (some ⟨bx, o8, none⟩) 4 k8] W fun e w' => e = .returned (.int .u32 (N : Int)) ∧ W = w') := by
  intro W hW
  have := join_any W _ _ _ _ (hB8.keep hW (Nat.le_refl _)) (by omega) (by omega)
  rw [show unbe ((x.drop 8).take 4) = N from hN.symm] at this
  exact this
 have HNO : Hid (∀ e, e = fellD x → (∀ b, ¬ BatMath.Good x b) → o = ⟨Bat.zero, 0, e⟩) := fun e he hb => HRD.out _ (reads_none he hb)
 have HYES : Hid (∀ b, BatMath.Good x b → o = ⟨b, N + 12, 0⟩) := fun b hb => HRD.out _ (by rw [hN]; exact reads_some hb)
 have HF2 : Hid (4096 < N + 12 → fellD x = 13) := fun hh => by unfold fellD; rw [if_neg (by omega), if_pos (by omega)]
 have HF3 : Hid (N + 12 ≤ 4096 → fellD x = 12) := fun hh => by unfold fellD; rw [if_neg (by omega), if_neg (by omega)]
 have HGN : Hid (∀ b, BatMath.Good x b → N + 12 ≤ 4096 ∧ N + 12 ≤ len) := fun b hb => by
  obtain ⟨_, _, g3, g4, _⟩ := good_parts hb
  omega
 have HOP : Hid (N + 12 ≤ len → ∀ ob, Opens (x.take (N + 12)) ob → ∀ b, ob = some b ↔ BatMath.Good x b) := fun hh ob hob b => by
  rw [opens_good (take_all hxa _) (by rw [List.length_take]; omega) (by rw [lenD_take (by omega), List.length_take]; omega) hob b, hN]
  exact good_take (by omega) b
 have HX := Lib.hid h
 obtain ⟨W0, hW0⟩ : ∃ W0, W0 = (w.alloc (.cells #[.int .i64 0, .int .i64 0, .int .i64 0, .int .i64 0, .bool false, .int .i64 0, .slice none 0 0] 29)) := ⟨_, rfl⟩
 have HX0 := Lib.hid (show BoxAt W0 w.heap.size 0 0 0 0 false 0 (.slice none 0 0) by rw [hW0]; exact boxAt_new w _ _ _ _ _ _ _)
 have HB0 := Lib.hid (show Below w.heap.size w W0 by rw [hW0]; exact (Below.refl _ _).alloc (Nat.le_refl _) _)
 have HW0 := Lib.hid hW0
 have hfit := h.fits
 have hdl : decide ((len : Int) < 12) = false := by simp; omega
 clear h hxl hcell hB8 hN hW0 HRD
 go_enter Tryz.func66, Tryz.ntmps66
 go_wp2_with fail
 rw [← HW0.out]
 refine (CJ.out _ HB0.out).mono ?_
 rintro e w' ⟨rfl, rfl⟩
 clear hs8 hdl
 by_cases h4 : 4096 < N + 12
 · have HON : Hid (o = ⟨Bat.zero, 0, 13⟩) := HNO.out 13 (HF2.out h4).symm fun b hb => by have := (HGN.out b hb).1; omega
   have h4' : 4084 < N := by omega
   have r0 := HX0.out.c0
   have q0 := HX0.out.free 0
   have r1 := HX0.out.c1
   have q1 := HX0.out.free 1
   have r2 := HX0.out.c2
   have q2 := HX0.out.free 2
   have r3 := HX0.out.c3
   have q3 := HX0.out.free 3
   have r4 := HX0.out.c4
   have q4 := HX0.out.free 4
   have r5 := HX0.out.c5
   have q5 := HX0.out.free 5
   have r6 := HX0.out.c6
   have q6 := HX0.out.free 6
   go_wp2
   exact bodyPost_ret (resultsCodeRead (((((((HX0.out.s0 0).s1 0).s2 0).s3 0).s4 false).s5 0).s6 (.slice none 0 0)) rfl) rfl (gives_read HON.out rfl rfl (recsAt_nil _) (fun a h => by cases h) (((((((HB0.out.setCell (Nat.le_refl _) _).setCell (Nat.le_refl _) _).setCell (Nat.le_refl _) _).setCell (Nat.le_refl _) _).setCell (Nat.le_refl _) _).setCell (Nat.le_refl _) _).setCell (Nat.le_refl _) _))
 have h4' : N ≤ 4084 := by omega
 have hf3 := HF3.out (by omega)
 have HF := Lib.hid hf3
 clear hf3 h4
 by_cases h5 : len < N + 12
 · have HON : Hid (o = ⟨Bat.zero, 0, 12⟩) := HNO.out 12 HF.out.symm fun b hb => by have := (HGN.out b hb).2; omega
   have r0 := HX0.out.c0
   have q0 := HX0.out.free 0
   have r1 := HX0.out.c1
   have q1 := HX0.out.free 1
   have r2 := HX0.out.c2
   have q2 := HX0.out.free 2
   have r3 := HX0.out.c3
   have q3 := HX0.out.free 3
   have r4 := HX0.out.c4
   have q4 := HX0.out.free 4
   have r5 := HX0.out.c5
   have q5 := HX0.out.free 5
   have r6 := HX0.out.c6
   have q6 := HX0.out.free 6
   go_wp2
   exact bodyPost_ret (resultsCodeRead (((((((HX0.out.s0 0).s1 0).s2 0).s3 0).s4 false).s5 0).s6 (.slice none 0 0)) rfl) rfl (gives_read HON.out rfl rfl (recsAt_nil _) (fun a h => by cases h) (((((((HB0.out.setCell (Nat.le_refl _) _).setCell (Nat.le_refl _) _).setCell (Nat.le_refl _) _).setCell (Nat.le_refl _) _).setCell (Nat.le_refl _) _).setCell (Nat.le_refl _) _).setCell (Nat.le_refl _) _))
 have h5' : N + 12 ≤ len := by omega
 have hop := HOP.out h5'
 have HOP2 := Lib.hid hop
 obtain ⟨n, hn⟩ : ∃ n, n = N + 12 := ⟨_, rfl⟩
 have hsl := run_upto (some ⟨bx, ox, none⟩) len cap n (by omega)
 have hnn : (12 : Int) + (N : Int) = (n : Int) := by omega
 have HBT := Lib.hid (byt_upto HX.out n (by omega))
 rw [← hn] at HOP2 HYES
 have hn5 : n ≤ len := by omega
 have hn12 : 12 ≤ n := by omega
 have hn4 : n ≤ 4096 := by omega
 clear hop h5 h5' hn
 go_wp2_with fail
 refine (opened_any W0 bx ox n cap _ (HBT.out.keep HB0.out (Nat.le_refl _)) hn12 hn4).mono ?_
 rintro e w1 hg
 rcases hg with ⟨b, ad1, cap1, hop, rfl, hre, hbl, hb1⟩ | ⟨hop, rfl, hb1⟩
 rotate_left
 · have HON : Hid (o = ⟨Bat.zero, 0, 12⟩) := HNO.out 12 HF.out.symm fun b hb => by have := (HOP2.out _ hop b).2 hb; cases this
   have HX1 := Lib.hid (HX0.out.on (hb1.alloc hb1.size (.cells #[.int .i64 0, .int .i64 0, .int .i64 0, .int .i64 0, .bool false, .int .i64 0, .slice none 0 0] 29)))
   have HB1 := Lib.hid (HB0.out.trans ((hb1.alloc hb1.size (.cells #[.int .i64 0, .int .i64 0, .int .i64 0, .int .i64 0, .bool false, .int .i64 0, .slice none 0 0] 29)).mono HB0.out.size))
   obtain ⟨W1, hW1⟩ : ∃ W1, W1 = (w1.alloc (.cells #[.int .i64 0, .int .i64 0, .int .i64 0, .int .i64 0, .bool false, .int .i64 0, .slice none 0 0] 29)) := ⟨_, rfl⟩
   rw [← hW1] at HX1 HB1
   have HW1 := Lib.hid hW1
   clear hop hb1 hW1
   go_upto_region 10 with fail
   rw [← HW1.out]
   have r0 := HX1.out.c0
   have q0 := HX1.out.free 0
   have r1 := HX1.out.c1
   have q1 := HX1.out.free 1
   have r2 := HX1.out.c2
   have q2 := HX1.out.free 2
   have r3 := HX1.out.c3
   have q3 := HX1.out.free 3
   have r4 := HX1.out.c4
   have q4 := HX1.out.free 4
   have r5 := HX1.out.c5
   have q5 := HX1.out.free 5
   have r6 := HX1.out.c6
   have q6 := HX1.out.free 6
   go_wp2
   exact bodyPost_ret (resultsCodeRead (((((((HX1.out.s0 0).s1 0).s2 0).s3 0).s4 false).s5 0).s6 (.slice none 0 0)) rfl) rfl (gives_read HON.out rfl rfl (recsAt_nil _) (fun a h => by cases h) (((((((HB1.out.setCell (Nat.le_refl _) _).setCell (Nat.le_refl _) _).setCell (Nat.le_refl _) _).setCell (Nat.le_refl _) _).setCell (Nat.le_refl _) _).setCell (Nat.le_refl _) _).setCell (Nat.le_refl _) _))
 have HON : Hid (o = ⟨b, n, 0⟩) := HYES.out b ((HOP2.out _ hop b).1 rfl)
 have HX1 := Lib.hid (HX0.out.on (hb1.alloc hb1.size (.cells #[.int .i64 b.base, .int .i64 b.prod, .int .i64 b.epoch, .int .i64 b.seq, .bool b.txn, .int .i64 b.marker, .slice ad1 b.recs.length cap1] 29)))
 have HB1 := Lib.hid (HB0.out.trans ((hb1.alloc hb1.size (.cells #[.int .i64 b.base, .int .i64 b.prod, .int .i64 b.epoch, .int .i64 b.seq, .bool b.txn, .int .i64 b.marker, .slice ad1 b.recs.length cap1] 29)).mono HB0.out.size))
 have hR := HX0.out.lt
 have HREC := Lib.hid (hre.keep ((Below.refl _ _).alloc (Nat.le_refl _) (.cells #[.int .i64 b.base, .int .i64 b.prod, .int .i64 b.epoch, .int .i64 b.seq, .bool b.txn, .int .i64 b.marker, .slice ad1 b.recs.length cap1] 29)))
 have HBLK : Hid (∀ a, ad1 = some a → w.heap.size < a.block) := fun a h => by have := hbl a h; omega
 have HV1 := Lib.hid (boxAt_new w1 b.base b.prod b.epoch b.seq b.txn b.marker (.slice ad1 b.recs.length cap1))
 obtain ⟨W1, hW1⟩ : ∃ W1, W1 = (w1.alloc (.cells #[.int .i64 b.base, .int .i64 b.prod, .int .i64 b.epoch, .int .i64 b.seq, .bool b.txn, .int .i64 b.marker, .slice ad1 b.recs.length cap1] 29)) := ⟨_, rfl⟩
 rw [← hW1] at HX1 HB1 HREC HV1
 have HW1 := Lib.hid hW1
 obtain ⟨nl, hnl⟩ : ∃ nl, nl = b.recs.length := ⟨_, rfl⟩
 rw [← hnl] at HREC HV1 HW1 ⊢
 have HNL := Lib.hid hnl.symm
 clear hop hre hbl hb1 hW1 hnl
 go_upto_region 10 with fail
 rw [← HW1.out]
 have r0 := HX1.out.c0
 have q0 := HX1.out.free 0
 have r1 := HX1.out.c1
 have q1 := HX1.out.free 1
 have r2 := HX1.out.c2
 have q2 := HX1.out.free 2
 have r3 := HX1.out.c3
 have q3 := HX1.out.free 3
 have r4 := HX1.out.c4
 have q4 := HX1.out.free 4
 have r5 := HX1.out.c5
 have q5 := HX1.out.free 5
 have r6 := HX1.out.c6
 have q6 := HX1.out.free 6
 have p0 := HV1.out.c0
 have p1 := HV1.out.c1
 have p2 := HV1.out.c2
 have p3 := HV1.out.c3
 have p4 := HV1.out.c4
 have p5 := HV1.out.c5
 have p6 := HV1.out.c6
 go_wp2
 exact bodyPost_ret (resultsCodeRead (((((((HX1.out.s0 b.base).s1 b.prod).s2 b.epoch).s3 b.seq).s4 b.txn).s5 b.marker).s6 (.slice ad1 nl cap1)) rfl) rfl (gives_read HON.out rfl HNL.out (((((((HREC.out.put HBLK.out).put HBLK.out).put HBLK.out).put HBLK.out).put HBLK.out).put HBLK.out).put HBLK.out) (fun a h => by have := HBLK.out a h; omega) (((((((HB1.out.setCell (Nat.le_refl _) _).setCell (Nat.le_refl _) _).setCell (Nat.le_refl _) _).setCell (Nat.le_refl _) _).setCell (Nat.le_refl _) _).setCell (Nat.le_refl _) _).setCell (Nat.le_refl _) _))
end Go.Proofs.YtjmfdildnojknaaGreat
namespace Go.Proofs.YtjmfdildnojknaaGreat
open Go.RowKit
open Go.SeqMath
open Go.BatMath hiding AllB getD_lt take_all
open Go.VarMath (longB length_longB)
theorem within_in (n hi : Int) (w : World) (h0 : 0 ≤ n) (h1 : n ≤ hi) : Calls Tryz.prog 12 #[.int .i64 n, .int .i64 0, .int .i64 hi] w fun e w' => e = .returned (.int .i64 n) ∧ w = w' := by
 go_enter Tryz.func12, Tryz.ntmps12
 go_wp2
 go_ret
 exact ⟨rfl, rfl⟩
theorem as_nat {X hi : Int} {w : World} (h0 : 0 ≤ X) (h1 : X ≤ hi) : ∃ k : Nat, Ending.returned (.int .i64 X) = .returned (.int .i64 k) ∧ (k : Int) ≤ hi ∧ w = w :=
 ⟨X.toNat, by rw [Int.toNat_of_nonneg h0], by omega, rfl⟩
theorem within_any (n hi : Int) (w : World) (hn : -9223372036854775808 ≤ n ∧ n ≤ 9223372036854775807) (hh : 0 ≤ hi ∧ hi ≤ 281474976710656) :
 Calls Tryz.prog 12 #[.int .i64 n, .int .i64 0, .int .i64 hi] w fun e w' => ∃ k : Nat, e = .returned (.int .i64 k) ∧ (k : Int) ≤ hi ∧ w = w' := by
 by_cases h : 0 ≤ n ∧ n ≤ hi
 · refine (within_in n hi w h.1 h.2).mono ?_
   rintro e w' ⟨rfl, rfl⟩
   exact ⟨n.toNat, by rw [Int.toNat_of_nonneg h.1], by omega, rfl⟩
 have hg : (decide (0 ≤ n) && decide (n ≤ hi)) = false := by
  simp only [Bool.and_eq_false_iff, decide_eq_false_iff_not]; omega
 have m1 : n.tmod (hi + 1) < hi + 1 := Int.tmod_lt_of_pos _ (by omega)
 have m2 : -(hi + 1) < n.tmod (hi + 1) := by
  have := Int.tmod_lt_of_pos (-n) (b := hi + 1) (by omega)
  rw [Int.neg_tmod] at this
  omega
 have m3 : n % (hi + 1) < hi + 1 := Int.emod_lt_of_pos _ (by omega)
 have m4 : 0 ≤ n % (hi + 1) := Int.emod_nonneg _ (by omega)
 go_enter Tryz.func12, Tryz.ntmps12
 go_wp2
 all_goals
  go_ret
  exact as_nat (by omega) (by omega)
end Go.Proofs.YtjmfdildnojknaaGreat
namespace Go.Proofs.YtjmfdildnojknaaGreat
open Go.RowKit
open Go.BatMath hiding AllB getD_lt take_all
structure TapeAt (w : World) (kt : Nat) (ad : Option Addr) (len cap i : Nat) : Prop where
 blk : w.heap[kt]? = some (.cells #[.slice ad len cap, .int .i64 (i : Int)] 47 (0, 0))
 le : i ≤ len
 big : len ≤ 140737488355328
 nums : ∀ j, j < len → ∃ b off n, ad = some ⟨b, off, none⟩ ∧ b < kt ∧ w.cell? ⟨b, off + j, none⟩ = some (.int .i64 n) ∧ In64 n
section
variable {w w' w1 w2 : World} {kt len cap i : Nat} {ad : Option Addr}
theorem TapeAt.c0 (h : TapeAt w kt ad len cap i) : w.cell? ⟨kt, 0, none⟩ = some (.slice ad len cap) := by rw [cell_of_row _ _ 0 _ _ _ h.blk]; rfl
theorem TapeAt.c1 (h : TapeAt w kt ad len cap i) : w.cell? ⟨kt, 1, none⟩ = some (.int .i64 (i : Int)) := by rw [cell_of_row _ _ 1 _ _ _ h.blk]; rfl
theorem TapeAt.free (h : TapeAt w kt ad len cap i) (j : Nat) : w.frozen? ⟨kt, j, none⟩ = false := frozen_of_row w kt j _ _ h.blk
theorem TapeAt.lt (h : TapeAt w kt ad len cap i) : kt < w.heap.size := lt_of_block h.blk
theorem TapeAt.on (h : TapeAt w kt ad len cap i) (hb : Below w.heap.size w w') : TapeAt w' kt ad len cap i := by
 refine ⟨(hb.block kt h.lt).trans h.blk, h.le, h.big, fun j hj => ?_⟩
 obtain ⟨b, off, n, e, hne, hc, hn⟩ := h.nums j hj
 exact ⟨b, off, n, e, hne, (hb.cell (World.block_lt_of_cell? _ _ hc)).trans hc, hn⟩
theorem TapeAt.drewN (h : TapeAt w kt ad len cap i) (n : Nat) : TapeAt (w.drewN n) kt ad len cap i := h.on (bel_drewN (Below.refl _ _) n)
theorem TapeAt.step (h : TapeAt w kt ad len cap i) (hi : i < len) (z : Int) (hz : z = ((i + 1 : Nat) : Int)) : TapeAt (w.setCell ⟨kt, 1, none⟩ (.int .i64 z)) kt ad len cap (i + 1) := by
 subst hz
 refine ⟨box_set h.blk 1 _, hi, h.big, fun j hj => ?_⟩
 obtain ⟨b, off, n, e, hne, hc, hn⟩ := h.nums j hj
 refine ⟨b, off, n, e, hne, ?_, hn⟩
 rw [World.cell?_of_block (a := ⟨b, off + j, none⟩) (w := w)]
 · exact hc
 show (w.heap.modify kt _)[b]? = _
 rw [Array.getElem?_modify, if_neg (by omega)]
theorem TapeAt.grow {r : Option Nat} (h : TapeAt w kt ad len cap i) (hg : w.grownBy w' r) (hr : ∀ k, r = some k → kt < k) : TapeAt w' kt ad len cap i := by
 refine ⟨(hg.block kt h.lt (fun e => by have := hr kt e.symm; omega)).trans h.blk, h.le, h.big, fun j hj => ?_⟩
 obtain ⟨b, off, n, e, hne, hc, hn⟩ := h.nums j hj
 exact ⟨b, off, n, e, hne, hg.cell hc (fun e => by have := hr b e.symm; omega), hn⟩
theorem OwnRecs.tape {base : Nat} {v : Value} {l : List Rc} (h : OwnRecs w base v l) (hg : w.grownBy w' (some kt)) (hk : kt < base) : OwnRecs w' base v l := by
 refine ⟨h.1, ?_⟩
 rcases h.2 with hn | ⟨g, cap, cur, rfl, hbg, hh, r⟩
 · exact .inl hn
 exact .inr ⟨g, cap, cur, rfl, hbg, (hg.block g (lt_of_block hh) (fun e => by have := Option.some.inj e; omega)).trans hh, r⟩
theorem RecsAt.tape {cap2 : Nat} {a : Option Addr} {l : List Rc} {n : Nat} (h : RecsAt w a n cap2 l) (hg : w.grownBy w' (some kt)) (hk : ∀ x, a = some x → x.block ≠ kt) : RecsAt w' a n cap2 l := by
 refine ⟨h.length, h.fits, h.room, ?_⟩
 rcases h.cells with h0 | ⟨b, off, e, hlt, hc⟩
 · exact .inl h0
 refine .inr ⟨b, off, e, Nat.lt_of_lt_of_le hlt hg.size, fun i r hi => ?_⟩
 have hne : b ≠ kt := hk _ e
 obtain ⟨c1, c2⟩ := hc i r hi
 exact ⟨hg.cell c1 (fun e => hne (Option.some.inj e)), hg.cell c2 (fun e => hne (Option.some.inj e))⟩
theorem BoxAt.tape {k : Nat} {b0 b1 b2 b3 : Int} {b4 : Bool} {b5 : Int} {v : Value} (h : BoxAt w k b0 b1 b2 b3 b4 b5 v) (hg : w.grownBy w' (some kt)) (hk : k ≠ kt) : BoxAt w' k b0 b1 b2 b3 b4 b5 v := by
 unfold BoxAt at *
 rw [hg.block k (lt_of_block h) (fun e => hk (Option.some.inj e))]
 exact h
end
def GivesNext (w : World) (kt : Nat) (ad : Option Addr) (len cap : Nat) (n : Int) (e : Ending) (w' : World) : Prop :=
 ∃ (v : Int) (i : Nat), e = .returned (.int .i64 v) ∧ 0 ≤ v ∧ v < n ∧ TapeAt w' kt ad len cap i ∧ w.grownBy w' (some kt)
theorem gives_next {w w' : World} {kt : Nat} {ad : Option Addr} {len cap i : Nat} {n v : Int} (h0 : 0 ≤ v) (h1 : v < n) (ht : TapeAt w' kt ad len cap i) (hg : w.grownBy w' (some kt)) : GivesNext w kt ad len cap n (.returned (.int .i64 v)) w' := ⟨v, i, rfl, h0, h1, ht, hg⟩
theorem tapeNext_any (w : World) (kt : Nat) (ad : Option Addr) (len cap i : Nat) (n : Int) (h : TapeAt w kt ad len cap i) (n0 : 1 ≤ n) (n1 : n ≤ 1073741824) :
 Calls Tryz.prog 40 #[.pointer (some ⟨kt, 0, none⟩), .int .i64 n] w (GivesNext w kt ad len cap n) := by
 have H := qh h
 have hc0 := h.c0
 have hc1 := h.c1
 have hf1 := h.free 1
 have hle := h.le
 have hbig := h.big
 have hn1 : ¬ n < 1 := by omega
 have hnd : decide (n < 1) = false := by simp; omega
 by_cases hi : i < len
 rotate_left
 · obtain rfl : i = len := by omega
   have hge : decide (i ≤ i) = true := by simp
   have hge2 : decide ((i : Int) ≤ (i : Int)) = true := by simp
   clear h
   go_enter Tryz.func40, Tryz.ntmps40
   go_wp2_with fail
   go_quiet (fail)
   go_wp2
   go_ret
   exact gives_next (by omega) (by omega) (H.out.drewN _) (grow_drewN (grow_refl _ _) _)
 obtain ⟨b, off, z, rfl, hne, hcell, hz⟩ := h.nums i hi
 have hblt : b < w.heap.size := World.block_lt_of_cell? _ _ hcell
 have hge : decide (len ≤ i) = false := by simp; omega
 have hge2 : decide ((len : Int) ≤ (i : Int)) = false := by simp; omega
 have HC := qh hcell
 clear h hcell
 go_enter Tryz.func40, Tryz.ntmps40
 go_wp2_with fail
 go_quiet (fail)
 go_upto_region 3 with fail
 go_cut [] from 5 (fun wx => Hid (TapeAt wx kt (some ⟨b, off, none⟩) len cap (i + 1)) ∧ Hid (w.grownBy wx (some kt)))
 case first =>
  go_wp2
  go_meet
  case rel => exact ⟨(H.out.drewN _).step hi _ (by omega), grow_set (grow_drewN (grow_refl _ _) _) 1 _⟩
 case rest =>
  obtain ⟨HT, HG⟩ := hcut
  clear hc0 hc1 hf1
  have hc0 := HT.out.c0
  have hc1 : wc.cell? ⟨kt, 1, none⟩ = some (.int .i64 ((i : Int) + 1)) := HT.out.c1
  have hcx : wc.cell? ⟨b, off + i, none⟩ = some (.int .i64 z) := (World.cell?_of_block (a := ⟨b, off + i, none⟩) (HG.out.block b hblt (fun e => by have := Option.some.inj e; omega))).trans HC.out
  have hw1 : IntKind.i64.wrap ((i : Int) + 1 - 1) = (i : Int) := by rw [IntKind.wrap_i64]; omega
  have hw2 : IntKind.i64.wrap (i : Int) = (i : Int) := by rw [IntKind.wrap_i64]; omega
  have hi2 : (i : Int) < (len : Int) := by omega
  have hnz : (n == 0) = false := by simp; omega
  have hnz2 : ¬ n = 0 := by omega
  go_wp2_with fail
  go_region_held3 (fun W => Below wc.heap.size wc W ∧ W.cell? ⟨kt, 0, none⟩ = some (.slice (some ⟨b, off, none⟩) len cap) ∧ W.cell? ⟨kt, 1, none⟩ = some (.int .i64 ((i : Int) + 1)) ∧ W.cell? ⟨b, off + i, none⟩ = some (.int .i64 z)) (first | exact ‹Below _ _ _ ∧ _› | exact ⟨(Below.refl _ _).drew, hc0, hc1, hcx⟩) (first | (go_at_call 12; refine (within_any z 1073741824 _ hz (by omega)).mono ?_; rintro e w' ⟨k, rfl, hk, rfl⟩))
  go_wp2
  go_ret
  have hv1 : (k : Int).tmod n < n := Int.tmod_lt_of_pos _ (by omega)
  have hv0 : 0 ≤ (k : Int).tmod n := Int.tmod_nonneg _ (by omega)
  exact gives_next hv0 hv1 (HT.out.on (Below.refl _ _).drew) (grow_below HG.out (Below.refl _ _).drew)
def GivesText (w : World) (kt : Nat) (ad : Option Addr) (len cap : Nat) (e : Ending) (w' : World) : Prop :=
 ∃ (s : ByteArray) (i : Nat), e = .returned (.string s) ∧ s.size ≤ 64 ∧ TapeAt w' kt ad len cap i ∧ w.grownBy w' (some kt)
def shorts : List ByteArray := [⟨#[]⟩, ⟨#[97]⟩, ⟨#[107, 101, 121]⟩, ⟨#[228, 184, 150]⟩, ⟨#[116, 119, 111, 32, 119, 111, 114, 100, 115]⟩, ⟨#[98, 255]⟩, ⟨#[107, 50]⟩, ⟨#[61]⟩, ⟨#[97, 10, 98]⟩]
theorem shorts_size : ∀ s ∈ shorts, s.size ≤ 64 := by decide
theorem tapeText_any (w : World) (kt : Nat) (ad : Option Addr) (len cap i : Nat) (h : TapeAt w kt ad len cap i) :
 Calls Tryz.prog 86 #[.pointer (some ⟨kt, 0, none⟩)] w (GivesText w kt ad len cap) := by
 have HT := qh (h.on ((Below.refl w.heap.size w).alloc (Nat.le_refl _) (.cells (shorts.map Value.string).toArray 9)))
 have hrow : (w.alloc (.cells (shorts.map Value.string).toArray 9)).heap[w.heap.size]? = some (.cells (shorts.map Value.string).toArray 9 (0, 0)) := heap_alloc_new w _
 have HR := qh hrow
 have hne : w.heap.size ≠ kt := by have := h.lt; omega
 clear h hrow
 go_enter Tryz.func86, Tryz.ntmps86
 go_wp2_with fail
 refine (tapeNext_any _ kt ad len cap i 9 HT.out (by omega) (by omega)).mono ?_
 rintro e w1 ⟨v, i1, rfl, v0, v1, ht1, hg1⟩
 obtain ⟨k, rfl⟩ : ∃ k : Nat, v = (k : Int) := ⟨v.toNat, by omega⟩
 have hk9 : k < 9 := by omega
 obtain ⟨s, hs⟩ : ∃ s, shorts[k]? = some s := ⟨_, List.getElem?_eq_getElem hk9⟩
 have hcell : w1.cell? ⟨w.heap.size, k, none⟩ = some (.string s) := by
  have hb := (hg1.block w.heap.size (lt_of_block HR.out) (fun e => hne (Option.some.inj e))).trans HR.out
  rw [cell_of_row _ _ _ _ _ _ hb]
  simp [hs]
 have HS : Hid (s.size ≤ 64) := shorts_size s (List.mem_of_getElem? hs)
 have HG : Hid (w.grownBy w1 (some kt)) := grow_trans (grow_alloc (grow_refl _ _) _) hg1
 have HT1 := qh ht1
 clear hs hg1 ht1
 go_wp2
 go_ret
 exact ⟨s, i1, rfl, HS.out, HT1.out, HG.out⟩
theorem int_eq {a b : Int} (h : a = b) : Value.int .i64 a = .int .i64 b := by rw [h]
def GivesRecs (w : World) (kt : Nat) (ad : Option Addr) (len cap : Nat) (most : Nat) (e : Ending) (w' : World) : Prop :=
 ∃ (l : List Rc) (v : Value) (i : Nat), e = .returned v ∧ OwnRecs w' w.heap.size v l ∧ 1 ≤ l.length ∧ l.length ≤ most ∧ (∀ r ∈ l, r.key.size ≤ 64 ∧ r.val.size ≤ 64) ∧ TapeAt w' kt ad len cap i ∧ w.grownBy w' (some kt)
def RecsLoop (w : World) (kt : Nat) (ad : Option Addr) (len cap : Nat) (n : Nat) (v5 v6 : Value) (wr : World) : Prop :=
 ∃ (l : List Rc) (j i : Nat) (u : Value), u = v5 ∧ v6 = .int .i64 j ∧ l.length + j = n ∧ OwnRecs wr w.heap.size u l ∧ (∀ r ∈ l, r.key.size ≤ 64 ∧ r.val.size ≤ 64) ∧ TapeAt wr kt ad len cap i ∧ w.grownBy wr (some kt)
theorem tapeRecs_any (w : World) (kt : Nat) (ad : Option Addr) (len cap i : Nat) (most : Nat) (h : TapeAt w kt ad len cap i) (m0 : 1 ≤ most) (m1 : most ≤ 1000) :
 Calls Tryz.prog 50 #[.pointer (some ⟨kt, 0, none⟩), .int .i64 (most : Int)] w (GivesRecs w kt ad len cap most) := by
 have H := qh h
 have hkt := h.lt
 clear h
 go_enter Tryz.func50, Tryz.ntmps50
 go_wp2_with fail
 refine (tapeNext_any w kt ad len cap i (most : Int) H.out (by omega) (by omega)).mono ?_
 rintro e w1 ⟨v, i1, rfl, v0, v1, ht1, hg1⟩
 obtain ⟨k, rfl⟩ : ∃ k : Nat, v = (k : Int) := ⟨v.toNat, by omega⟩
 have hkm : k < most := by omega
 have HT1 := qh ht1
 have HG1 := qh hg1
 clear ht1 hg1 v0 v1
 go_wp2_with fail
 go_loopw [5, 6] (fun v5 v6 wr => RecsLoop w kt ad len cap (k + 1) v5 v6 wr) (fun _ v6 _ => (intOf v6).toNat)
 case atStart => exact ⟨[], k + 1, i1, _, rfl, by go_num, by simp, ownRecs_nil _ _, (fun r hr => by cases hr), HT1.out, HG1.out⟩
 obtain ⟨l, j, i2, u, rfl, rfl, hlj, hown, hsz, ht, hg⟩ := hrel
 have HLJ := qh hlj
 have HO := qh hown
 have HS := qh hsz
 have HT := qh ht
 have HG := qh hg
 have hjb : j ≤ 1001 := by omega
 clear hlj hown hsz ht hg
 by_cases hj : 0 < j
 rotate_left
 · obtain rfl : j = 0 := by omega
   go_wp2
   go_ret
   exact ⟨l, u, i2, rfl, HO.out, by have := HLJ.out; omega, by have := HLJ.out; omega, HS.out, HT.out, HG.out⟩
 go_wp2_with fail
 refine (tapeText_any wr kt ad len cap i2 HT.out).mono ?_
 rintro e w2 ⟨s1, i3, rfl, hs1, ht2, hg2⟩
 have HT2 := qh ht2
 have HG2 := qh (grow_trans HG.out hg2)
 have HO2 := qh (HO.out.tape hg2 hkt)
 clear ht2 hg2
 go_wp2_with fail
 refine (tapeText_any w2 kt ad len cap i3 HT2.out).mono ?_
 rintro e w3 ⟨s2, i4, rfl, hs2, ht3, hg3⟩
 have HT3 := qh ht3
 have HG3 := qh (grow_trans HG2.out hg3)
 have HO3 := qh (HO2.out.tape hg3 hkt)
 clear ht3 hg3
 have HGA : Hid (w.grownBy (w3.alloc (.cells #[.string s1, .string s2] 84)) (some kt)) := grow_alloc HG3.out _
 go_wp2_with (at_builtin; refine list_recs (by rfl) (.tmp 15) (.tmp 21) rfl w.heap.size l [⟨s1, s2⟩] _ rfl (HO3.out.on (bal _ _)) HGA.out.size ⟨w3.heap.size, 0, none⟩ 1 1 rfl rfl (recNews_lit w3 s1 s2 _ rfl) (by have := HLJ.out; omega) ?_)
 intro v' w4 ho4 hg4
 have hrow : ∀ k, u.ownBlock = some k → w.heap.size ≤ k := fun k hk => (HO3.out.lt k hk).1
 have HT4 := qh ((HT3.out.on (bal _ (.cells #[.string s1, .string s2] 84))).grow hg4 (fun k hk => by have := hrow k hk; omega))
 have HG4 := qh (grow_own HGA.out hg4 hrow)
 have HO4 := qh ho4
 have HLJ4 : Hid ((l ++ [(⟨s1, s2⟩ : Rc)]).length + (j - 1) = k + 1) := by show _ = _; rw [List.length_append]; have := HLJ.out; simp; omega
 have HS4 : Hid (∀ r ∈ l ++ [(⟨s1, s2⟩ : Rc)], r.key.size ≤ 64 ∧ r.val.size ≤ 64) := by
  intro r hr
  rcases List.mem_append.1 hr with hr | hr
  · exact HS.out r hr
  rw [List.mem_singleton.1 hr]; exact ⟨hs1, hs2⟩
 clear ho4 hg4 hrow
 go_wp2
 go_roundw
 case rel => exact ⟨_, j - 1, i4, _, rfl, int_eq (by omega), HLJ4.out, HO4.out, HS4.out, HT4.out, HG4.out⟩
 simp [intOf]; omega
end Go.Proofs.YtjmfdildnojknaaGreat
