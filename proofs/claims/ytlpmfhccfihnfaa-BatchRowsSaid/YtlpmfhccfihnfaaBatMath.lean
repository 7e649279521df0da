/- Plain mathematics of chapter 6: a batch, which errors it has, the bytes of one that is right, what bytes begin with one, and what reading them gives. No condition on any program. -/
import Derived.Test.YtlpmfhccfihnfaaVarMath
import Derived.Test.YtlpmfhccfihnfaaCrcMath
import Derived.Test.YtlpmfhccfihnfaaSeqMath
namespace Go.BatMath
open Go.SeqMath
open Go.VarMath (textB cutB encU longB beB unbe low64 sg64 backB)
open Go.CrcMath (sealB okB)

abbrev AllB (bs : List Nat) : Prop := ∀ x ∈ bs, x < 256
def bl (s : ByteArray) : List Nat := s.data.toList.map UInt8.toNat
def sb (l : List Nat) : ByteArray := ⟨(l.map UInt8.ofNat).toArray⟩
theorem sb_bl (s : ByteArray) : sb (bl s) = s := by
  unfold sb bl
  rw [List.map_map]
  have : (UInt8.ofNat ∘ UInt8.toNat) = id := by funext x; simp
  rw [this, List.map_id]
theorem bl_sb {l : List Nat} (h : AllB l) : bl (sb l) = l := by
  unfold sb bl
  simp only [List.map_map]
  have : l.map (UInt8.toNat ∘ UInt8.ofNat) = l.map id := List.map_congr_left fun x hx => by
    have := h x hx
    simp only [Function.comp, id, UInt8.toNat_ofNat']
    omega
  rw [this, List.map_id]
theorem bl_len (s : ByteArray) : (bl s).length = s.size := by simp [bl]
theorem bl_all (s : ByteArray) : AllB (bl s) := by
  intro x hx
  obtain ⟨c, _, rfl⟩ := List.mem_map.1 hx
  exact c.toNat_lt
theorem bl_inj {s t : ByteArray} (h : bl s = bl t) : s = t := by rw [← sb_bl s, h, sb_bl]

/-- A record, and a batch. -/
structure Rc where
  key : ByteArray
  val : ByteArray
theorem rc_ext {a b : Rc} (h : a.key = b.key) (h2 : a.val = b.val) : a = b := by cases a; cases b; simp only at h h2; rw [h, h2]
structure Bat where
  base : Int
  prod : Int
  epoch : Int
  seq : Int
  txn : Bool
  marker : Int
  recs : List Rc
def Bat.zero : Bat := ⟨0, 0, 0, 0, false, 0, []⟩
def Bat.at (b : Bat) (n : Int) : Bat := { b with base := n }
theorem Bat.ext_of {a b : Bat} (h0 : a.base = b.base) (h1 : a.prod = b.prod) (h2 : a.epoch = b.epoch) (h3 : a.seq = b.seq) (h4 : a.txn = b.txn) (h5 : a.marker = b.marker) (h6 : a.recs = b.recs) : a = b := by
  cases a; cases b; simp only at h0 h1 h2 h3 h4 h5 h6; subst h0 h1 h2 h3 h4 h5 h6; rfl
abbrev In64 (n : Int) : Prop := -9223372036854775808 ≤ n ∧ n ≤ 9223372036854775807
/-- Its numbers are such. -/
structure Bat.wf (b : Bat) : Prop where
  base : In64 b.base
  prod : In64 b.prod
  epoch : In64 b.epoch
  seq : In64 b.seq
  marker : In64 b.marker
theorem zero_wf : Bat.zero.wf := ⟨by decide, by decide, by decide, by decide, by decide⟩

/-! which errors it has -/
def headB (b : Bat) : Bool := decide (0 ≤ b.prod) && (decide (0 ≤ b.epoch) && decide (b.epoch ≤ 32767))
def noneB (b : Bat) : Bool := decide (b.prod = -1) && (decide (b.epoch = -1) && (decide (b.seq = -1) && !b.txn))
def longRec (r : Rc) : Prop := 64 < r.key.size ∨ 64 < r.val.size
noncomputable def rightE (b : Bat) : Int :=
  if b.base < 0 ∨ 1099511627776 < b.base then 18
  else if b.marker ≠ 0 then
    if (b.marker = 1 ∨ b.marker = 2) ∧ headB b = true ∧ b.seq = -1 ∧ b.txn = true ∧ b.recs = [] then 0 else 12
  else if (noneB b = true ∨ headB b = true ∧ rightB b.seq = true) ∧ b.recs ≠ [] then
    open Classical in if 16 < b.recs.length ∨ ∃ r ∈ b.recs, longRec r then 13 else 0
  else 12
theorem head_of {b : Bat} (h : headB b = true) : 0 ≤ b.prod ∧ 0 ≤ b.epoch ∧ b.epoch ≤ 32767 := by unfold headB at h; simpa using h
theorem none_of {b : Bat} (h : noneB b = true) : b.prod = -1 ∧ b.epoch = -1 ∧ b.seq = -1 ∧ b.txn = false := by unfold noneB at h; simpa using h
/-- What a batch that is right is. -/
structure Ok (b : Bat) : Prop where
  base0 : 0 ≤ b.base
  base1 : b.base ≤ 1099511627776
  prod : -1 ≤ b.prod
  epoch0 : -1 ≤ b.epoch
  epoch1 : b.epoch ≤ 32767
  seq0 : -1 ≤ b.seq
  seq1 : b.seq ≤ 2147483647
  marker0 : 0 ≤ b.marker
  marker1 : b.marker ≤ 2
  recs : b.recs.length ≤ 16
  texts : ∀ r ∈ b.recs, r.key.size ≤ 64 ∧ r.val.size ≤ 64
theorem ok_of {b : Bat} (h : rightE b = 0) : Ok b := by
  unfold rightE at h
  split at h
  · omega
  rename_i hb
  split at h
  · split at h
    · rename_i hm hh
      obtain ⟨h1, h2, h3, h4, h5⟩ := hh
      obtain ⟨p0, p1, p2⟩ := head_of h2
      exact ⟨by omega, by omega, by omega, by omega, by omega, by omega, by omega, by omega, by omega, by rw [h5]; simp, by rw [h5]; intro r hr; cases hr⟩
    · omega
  rename_i hm
  split at h
  · rename_i hh
    split at h
    · omega
    rename_i hl
    have hl1 : b.recs.length ≤ 16 := by
      by_cases h16 : 16 < b.recs.length
      · exact absurd (.inl h16) hl
      · omega
    have hl2 : ∀ r ∈ b.recs, r.key.size ≤ 64 ∧ r.val.size ≤ 64 := by
      intro r hr
      refine ⟨?_, ?_⟩
      · by_cases h64 : 64 < r.key.size
        · exact absurd (.inr ⟨r, hr, .inl h64⟩) hl
        · omega
      · by_cases h64 : 64 < r.val.size
        · exact absurd (.inr ⟨r, hr, .inr h64⟩) hl
        · omega
    rcases hh.1 with h1 | ⟨h1, h2⟩
    · obtain ⟨q1, q2, q3, q4⟩ := none_of h1
      exact ⟨by omega, by omega, by omega, by omega, by omega, by omega, by omega, by omega, by omega, hl1, hl2⟩
    · obtain ⟨p0, p1, p2⟩ := head_of h1
      obtain ⟨s0, s1⟩ := of_right h2
      exact ⟨by omega, by omega, by omega, by omega, by omega, by omega, by omega, by omega, by omega, hl1, hl2⟩
  · omega

/-! bytes -/
def flagN (b : Bat) : Nat := (2 * b.marker + (if b.txn = true then 1 else 0)).toNat % 256
def epochN (b : Bat) : Nat := (b.epoch % 65536).toNat
def recB (r : Rc) : List Nat := textB (bl r.key) ++ textB (bl r.val)
def recsB (l : List Rc) : List Nat := l.flatMap recB
def frontB (b : Bat) : List Nat := flagN b :: (longB b.prod ++ (epochN b / 256 :: epochN b % 256 :: (longB b.seq ++ [b.recs.length % 256])))
def bodyB (b : Bat) : List Nat := frontB b ++ recsB b.recs
def bytesB (b : Bat) : List Nat := longB b.base ++ (beB 4 (sealB (bodyB b)).length ++ sealB (bodyB b))
theorem recsB_nil : recsB [] = [] := rfl
theorem recsB_cons (r : Rc) (l : List Rc) : recsB (r :: l) = recB r ++ recsB l := rfl
theorem recsB_snoc (l : List Rc) (r : Rc) : recsB (l ++ [r]) = recsB l ++ recB r := by simp [recsB]
theorem front_len (b : Bat) : (frontB b).length = 20 := by simp [frontB, VarMath.length_longB]
theorem text_len {s : List Nat} (hl : s.length < 9223372036854775808) : s.length + 1 ≤ (textB s).length ∧ (textB s).length ≤ s.length + 10 := by
  have := VarMath.enc_len (u := 2 * s.length) (by omega)
  unfold textB
  rw [List.length_append]
  omega
theorem rec_len {r : Rc} (h : r.key.size ≤ 64 ∧ r.val.size ≤ 64) : 2 ≤ (recB r).length ∧ (recB r).length ≤ 148 := by
  have h1 := text_len (s := bl r.key) (by rw [bl_len]; omega)
  have h2 := text_len (s := bl r.val) (by rw [bl_len]; omega)
  rw [bl_len] at h1 h2
  unfold recB
  rw [List.length_append]
  omega
theorem recs_len : ∀ {l : List Rc}, (∀ r ∈ l, r.key.size ≤ 64 ∧ r.val.size ≤ 64) → 2 * l.length ≤ (recsB l).length ∧ (recsB l).length ≤ 148 * l.length
  | [], _ => by simp [recsB]
  | r :: l, h => by
    have h1 := rec_len (h r (by simp))
    have h2 := recs_len (l := l) fun x hx => h x (by simp [hx])
    rw [recsB_cons, List.length_append, List.length_cons]
    omega
theorem body_len (b : Bat) : (bodyB b).length = 20 + (recsB b.recs).length := by unfold bodyB; rw [List.length_append, front_len]
theorem bytes_len (b : Bat) : (bytesB b).length = 36 + (recsB b.recs).length := by
  unfold bytesB
  rw [List.length_append, List.length_append, VarMath.length_longB, VarMath.length_beB, CrcMath.length_sealB, body_len]
  omega
theorem ok_len {b : Bat} (h : Ok b) : (bytesB b).length ≤ 2404 ∧ 36 ≤ (bytesB b).length := by
  have h1 := (recs_len h.texts).2
  have h2 := h.recs
  rw [bytes_len]
  omega
theorem text_all {s : List Nat} (h : AllB s) (hl : s.length < 9223372036854775808) : AllB (textB s) := by
  unfold textB
  intro x hx
  rcases List.mem_append.1 hx with h1 | h1
  · exact VarMath.enc_all (by omega) x h1
  · exact h x h1
theorem all_app {a b : List Nat} (ha : AllB a) (hb : AllB b) : AllB (a ++ b) := by
  intro x hx
  rcases List.mem_append.1 hx with h | h
  · exact ha x h
  · exact hb x h
theorem all_cons {a : Nat} {b : List Nat} (ha : a < 256) (hb : AllB b) : AllB (a :: b) := by
  intro x hx
  rcases List.mem_cons.1 hx with h | h
  · rw [h]; exact ha
  · exact hb x h
theorem all_nil : AllB [] := fun x h => by cases h
theorem rec_all {r : Rc} (h : r.key.size < 9223372036854775808 ∧ r.val.size < 9223372036854775808) : AllB (recB r) :=
  all_app (text_all (bl_all _) (by rw [bl_len]; exact h.1)) (text_all (bl_all _) (by rw [bl_len]; exact h.2))
theorem recs_all : ∀ {l : List Rc}, (∀ r ∈ l, r.key.size < 9223372036854775808 ∧ r.val.size < 9223372036854775808) → AllB (recsB l)
  | [], _ => all_nil
  | r :: l, h => by
    rw [recsB_cons]
    exact all_app (rec_all (h r (by simp))) (recs_all fun x hx => h x (by simp [hx]))
theorem flag_lt (b : Bat) : flagN b < 256 := Nat.mod_lt _ (by omega)
theorem epoch_lt (b : Bat) : epochN b < 65536 := by unfold epochN; omega
theorem front_all (b : Bat) : AllB (frontB b) := by
  have h1 := epoch_lt b
  exact all_cons (flag_lt b) (all_app (VarMath.longB_all _) (all_cons (by omega) (all_cons (by omega) (all_app (VarMath.longB_all _) (all_cons (by omega) all_nil)))))
theorem body_all {b : Bat} (h : Ok b) : AllB (bodyB b) := all_app (front_all b) (recs_all fun r hr => by have := h.texts r hr; omega)
theorem bytes_all {b : Bat} (h : Ok b) : AllB (bytesB b) := all_app (VarMath.longB_all _) (all_app (VarMath.beB_all 4 _) (CrcMath.sealB_all (body_all h)))

/-! reading -/
theorem cut_text_any {s : List Nat} (h : s.length < 9223372036854775808) (r : List Nat) (most : Int) (hm : (s.length : Int) ≤ most) : cutB (textB s ++ r) most = (s, (textB s).length) := by
  have h1 := VarMath.enc_len (u := 2 * s.length) (by omega)
  have hlen : (textB s ++ r).length = (encU (2 * s.length)).length + s.length + r.length := by simp [textB]; try omega
  have hg := VarMath.getB_text h r
  rw [VarMath.cutB_yes (by rw [hg, hlen]; simp only; omega), hg]
  simp only [Int.toNat_natCast]
  congr 1
  · unfold textB
    rw [List.append_assoc, List.drop_append_of_le_length (Nat.le_refl _), List.drop_length, List.nil_append, List.take_append_of_le_length (Nat.le_refl _), List.take_length]
  · simp [textB]
def recsD : Nat → List Nat → Nat → Option (List Rc × Nat)
  | 0, _, i => some ([], i)
  | n + 1, x, i =>
    if (cutB (x.drop i) (x.length : Int)).2 = 0 ∨ (cutB (x.drop (i + (cutB (x.drop i) (x.length : Int)).2)) (x.length : Int)).2 = 0 then none
    else (recsD n x (i + (cutB (x.drop i) (x.length : Int)).2 + (cutB (x.drop (i + (cutB (x.drop i) (x.length : Int)).2)) (x.length : Int)).2)).map fun p =>
      (⟨sb (cutB (x.drop i) (x.length : Int)).1, sb (cutB (x.drop (i + (cutB (x.drop i) (x.length : Int)).2)) (x.length : Int)).1⟩ :: p.1, p.2)
theorem recsD_step {n i k m : Nat} {x a c : List Nat} (h1 : cutB (x.drop i) (x.length : Int) = (a, k)) (h2 : cutB (x.drop (i + k)) (x.length : Int) = (c, m)) (hk : k ≠ 0) (hm : m ≠ 0) :
    recsD (n + 1) x i = (recsD n x (i + k + m)).map fun p => (⟨sb a, sb c⟩ :: p.1, p.2) := by
  show (if (cutB (x.drop i) (x.length : Int)).2 = 0 ∨ _ then _ else _) = _
  rw [h1]
  simp only
  rw [h2]
  simp only
  rw [if_neg (by omega)]
theorem recsD_fell {n i k m : Nat} {x a c : List Nat} (h1 : cutB (x.drop i) (x.length : Int) = (a, k)) (h2 : cutB (x.drop (i + k)) (x.length : Int) = (c, m)) (h : k = 0 ∨ m = 0) :
    recsD (n + 1) x i = none := by
  show (if (cutB (x.drop i) (x.length : Int)).2 = 0 ∨ _ then _ else _) = _
  rw [h1]
  simp only
  rw [h2]
  simp only
  rw [if_pos h]
theorem recsD_enc : ∀ (l : List Rc) (p r : List Nat), (∀ c ∈ l, c.key.size ≤ 64 ∧ c.val.size ≤ 64) → recsD l.length (p ++ (recsB l ++ r)) p.length = some (l, p.length + (recsB l).length)
  | [], p, r, _ => by simp [recsD, recsB]
  | c :: l, p, r, h => by
    obtain ⟨hc1, hc2⟩ := h c (by simp)
    have e1 : (p ++ (recsB (c :: l) ++ r)).drop p.length = textB (bl c.key) ++ (textB (bl c.val) ++ (recsB l ++ r)) := by
      rw [List.drop_append_of_le_length (Nat.le_refl _), List.drop_length, List.nil_append, recsB_cons, recB]
      simp only [List.append_assoc]
    have e2 : (p ++ (recsB (c :: l) ++ r)).drop (p.length + (textB (bl c.key)).length) = textB (bl c.val) ++ (recsB l ++ r) := by
      rw [← List.drop_drop, e1, List.drop_append_of_le_length (Nat.le_refl _), List.drop_length, List.nil_append]
    have l1 := text_len (s := bl c.key) (by rw [bl_len]; omega)
    have l2 := text_len (s := bl c.val) (by rw [bl_len]; omega)
    have hx : (p ++ (recsB (c :: l) ++ r)).length = p.length + ((textB (bl c.key)).length + (textB (bl c.val)).length + (recsB l).length + r.length) := by
      rw [recsB_cons, recB]
      simp only [List.length_append]
    have c1 := cut_text_any (s := bl c.key) (by rw [bl_len]; omega) (textB (bl c.val) ++ (recsB l ++ r)) ((p ++ (recsB (c :: l) ++ r)).length : Int) (by rw [hx]; omega)
    have c2 := cut_text_any (s := bl c.val) (by rw [bl_len]; omega) (recsB l ++ r) ((p ++ (recsB (c :: l) ++ r)).length : Int) (by rw [hx]; omega)
    rw [← e1] at c1
    rw [← e2] at c2
    rw [List.length_cons, recsD_step c1 c2 (by omega) (by omega)]
    have ih := recsD_enc l (p ++ recB c) r (fun x hx => h x (by simp [hx]))
    have e3 : p ++ recB c ++ (recsB l ++ r) = p ++ (recsB (c :: l) ++ r) := by rw [recsB_cons]; simp only [List.append_assoc]
    have e4 : (p ++ recB c).length = p.length + (textB (bl c.key)).length + (textB (bl c.val)).length := by rw [recB]; simp only [List.length_append]; omega
    rw [e3, e4] at ih
    rw [ih, sb_bl, sb_bl]
    simp only [Option.map_some, recsB_cons, recB, List.length_append]
    congr 2
    omega
def epD (n : Nat) : Int := if n = 65535 then -1 else (n : Int)
/-- A batch of its parts, if the records could be read; does it end with the row? -/
def innerOf (r : Option (List Rc × Nat)) (p e s : Int) (t : Bool) (m : Int) (len : Nat) : Bat × Bool :=
  match r with
  | none => (Bat.zero, false)
  | some q => (⟨0, p, e, s, t, m, q.1⟩, decide (q.2 = len))
def innerD (x : List Nat) : Bat × Bool :=
  if x.length < 20 then (Bat.zero, false)
  else innerOf (recsD (x.getD 19 0) x 20) (backB (x.drop 1)).1 (epD (x.getD 9 0 * 256 + x.getD 10 0)) (backB (x.drop 11)).1 (decide (x.getD 0 0 % 2 = 1)) ((x.getD 0 0 / 2 : Nat) : Int) x.length
theorem getD_drop (x : List Nat) (k : Nat) : x.getD k 0 = (x.drop k).getD 0 0 := by
  rw [List.getD_eq_getElem?_getD, List.getD_eq_getElem?_getD, List.getElem?_drop, Nat.add_zero]
theorem drop_cons_app (a : Nat) (l r : List Nat) (k : Nat) (h : l.length = k) : (a :: (l ++ r)).drop (k + 1) = r := by
  rw [List.drop_succ_cons, ← h, List.drop_append_of_le_length (Nat.le_refl _), List.drop_length, List.nil_append]
theorem inner_body {b : Bat} (h : Ok b) (hw : b.wf) : innerD (bodyB b) = (b.at 0, true) := by
  have hl := body_len b
  have hx : bodyB b = flagN b :: (longB b.prod ++ (epochN b / 256 :: epochN b % 256 :: (longB b.seq ++ (b.recs.length % 256 :: recsB b.recs)))) := by simp [bodyB, frontB]
  have d1 : (bodyB b).drop 1 = longB b.prod ++ (epochN b / 256 :: epochN b % 256 :: (longB b.seq ++ (b.recs.length % 256 :: recsB b.recs))) := by rw [hx]; rfl
  have d9 : (bodyB b).drop 9 = epochN b / 256 :: epochN b % 256 :: (longB b.seq ++ (b.recs.length % 256 :: recsB b.recs)) := by rw [hx]; exact drop_cons_app _ _ _ 8 (VarMath.length_longB _)
  have d10 : (bodyB b).drop 10 = epochN b % 256 :: (longB b.seq ++ (b.recs.length % 256 :: recsB b.recs)) := by rw [show (10 : Nat) = 9 + 1 from rfl, ← List.drop_drop, d9]; rfl
  have d11 : (bodyB b).drop 11 = longB b.seq ++ (b.recs.length % 256 :: recsB b.recs) := by rw [show (11 : Nat) = 10 + 1 from rfl, ← List.drop_drop, d10]; rfl
  have d19 : (bodyB b).drop 19 = b.recs.length % 256 :: recsB b.recs := by rw [show (19 : Nat) = 10 + 9 from rfl, ← List.drop_drop, d10]; exact drop_cons_app _ _ _ 8 (VarMath.length_longB _)
  have g0 : (bodyB b).getD 0 0 = flagN b := by rw [hx]; rfl
  have g9 : (bodyB b).getD 9 0 = epochN b / 256 := by rw [getD_drop, d9]; rfl
  have g10 : (bodyB b).getD 10 0 = epochN b % 256 := by rw [getD_drop, d10]; rfl
  have hr := h.recs
  have g19 : (bodyB b).getD 19 0 = b.recs.length := by rw [getD_drop, d19]; show b.recs.length % 256 = _; omega
  have hb : recsD b.recs.length (bodyB b) 20 = some (b.recs, (bodyB b).length) := by
    have := recsD_enc b.recs (frontB b) [] h.texts
    rw [front_len, List.append_nil] at this
    rw [body_len]
    exact this
  obtain ⟨h1, h2, h3, h4, h5, h6, h7, h8, h9, _, _⟩ := h
  obtain ⟨w1, w2, w3, w4, w5⟩ := hw
  unfold innerD
  rw [if_neg (by omega), g19, hb]
  unfold innerOf
  simp only
  rw [d1, d11, g0, g9, g10, VarMath.backB_long w2.1 w2.2, VarMath.backB_long w4.1 w4.2]
  have hf : flagN b = (2 * b.marker + (if b.txn = true then 1 else 0)).toNat := by
    unfold flagN
    split <;> omega
  rw [Prod.mk.injEq]
  refine ⟨Bat.ext_of rfl rfl ?_ rfl ?_ ?_ rfl, by simp⟩
  · show epD (epochN b / 256 * 256 + epochN b % 256) = b.epoch
    unfold epD epochN
    split <;> omega
  · show decide (flagN b % 2 = 1) = b.txn
    rw [hf]
    cases b.txn
    · rw [if_neg (by decide)]; exact decide_eq_false (by omega)
    · rw [if_pos rfl]; exact decide_eq_true (by omega)
  · show ((flagN b / 2 : Nat) : Int) = b.marker
    rw [hf]
    split <;> omega
/-- p begins with what Bytes gives of b. -/
structure Good (p : List Nat) (b : Bat) : Prop where
  right : rightE b = 0
  wf : b.wf
  pre : bytesB b <+: p
/-- What a reader gives: a batch, how many bytes it takes, an error. -/
structure Out where
  b : Bat
  n : Nat
  e : Int
def lenD (p : List Nat) : Nat := unbe ((p.drop 8).take 4)
def fellD (p : List Nat) : Int := if p.length < 12 then 12 else if 4096 < lenD p + 12 then 13 else 12
/-- What is asked of a reader. -/
structure Reads (p : List Nat) (o : Out) : Prop where
  fine : o.e = 0 → Good p o.b ∧ o.n = (bytesB o.b).length
  fell : o.e ≠ 0 → o.b = Bat.zero ∧ o.n = 0 ∧ o.e = fellD p
  all : ∀ b, Good p b → o.e = 0 ∧ o.b = b
theorem fell_pos (p : List Nat) : fellD p ≠ 0 := by unfold fellD; split <;> (try split) <;> decide
theorem out_ext {a b : Out} (h0 : a.b = b.b) (h1 : a.n = b.n) (h2 : a.e = b.e) : a = b := by cases a; cases b; simp only at h0 h1 h2; rw [h0, h1, h2]
theorem reads_one {p : List Nat} {o o' : Out} (h : Reads p o) (h' : Reads p o') : o = o' := by
  by_cases h0 : o.e = 0
  · obtain ⟨g, hn⟩ := h.fine h0
    obtain ⟨h1, h2⟩ := h'.all _ g
    obtain ⟨_, hn'⟩ := h'.fine h1
    exact out_ext h2.symm (by rw [hn, hn', h2]) (by rw [h0, h1])
  · by_cases h1 : o'.e = 0
    · obtain ⟨g, _⟩ := h'.fine h1
      exact absurd (h.all _ g).1 h0
    · obtain ⟨a1, a2, a3⟩ := h.fell h0
      obtain ⟨b1, b2, b3⟩ := h'.fell h1
      exact out_ext (by rw [a1, b1]) (by rw [a2, b2]) (by rw [a3, b3])
/-- What stands in the bytes of a batch. -/
theorem good_parts {p : List Nat} {b : Bat} (h : Good p b) :
    (bytesB b).length = lenD p + 12 ∧ 12 ≤ p.length ∧ lenD p + 12 ≤ 4096 ∧ lenD p + 12 ≤ p.length ∧ (p.drop 12).take (lenD p) = sealB (bodyB b) ∧ p.take (12 + lenD p) = bytesB b ∧ (backB p) = (b.base, true) := by
  obtain ⟨r, rfl⟩ := h.pre
  have ho := ok_of h.right
  have hl := ok_len ho
  have hb := bytes_len b
  have hs := CrcMath.length_sealB (bodyB b)
  have hbl := body_len b
  have e8 : (bytesB b ++ r).drop 8 = beB 4 (sealB (bodyB b)).length ++ (sealB (bodyB b) ++ r) := by
    unfold bytesB
    rw [List.append_assoc, List.drop_append, VarMath.length_longB, List.drop_of_length_le (by rw [VarMath.length_longB]; exact Nat.le_refl _)]
    simp
  have e12 : (bytesB b ++ r).drop 12 = sealB (bodyB b) ++ r := by
    rw [show (12 : Nat) = 8 + 4 from rfl, ← List.drop_drop, e8, List.drop_append, VarMath.length_beB, List.drop_of_length_le (by rw [VarMath.length_beB]; exact Nat.le_refl _)]
    simp
  have hn : lenD (bytesB b ++ r) = (sealB (bodyB b)).length := by
    unfold lenD
    rw [e8, List.take_append_of_le_length (by rw [VarMath.length_beB]; exact Nat.le_refl _), List.take_of_length_le (by rw [VarMath.length_beB]; exact Nat.le_refl _)]
    unfold unbe
    rw [VarMath.unbe_fold]
    omega
  have hlen : (bytesB b).length = lenD (bytesB b ++ r) + 12 := by omega
  refine ⟨hlen, by rw [List.length_append]; omega, by omega, by rw [List.length_append]; omega, ?_, ?_, ?_⟩
  · rw [e12, hn, List.take_append_of_le_length (Nat.le_refl _), List.take_length]
  · rw [Nat.add_comm, ← hlen, List.take_append_of_le_length (Nat.le_refl _), List.take_length]
  · unfold bytesB
    rw [List.append_assoc]
    exact VarMath.backB_long h.wf.base.1 h.wf.base.2 _
theorem good_open {p : List Nat} {b : Bat} (h : Good p b) : okB ((p.drop 12).take (lenD p)) = true ∧ ((p.drop 12).take (lenD p)).drop 4 = bodyB b ∧ innerD (bodyB b) = (b.at 0, true) := by
  obtain ⟨_, _, _, _, h5, _, _⟩ := good_parts h
  have ho := ok_of h.right
  rw [h5]
  exact ⟨CrcMath.okB_seal (body_all ho), CrcMath.drop_sealB _, inner_body ho h.wf⟩
/-- Of one row of bytes there is at most one batch at its front. -/
theorem good_one {p : List Nat} {a b : Bat} (ha : Good p a) (hb : Good p b) : a = b := by
  obtain ⟨_, h2, h3⟩ := good_open ha
  obtain ⟨_, h5, h6⟩ := good_open hb
  obtain ⟨_, _, _, _, _, _, h7⟩ := good_parts ha
  obtain ⟨_, _, _, _, _, _, h8⟩ := good_parts hb
  rw [← h2, h5, h6] at h3
  have e : a.at 0 = b.at 0 := (Prod.mk.inj h3).1.symm
  rw [h7] at h8
  have e2 : a.base = b.base := (Prod.mk.inj h8).1
  have f : ∀ x : Bat, (x.at 0).at x.base = x := fun x => rfl
  rw [← f a, ← f b, e, e2]
/-- What is read of bytes that Bytes gave, with more behind them. -/
theorem good_of {b : Bat} (h : rightE b = 0) (hw : b.wf) (r : List Nat) : Good (bytesB b ++ r) b := ⟨h, hw, List.prefix_append _ _⟩
/-- Two batches that are right have the same bytes only if they are one. -/
theorem bytes_inj {a b : Bat} (ha : rightE a = 0) (wa : a.wf) (hb : rightE b = 0) (wb : b.wf) (e : bytesB a = bytesB b) : a = b := by
  have h1 := good_of ha wa []
  have h2 := good_of hb wb []
  rw [e] at h1
  exact good_one h1 h2
theorem bytes_at (b : Bat) (n : Int) : bytesB (b.at n) = longB n ++ (bytesB b).drop 8 := by
  have : (bytesB b).drop 8 = beB 4 (sealB (bodyB b)).length ++ sealB (bodyB b) := by
    unfold bytesB
    rw [List.drop_append, VarMath.length_longB, List.drop_of_length_le (by rw [VarMath.length_longB]; exact Nat.le_refl _)]
    simp
  rw [this]
  rfl
theorem right_at {b : Bat} (h : rightE b = 0) {n : Int} (h0 : 0 ≤ n) (h1 : n ≤ 1099511627776) : rightE (b.at n) = 0 := by
  have hb := ok_of h
  have e : ∀ {c : Bat}, ¬ (c.base < 0 ∨ 1099511627776 < c.base) → rightE c = rightE { c with base := 0 } := by
    intro c hc
    unfold rightE
    rw [if_neg hc]
    exact (if_neg (by show ¬ ((0 : Int) < 0 ∨ (1099511627776 : Int) < 0); decide)).symm
  have := hb.base0
  have := hb.base1
  rw [e (by show ¬ (n < 0 ∨ 1099511627776 < n); omega)]
  rw [e (by omega)] at h
  exact h
def countB (b : Bat) : Int := if b.marker ≠ 0 then 1 else (b.recs.length : Int)
noncomputable def sizeB (b : Bat) : Int := if rightE b = 0 then ((bytesB b).length : Int) else 0
/-- What the document's own reader gives. -/
noncomputable def readD (p : List Nat) : Out :=
  if p.length < 12 then ⟨Bat.zero, 0, 12⟩
  else if 4096 < lenD p + 12 then ⟨Bat.zero, 0, 13⟩
  else if p.length < lenD p + 12 then ⟨Bat.zero, 0, 12⟩
  else if okB ((p.drop 12).take (lenD p)) = false then ⟨Bat.zero, 0, 12⟩
  else open Classical in
    if (innerD (((p.drop 12).take (lenD p)).drop 4)).2 = true ∧ rightE ((innerD (((p.drop 12).take (lenD p)).drop 4)).1.at (backB p).1) = 0 ∧ bytesB ((innerD (((p.drop 12).take (lenD p)).drop 4)).1.at (backB p).1) = p.take (12 + lenD p)
    then ⟨(innerD (((p.drop 12).take (lenD p)).drop 4)).1.at (backB p).1, lenD p + 12, 0⟩ else ⟨Bat.zero, 0, 12⟩
theorem sg64_in {u : Nat} (h : u < 18446744073709551616) : In64 (sg64 u) := by unfold sg64 In64; split <;> omega
theorem back_in {p : List Nat} (h : AllB p) : In64 (backB p).1 := by
  unfold backB
  split
  · exact ⟨by decide, by decide⟩
  · have := VarMath.unbe_lt (bs := p.take 8) fun x hx => h x (List.mem_of_mem_take hx)
    rename_i h8
    rw [List.length_take, Nat.min_eq_left (by omega), VarMath.pow8] at this
    exact sg64_in this
theorem getD_lt {p : List Nat} (h : AllB p) (k : Nat) : p.getD k 0 < 256 := by
  rw [List.getD_eq_getElem?_getD]
  rcases hk : p[k]? with _ | x
  · decide
  · exact h x (List.mem_of_getElem? hk)
theorem drop_all {p : List Nat} (h : AllB p) (k : Nat) : AllB (p.drop k) := fun x hx => h x (List.mem_of_mem_drop hx)
theorem take_all {p : List Nat} (h : AllB p) (k : Nat) : AllB (p.take k) := fun x hx => h x (List.mem_of_mem_take hx)
theorem inner_wf {x : List Nat} (h : AllB x) : (innerD x).1.wf := by
  unfold innerD
  split
  · exact zero_wf
  · unfold innerOf
    split
    · exact zero_wf
    · have h9 := getD_lt h 9
      have h10 := getD_lt h 10
      have h0 := getD_lt h 0
      refine ⟨by show In64 0; decide, back_in (drop_all h 1), ?_, back_in (drop_all h 11), ?_⟩
      · show In64 (epD (x.getD 9 0 * 256 + x.getD 10 0))
        unfold epD In64
        split <;> omega
      · show In64 ((x.getD 0 0 / 2 : Nat) : Int)
        unfold In64
        omega
theorem at_wf {b : Bat} (h : b.wf) {n : Int} (hn : In64 n) : (b.at n).wf := ⟨hn, h.prod, h.epoch, h.seq, h.marker⟩
/-- The document's own reader gives what is asked of one. -/
theorem reads_readD {p : List Nat} (hp : AllB p) : Reads p (readD p) := by
  have bad : ∀ (o : Out), o = ⟨Bat.zero, 0, fellD p⟩ → (∀ b, ¬ Good p b) → Reads p o := by
    rintro o rfl h
    exact ⟨fun h0 => absurd h0 (fell_pos p), fun _ => ⟨rfl, rfl, rfl⟩, fun b hb => absurd hb (h b)⟩
  unfold readD
  by_cases h1 : p.length < 12
  · rw [if_pos h1]
    refine bad _ (by unfold fellD; rw [if_pos h1]) fun b hb => ?_
    have := (good_parts hb).2.1
    omega
  rw [if_neg h1]
  by_cases h2 : 4096 < lenD p + 12
  · rw [if_pos h2]
    refine bad _ (by unfold fellD; rw [if_neg h1, if_pos h2]) fun b hb => ?_
    have := (good_parts hb).2.2.1
    omega
  rw [if_neg h2]
  have hf : fellD p = 12 := by unfold fellD; rw [if_neg h1, if_neg h2]
  by_cases h3 : p.length < lenD p + 12
  · rw [if_pos h3]
    refine bad _ (by rw [hf]) fun b hb => ?_
    have := (good_parts hb).2.2.2.1
    omega
  rw [if_neg h3]
  by_cases h4 : okB ((p.drop 12).take (lenD p)) = false
  · rw [if_pos h4]
    refine bad _ (by rw [hf]) fun b hb => ?_
    have := (good_open hb).1
    rw [this] at h4
    cases h4
  rw [if_neg h4]
  split
  · rename_i h5
    obtain ⟨h6, h7, h8⟩ := h5
    have hall : AllB (((p.drop 12).take (lenD p)).drop 4) := drop_all (take_all (drop_all hp 12) _) 4
    have hg : Good p ((innerD (((p.drop 12).take (lenD p)).drop 4)).1.at (backB p).1) := ⟨h7, at_wf (inner_wf hall) (back_in hp), by rw [h8]; exact List.take_prefix _ _⟩
    refine ⟨fun _ => ⟨hg, (good_parts hg).1.symm⟩, fun h => absurd rfl h, fun b hb => ⟨rfl, good_one hg hb⟩⟩
  · rename_i h5
    refine bad _ (by rw [hf]) fun b hb => h5 ?_
    obtain ⟨_, g2, g3⟩ := good_open hb
    obtain ⟨_, _, _, _, _, g6, g7⟩ := good_parts hb
    rw [g2, g3, g7]
    exact ⟨rfl, hb.right, g6.symm⟩
theorem readD_of {p : List Nat} (hp : AllB p) {o : Out} (h : Reads p o) : o = readD p := reads_one h (reads_readD hp)
theorem readD_good {p : List Nat} (hp : AllB p) {b : Bat} (h : Good p b) : readD p = ⟨b, (bytesB b).length, 0⟩ := by
  have hr := reads_readD hp
  obtain ⟨h1, h2⟩ := hr.all b h
  exact out_ext h2 (by rw [(hr.fine h1).2, h2]) h1
theorem right_few (b : Bat) : rightE b = 0 ∨ rightE b = 12 ∨ rightE b = 13 ∨ rightE b = 18 := by
  unfold rightE
  repeat' split
  all_goals simp
/-- What inner reads has short texts. -/
theorem recsD_short : ∀ (n : Nat) (x : List Nat) (i : Nat) (l : List Rc) (e : Nat), recsD n x i = some (l, e) → l.length = n ∧ ∀ r ∈ l, r.key.size ≤ x.length ∧ r.val.size ≤ x.length
  | 0, x, i, l, e, h => by
    cases h
    exact ⟨rfl, fun r hr => by cases hr⟩
  | n + 1, x, i, l, e, h => by
    have sz : ∀ j, (sb (cutB (x.drop j) (x.length : Int)).1).size ≤ x.length := by
      intro j
      have h1 : (sb (cutB (x.drop j) (x.length : Int)).1).size = (cutB (x.drop j) (x.length : Int)).1.length := by simp [sb, ByteArray.size]
      rw [h1]
      by_cases hc : (VarMath.getB (x.drop j)).2 = 0 ∨ (VarMath.getB (x.drop j)).1 < 0 ∨ (x.length : Int) < (VarMath.getB (x.drop j)).1 ∨ ((x.drop j).length : Int) - ((VarMath.getB (x.drop j)).2 : Int) < (VarMath.getB (x.drop j)).1
      · rw [VarMath.cutB_no hc]; simp
      · rw [VarMath.cutB_yes hc]
        simp only [List.length_take]
        omega
    rcases h1 : cutB (x.drop i) (x.length : Int) with ⟨a, k⟩
    rcases h2 : cutB (x.drop (i + k)) (x.length : Int) with ⟨c, m⟩
    have s1 := sz i
    have s2 := sz (i + k)
    rw [h1] at s1
    rw [h2] at s2
    by_cases hz : k = 0 ∨ m = 0
    · rw [recsD_fell h1 h2 hz] at h
      cases h
    · rw [recsD_step h1 h2 (by omega) (by omega)] at h
      obtain ⟨q, hq, he⟩ := Option.map_eq_some_iff.1 h
      obtain ⟨l', e'⟩ := q
      obtain ⟨i1, i2⟩ := recsD_short n x _ l' e' hq
      simp only [Prod.mk.injEq] at he
      obtain ⟨rfl, rfl⟩ := he
      refine ⟨by rw [List.length_cons, i1], fun r hr => ?_⟩
      rcases List.mem_cons.1 hr with rfl | hr
      · exact ⟨s1, s2⟩
      · exact i2 r hr
theorem inner_short {x : List Nat} {b : Bat} {ok : Bool} (hx : ∀ c ∈ x, c < 256) (h : innerD x = (b, ok)) : b.recs.length ≤ 255 ∧ ∀ r ∈ b.recs, r.key.size ≤ x.length ∧ r.val.size ≤ x.length := by
  have hn := getD_lt hx 19
  unfold innerD at h
  split at h
  · cases h
    exact ⟨by simp [Bat.zero], fun r hr => by cases hr⟩
  · unfold innerOf at h
    split at h
    · cases h
      exact ⟨by simp [Bat.zero], fun r hr => by cases hr⟩
    · rename_i q hq
      cases h
      obtain ⟨h1, h2⟩ := recsD_short _ _ _ _ _ hq
      refine ⟨?_, h2⟩
      show q.1.length ≤ 255
      omega
end Go.BatMath
