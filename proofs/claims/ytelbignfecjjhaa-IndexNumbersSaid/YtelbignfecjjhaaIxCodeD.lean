/- The code's Cut. -/
import Derived.Test.YtelbignfecjjhaaIxCodeM
import Derived.Test.YtelbignfecjjhaaRegionZ
namespace Go.Proofs.Ytelbignfecjjhaa
open Go.RowKit
open Go.IxMath
open Go.VarMath hiding AllB
set_option linter.unusedVariables false

/-- Numbers that rise. -/
def Asc {α : Type} (f : α → Int) (l : List α) : Prop := ∀ (i j : Nat) (a b : α), i < j → l[i]? = some a → l[j]? = some b → f a < f b
theorem asc_take {α : Type} {f : α → Int} {l : List α} (h : Asc f l) {p : Int} {i : Nat} (hi : i ≤ l.length) (h0 : i = 0 ∨ ∃ x, l[i - 1]? = some x ∧ f x < p) (h1 : ∀ (j : Nat) (e : α), i ≤ j → l[j]? = some e → p ≤ f e) :
    l.filter (fun e => decide (f e < p)) = l.take i ∧ l.takeWhile (fun e => decide (f e < p)) = l.take i := by
  have hlow : ∀ e ∈ l.take i, decide (f e < p) = true := by
    intro e he
    obtain ⟨j, hj⟩ := List.mem_iff_getElem?.1 he
    rw [List.getElem?_take] at hj
    split at hj
    · rename_i hji
      rcases h0 with h2 | ⟨x, hx, hxp⟩
      · omega
      · refine decide_eq_true ?_
        by_cases e1 : j = i - 1
        · subst e1
          rw [hx] at hj
          cases hj
          exact hxp
        · have := h j (i - 1) e x (by omega) hj hx
          omega
    · cases hj
  have hhigh : ∀ e ∈ l.drop i, decide (f e < p) = false := by
    intro e he
    obtain ⟨j, hj⟩ := List.mem_iff_getElem?.1 he
    rw [List.getElem?_drop] at hj
    have := h1 (i + j) e (by omega) hj
    exact decide_eq_false (by omega)
  constructor
  · conv => lhs; rw [← List.take_append_drop i l]
    rw [List.filter_append, List.filter_eq_self.2 hlow, List.filter_eq_nil_iff.2 (fun e he => by rw [hhigh e he]; decide), List.append_nil]
  · conv => lhs; rw [← List.take_append_drop i l]
    rw [List.takeWhile_append_of_pos hlow]
    cases hd : l.drop i with
    | nil => rw [List.takeWhile_nil, List.append_nil]
    | cons e r =>
      have := hhigh e (by rw [hd]; exact List.mem_cons_self)
      rw [List.takeWhile_cons_of_neg (by rw [this]; decide), List.append_nil]
theorem asc_of {α : Type} {f : α → Int} {l : List α} (h : ∀ (i : Nat) (a b : α), l[i]? = some a → l[i + 1]? = some b → f a < f b) : Asc f l := by
  have key : ∀ (d i : Nat) (a b : α), l[i]? = some a → l[i + d + 1]? = some b → f a < f b := by
    intro d
    induction d with
    | zero => intro i a b ha hb; exact h i a b ha hb
    | succ d ih =>
      intro i a b ha hb
      have hlt := (List.getElem?_eq_some_iff.1 hb).1
      have hc : l[i + d + 1]? = some (l[i + d + 1]'(by omega)) := List.getElem?_eq_getElem (by omega)
      have h1 := ih i a _ ha hc
      have h2 := h (i + d + 1) _ b hc hb
      omega
  intro i j a b hij ha hb
  exact key (j - i - 1) i a b ha (by rw [show i + (j - i - 1) + 1 = j by omega]; exact hb)
theorem asc_es {every base : Int} {bs : List Ba} (he : 1 ≤ every) (h : MadeI base bs) : Asc (·.pos) (ents every bs) := asc_of fun i a b ha hb => by
  have := (rise_ents (every := every) h i a b ha hb).2
  show a.pos < b.pos
  omega
theorem asc_bs {base : Int} {bs : List Ba} (h : MadeI base bs) : Asc (·.pos) bs := by
  induction h with
  | nil => intro i j a b hij ha; cases ha
  | @snoc bs off pos size h hb ih =>
    intro i j a b hij ha hb'
    rcases Nat.lt_trichotomy j bs.length with h1 | h1 | h1
    · rw [List.getElem?_append_left (by omega)] at ha hb'
      exact ih i j a b hij ha hb'
    · rw [List.getElem?_append_left (by omega)] at ha
      rw [List.getElem?_append_right (by omega), h1, Nat.sub_self] at hb'
      cases hb'
      have h2 := made_all h a (List.mem_of_getElem? ha)
      have h3 := good_of hb
      show a.pos < pos
      omega
    · rw [List.getElem?_eq_none (by rw [List.length_append]; simp; omega)] at hb'
      cases hb'
/-- What has been passed over from behind. -/
def Passed {α : Type} (f : α → Int) (l : List α) (p : Int) (i : Nat) : Prop := ∀ (j : Nat) (e : α), i ≤ j → l[j]? = some e → p ≤ f e
theorem Passed.down {α : Type} {f : α → Int} {l : List α} {p : Int} {i : Nat} {x : α} (h : Passed f l p i) (hx : l[i - 1]? = some x) (hp : p ≤ f x) : Passed f l p (i - 1) := fun j e hj he => by
  by_cases e1 : j = i - 1
  · subst e1
    rw [hx] at he
    cases he
    exact hp
  · exact h j e (by omega) he
theorem passed_all {α : Type} {f : α → Int} {l : List α} {p : Int} {n : Nat} (hn : n = l.length) : Passed f l p n := fun j e hj he => by
  have := (List.getElem?_eq_some_iff.1 he).1
  omega
set_option maxRecDepth 100000 in
set_option maxHeartbeats 8000000 in
theorem ixCut_any {w : World} {k : Nat} {F : Nat → Prop} {base every : Int} {bs : List Ba} (h : IxOk w k F base every bs) (hs : Small bs) (p : Int) (hp : I64 p) : Calls Try.prog 13 #[.pointer (some ⟨k, 0, none⟩), .int .i64 p] w fun e w' => e = .returned (.tuple #[]) ∧ ∃ F', Hid (IxOk w' k F' base every (cutA bs p)) ∧ Hid (Kept w w' F) ∧ Hid (∀ j, F' j → F j ∨ w.heap.size ≤ j) := by
  obtain ⟨h0, hm, ve, vb, hat, hf⟩ := h
  have hne : (ents every bs).length ≤ 1000 := by have := ents_len every bs; have := hs.1; omega
  have hnb : bs.length ≤ 1000 := hs.1
  have HY := Lib.hid (Way.start hat hf)
  have HX := Lib.hid hat.box
  have HM := Lib.hid hm
  have H0 := Lib.hid h0
  have HAE : Hid (Asc (·.pos) (ents every bs)) := asc_es h0.2.2.1 hm
  have HAB : Hid (Asc (·.pos) bs) := asc_bs hm
  have HCE : Hid (cutE (ents every bs) p = ents every (cutA bs p)) := (ents_cut hm p).symm
  obtain ⟨es, hes⟩ : ∃ l, l = ents every bs := ⟨_, rfl⟩
  rw [← hes] at hat hne HY HAE HCE
  obtain ⟨ad, cap, hv, hr⟩ := hat.eat
  obtain ⟨ad2, cap2, hv2, hr2⟩ := hat.bat
  obtain ⟨n, hn⟩ : ∃ n, n = es.length := ⟨_, rfl⟩
  obtain ⟨m, hm2⟩ : ∃ n, n = bs.length := ⟨_, rfl⟩
  have HN := Lib.hid hn
  have HN2 := Lib.hid hm2
  rw [← hn] at hv hr hne
  rw [← hm2] at hv2 hr2 hnb
  subst hv hv2
  have HR := Lib.hid hr
  have HR2 := Lib.hid hr2
  have hrm := hr.fits
  have hrm2 := hr2.fits
  have q2 := HX.out.c2
  clear hat hf hes hn hm2 hm h0 hr hr2 hs
  have HPE : Hid (Passed (·.pos) es p n) := passed_all HN.out
  go_enter Try.func13, Try.ntmps13
  go_wp2_with fail
  go_loopw [4] (fun v4 wr => wr = w ∧ ∃ i : Nat, v4 = .int .i64 (i : Int) ∧ i ≤ n ∧ Hid (Passed (·.pos) es p i)) (fun v4 _ => (intOf v4).toNat)
  case atStart => exact ⟨rfl, n, rfl, Nat.le_refl _, HPE.out⟩
  case round =>
    obtain ⟨rfl, i, rfl, hin, HP⟩ := hrel
    clear HPE
    rcases Nat.eq_zero_or_pos i with hi0 | hi0
    · subst hi0
      have HT : Hid (es.take 0 = cutE es p) := (asc_take HAE.out (Nat.zero_le _) (.inl rfl) HP.out).1.symm
      obtain ⟨ad3, cap3, hv3, hc3, ho3, hob3⟩ := OwnRow.cut enK_ok HY.out.at_.ens 0 (by rw [← HN.out]; omega)
      rw [← HN.out] at hv3
      cases hv3
      have hup : ∀ V, (Instr.slice 34 (.slice ad n cap) none (some (.int .i64 0)) none).run Try.prog V = .ok (.slice ad 0 cap) V := row_upto enK_ok ad n cap 0 hc3
      have HWY := Lib.hid (HY.out.put_e ho3 (grow_refl wr _) (fun q hq => .inl (by rw [← hob3]; exact hq)))
      have f2 := HX.out.free 2
      clear hob3 ho3 hc3
      go_upto_region 4 with fail
      obtain ⟨w1, hw1⟩ : ∃ z, z = wr.setCell ⟨k, 2, none⟩ (.slice ad 0 cap) := ⟨_, rfl⟩
      rw [← hw1] at HWY
      rw [← hw1]
      clear hw1 hup f2 q2 
      have q3 := HWY.out.at_.box.c3
      have HPB : Hid (Passed (·.pos) bs p m) := passed_all HN2.out
      go_wp2_with fail
      go_loopw [4] (fun v4 wr => wr = w1 ∧ ∃ j : Nat, v4 = .int .i64 (j : Int) ∧ j ≤ m ∧ Hid (Passed (·.pos) bs p j)) (fun v4 _ => (intOf v4).toNat)
      case atStart => exact ⟨rfl, m, rfl, Nat.le_refl _, HPB.out⟩
      case round =>
        obtain ⟨rfl, j, rfl, hjn, HPJ⟩ := hrel
        clear HPB
        rcases Nat.eq_zero_or_pos j with hj0 | hj0
        · subst hj0
          have HTB : Hid (bs.take 0 = cutA bs p) := (asc_take HAB.out (Nat.zero_le _) (.inl rfl) HPJ.out).2.symm
          obtain ⟨ad4, cap4, hv4, hc4, ho4, hob4⟩ := OwnRow.cut baK_ok HWY.out.at_.bas 0 (by rw [← HN2.out]; omega)
          rw [← HN2.out] at hv4
          cases hv4
          have hup : ∀ V, (Instr.slice 52 (.slice ad2 m cap2) none (some (.int .i64 0)) none).run Try.prog V = .ok (.slice ad2 0 cap2) V := row_upto baK_ok ad2 m cap2 0 hc4
          have HWZ := Lib.hid (HWY.out.put_b ho4 (grow_refl wr _) (fun q hq => .inl (by rw [← hob4]; exact hq)))
          have f3 := HWY.out.at_.box.free 3
          have HDN : Hid (es.take 0 = ents every (bs.take 0)) := by show _ = _; rw [HT.out, HTB.out]; exact HCE.out
          have HMD : Hid (MadeI base (bs.take 0)) := by show MadeI _ _; rw [HTB.out]; exact made_cut HM.out p
          clear hob4 ho4 hc4
          go_wp2_with fail
          go_end0
          exact ⟨rfl, by rw [← HTB.out]; exact HWZ.out.done HDN.out H0.out HMD.out⟩
        · have hd0 : decide ((0 : Int) < (j : Int)) = true := decide_eq_true (by omega)
          have hn2 : (1 : Int) ≤ (j : Int) := by omega
          have hn5 : (j : Int) - 1 < (m : Int) := by omega
          have hn3 : ((j : Int) - 1).toNat = j - 1 := by omega
          have hn4 : IntKind.i64.wrap ((j : Int) - 1) = (j : Int) - 1 := by rw [IntKind.wrap_i64]; omega
          have HRX : Hid (RowAt baK wr ad2 m cap2 bs) := by
            obtain ⟨ad5, cap5, hv5, hr5⟩ := HWY.out.at_.bat
            rw [← HN2.out] at hv5 hr5
            cases hv5
            exact hr5
          obtain ⟨b, o, y, el, hb, hy, _, c1, _⟩ := ba_get HRX.out (show j - 1 < m by omega)
          have HEL2 := Lib.hid el
          subst el
          have HYY := Lib.hid hy
          obtain ⟨yp, hyp⟩ : ∃ z, z = y.pos := ⟨_, rfl⟩
          rw [← hyp] at c1
          have HYP := Lib.hid hyp
          clear hy hyp
          by_cases hge : p ≤ yp
          · have hdg : decide (p ≤ yp) = true := decide_eq_true hge
            have HPD : Hid (Passed (·.pos) bs p (j - 1)) := HPJ.out.down HYY.out (by show p ≤ y.pos; rw [← HYP.out]; exact hge)
            go_wp2_with fail
            go_roundw
            case rel => exact ⟨trivial, j - 1, by go_num, by omega, HPD.out⟩
            case measure => simp [intOf]; omega
          · have hdg : decide (p ≤ yp) = false := decide_eq_false hge
            have HTB : Hid (bs.take j = cutA bs p) := (asc_take HAB.out (by rw [← HN2.out]; exact hjn) (.inr ⟨y, HYY.out, by show y.pos < p; rw [← HYP.out]; omega⟩) HPJ.out).2.symm
            obtain ⟨ad4, cap4, hv4, hc4, ho4, hob4⟩ := OwnRow.cut baK_ok HWY.out.at_.bas j (by rw [← HN2.out]; omega)
            rw [← HN2.out] at hv4
            cases hv4
            have hup : ∀ V, (Instr.slice 52 (.slice (some ⟨b, o, none⟩) m cap2) none (some (.int .i64 (j : Int))) none).run Try.prog V = .ok (.slice (some ⟨b, o, none⟩) j cap2) V := row_upto baK_ok (some ⟨b, o, none⟩) m cap2 j hc4
            have HWZ := Lib.hid (HWY.out.put_b ho4 (grow_refl wr _) (fun q hq => .inl (by rw [← hob4]; exact hq)))
            have f3 := HWY.out.at_.box.free 3
            have HDN : Hid (es.take 0 = ents every (bs.take j)) := by show _ = _; rw [HT.out, HTB.out]; exact HCE.out
            have HMD : Hid (MadeI base (bs.take j)) := by show MadeI _ _; rw [HTB.out]; exact made_cut HM.out p
            clear hob4 ho4 hc4
            go_wp2_with fail
            go_end0
            exact ⟨rfl, by rw [← HTB.out]; exact HWZ.out.done HDN.out H0.out HMD.out⟩
    · have hd0 : decide ((0 : Int) < (i : Int)) = true := decide_eq_true (by omega)
      have hn2 : (1 : Int) ≤ (i : Int) := by omega
      have hn5 : (i : Int) - 1 < (n : Int) := by omega
      have hn3 : ((i : Int) - 1).toNat = i - 1 := by omega
      have hn4 : IntKind.i64.wrap ((i : Int) - 1) = (i : Int) - 1 := by rw [IntKind.wrap_i64]; omega
      obtain ⟨be, oe, x, el, hb, hx, c0, c1⟩ := en_get HR.out (show i - 1 < n by omega)
      have HEL := Lib.hid el
      subst el
      have HXX := Lib.hid hx
      obtain ⟨xp, hxp⟩ : ∃ z, z = x.pos := ⟨_, rfl⟩
      rw [← hxp] at c1
      have HXP := Lib.hid hxp
      clear hx hxp c0
      by_cases hge : p ≤ xp
      · have hdg : decide (p ≤ xp) = true := decide_eq_true hge
        have HPD : Hid (Passed (·.pos) es p (i - 1)) := HP.out.down HXX.out (by show p ≤ x.pos; rw [← HXP.out]; exact hge)
        go_wp2_with fail
        go_roundw
        case rel => exact ⟨trivial, i - 1, by go_num, by omega, HPD.out⟩
        case measure => simp [intOf]; omega
      · have hdg : decide (p ≤ xp) = false := decide_eq_false hge
        have HT : Hid (es.take i = cutE es p) := (asc_take HAE.out (by rw [← HN.out]; exact hin) (.inr ⟨x, HXX.out, by show x.pos < p; rw [← HXP.out]; omega⟩) HP.out).1.symm
        obtain ⟨ad3, cap3, hv3, hc3, ho3, hob3⟩ := OwnRow.cut enK_ok HY.out.at_.ens i (by rw [← HN.out]; omega)
        rw [← HN.out] at hv3
        cases hv3
        have hup : ∀ V, (Instr.slice 34 (.slice (some ⟨be, oe, none⟩) n cap) none (some (.int .i64 (i : Int))) none).run Try.prog V = .ok (.slice (some ⟨be, oe, none⟩) i cap) V := row_upto enK_ok (some ⟨be, oe, none⟩) n cap i hc3
        have HWY := Lib.hid (HY.out.put_e ho3 (grow_refl wr _) (fun q hq => .inl (by rw [← hob3]; exact hq)))
        have f2 := HX.out.free 2
        clear hob3 ho3 hc3
        go_upto_region 4 with fail
        obtain ⟨w1, hw1⟩ : ∃ z, z = wr.setCell ⟨k, 2, none⟩ (.slice (some ⟨be, oe, none⟩) i cap) := ⟨_, rfl⟩
        rw [← hw1] at HWY
        rw [← hw1]
        clear hw1 hup f2 q2 c1 hn2 hn3 hn4 hn5 hd0 hdg HEL hb
        have q3 := HWY.out.at_.box.c3
        have HPB : Hid (Passed (·.pos) bs p m) := passed_all HN2.out
        go_wp2_with fail
        go_loopw [4] (fun v4 wr => wr = w1 ∧ ∃ j : Nat, v4 = .int .i64 (j : Int) ∧ j ≤ m ∧ Hid (Passed (·.pos) bs p j)) (fun v4 _ => (intOf v4).toNat)
        case atStart => exact ⟨rfl, m, rfl, Nat.le_refl _, HPB.out⟩
        case round =>
          obtain ⟨rfl, j, rfl, hjn, HPJ⟩ := hrel
          clear HPB
          rcases Nat.eq_zero_or_pos j with hj0 | hj0
          · subst hj0
            have HTB : Hid (bs.take 0 = cutA bs p) := (asc_take HAB.out (Nat.zero_le _) (.inl rfl) HPJ.out).2.symm
            obtain ⟨ad4, cap4, hv4, hc4, ho4, hob4⟩ := OwnRow.cut baK_ok HWY.out.at_.bas 0 (by rw [← HN2.out]; omega)
            rw [← HN2.out] at hv4
            cases hv4
            have hup : ∀ V, (Instr.slice 52 (.slice ad2 m cap2) none (some (.int .i64 0)) none).run Try.prog V = .ok (.slice ad2 0 cap2) V := row_upto baK_ok ad2 m cap2 0 hc4
            have HWZ := Lib.hid (HWY.out.put_b ho4 (grow_refl wr _) (fun q hq => .inl (by rw [← hob4]; exact hq)))
            have f3 := HWY.out.at_.box.free 3
            have HDN : Hid (es.take i = ents every (bs.take 0)) := by show _ = _; rw [HT.out, HTB.out]; exact HCE.out
            have HMD : Hid (MadeI base (bs.take 0)) := by show MadeI _ _; rw [HTB.out]; exact made_cut HM.out p
            clear hob4 ho4 hc4
            go_wp2_with fail
            go_end0
            exact ⟨rfl, by rw [← HTB.out]; exact HWZ.out.done HDN.out H0.out HMD.out⟩
          · have hd0 : decide ((0 : Int) < (j : Int)) = true := decide_eq_true (by omega)
            have hn2 : (1 : Int) ≤ (j : Int) := by omega
            have hn5 : (j : Int) - 1 < (m : Int) := by omega
            have hn3 : ((j : Int) - 1).toNat = j - 1 := by omega
            have hn4 : IntKind.i64.wrap ((j : Int) - 1) = (j : Int) - 1 := by rw [IntKind.wrap_i64]; omega
            have HRX : Hid (RowAt baK wr ad2 m cap2 bs) := by
              obtain ⟨ad5, cap5, hv5, hr5⟩ := HWY.out.at_.bat
              rw [← HN2.out] at hv5 hr5
              cases hv5
              exact hr5
            obtain ⟨b, o, y, el, hb, hy, _, c1, _⟩ := ba_get HRX.out (show j - 1 < m by omega)
            have HEL2 := Lib.hid el
            subst el
            have HYY := Lib.hid hy
            obtain ⟨yp, hyp⟩ : ∃ z, z = y.pos := ⟨_, rfl⟩
            rw [← hyp] at c1
            have HYP := Lib.hid hyp
            clear hy hyp
            by_cases hge : p ≤ yp
            · have hdg : decide (p ≤ yp) = true := decide_eq_true hge
              have HPD : Hid (Passed (·.pos) bs p (j - 1)) := HPJ.out.down HYY.out (by show p ≤ y.pos; rw [← HYP.out]; exact hge)
              go_wp2_with fail
              go_roundw
              case rel => exact ⟨trivial, j - 1, by go_num, by omega, HPD.out⟩
              case measure => simp [intOf]; omega
            · have hdg : decide (p ≤ yp) = false := decide_eq_false hge
              have HTB : Hid (bs.take j = cutA bs p) := (asc_take HAB.out (by rw [← HN2.out]; exact hjn) (.inr ⟨y, HYY.out, by show y.pos < p; rw [← HYP.out]; omega⟩) HPJ.out).2.symm
              obtain ⟨ad4, cap4, hv4, hc4, ho4, hob4⟩ := OwnRow.cut baK_ok HWY.out.at_.bas j (by rw [← HN2.out]; omega)
              rw [← HN2.out] at hv4
              cases hv4
              have hup : ∀ V, (Instr.slice 52 (.slice (some ⟨b, o, none⟩) m cap2) none (some (.int .i64 (j : Int))) none).run Try.prog V = .ok (.slice (some ⟨b, o, none⟩) j cap2) V := row_upto baK_ok (some ⟨b, o, none⟩) m cap2 j hc4
              have HWZ := Lib.hid (HWY.out.put_b ho4 (grow_refl wr _) (fun q hq => .inl (by rw [← hob4]; exact hq)))
              have f3 := HWY.out.at_.box.free 3
              have HDN : Hid (es.take i = ents every (bs.take j)) := by show _ = _; rw [HT.out, HTB.out]; exact HCE.out
              have HMD : Hid (MadeI base (bs.take j)) := by show MadeI _ _; rw [HTB.out]; exact made_cut HM.out p
              clear hob4 ho4 hc4
              go_wp2_with fail
              go_end0
              exact ⟨rfl, by rw [← HTB.out]; exact HWZ.out.done HDN.out H0.out HMD.out⟩
end Go.Proofs.Ytelbignfecjjhaa
