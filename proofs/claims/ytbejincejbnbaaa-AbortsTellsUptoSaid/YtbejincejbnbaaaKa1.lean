/- Parts of a proof, merged: RegionZ, Zt, VarMath, CrcMath, SeqMath, BatMath, ProdMath, ModMath, TabMath, PrMath, SnapMath, SnapMath2, SnapRow, TabOpen, TabOne. -/
import Derived.Deep.RegionHeld3
import Derived.WalkKit
import Derived.ProofKit
namespace Go.Proofs.Ytbejincejbnbaaa
open Go
set_option linter.unusedVariables false

section
variable {P : Program} {ops : Array Oper} {Q : Exit → Act → World → Prop} {md : Region.Mode} {S : World → Prop} {Z : List Nat}
/-- What has come up came up behind what it waits for. -/
def Closed (md : Region.Mode) (ops : Array Oper) (L : Array Bool) : Prop := ∀ j o, ops[j]? = some o → L.getD j false = true → ∀ e ∈ o.after, Region.binds md e = true → L.getD e.on false = true
def closedB (md : Region.Mode) (ops : Array Oper) (L : Array Bool) : Bool := (List.range ops.size).all fun j => !(L.getD j false) || match ops[j]? with | some o => o.after.all fun e => !(Region.binds md e) || L.getD e.on false | none => true
theorem closed_of {L : Array Bool} (h : closedB md ops L = true) : Closed md ops L := by
 intro j o ho hl e he hb
 have hj : j < ops.size := (Array.getElem?_eq_some_iff.1 ho).1
 have h1 := List.all_eq_true.1 h j (List.mem_range.2 hj)
 rw [hl, ho] at h1
 simp only [Bool.not_true, Bool.false_or, Array.all_eq_true'] at h1
 have h2 := h1 e he
 rw [hb] at h2
 simpa using h2
/-- Does z wait for i, by some steps? -/
def waitsB (md : Region.Mode) (ops : Array Oper) (i : Nat) : Nat → Nat → Bool
 | 0, _ => false
 | n + 1, z => match ops[z]? with | some o => o.after.any fun e => Region.binds md e && (e.on == i || waitsB md ops i n e.on) | none => false
theorem waits_closed {i : Nat} {L : Array Bool} (hc : Closed md ops L) : ∀ (n z : Nat), waitsB md ops i n z = true → L.getD z false = true → L.getD i false = true
 | 0, z, h, _ => by cases h
 | n + 1, z, h, hz => by
   unfold waitsB at h
   cases ho : ops[z]? with
   | none => rw [ho] at h; cases h
   | some o =>
     rw [ho] at h
     obtain ⟨e, he, h1⟩ := Array.any_eq_true'.1 h
     rw [Bool.and_eq_true, Bool.or_eq_true] at h1
     have h2 := hc z o ho hz e he h1.1
     rcases h1.2 with h3 | h3
     · rw [beq_iff_eq] at h3; rw [← h3]; exact h2
     · exact waits_closed hc n _ h3 h2
/-- None of Z has come up. -/
def ZFree (Z : List Nat) (L : Array Bool) : Prop := ∀ z ∈ Z, L.getD z false = false
/-- Whatever order is picked from here on; S holds behind every operation as long as none of Z has come up. -/
def wpAnyZ (P : Program) (md : Region.Mode) (ops : Array Oper) (Q : Exit → Act → World → Prop) (Z : List Nat) (S : World → Prop) : Nat → Array Bool → Act → World → Prop
 | 0, listed, a, w => Region.ready md ops listed = [] ∧ Q .normal a w
 | fuel + 1, listed, a, w =>
   (Region.ready md ops listed = [] → Q .normal a w) ∧
   ∀ i ∈ Region.ready md ops listed, wpOp P ops Q i (fun a' w' => (ZFree Z (listed.setIfInBounds i true) → S w') ∧ wpAnyZ P md ops Q Z S fuel (listed.setIfInBounds i true) a' w') a w
theorem wpAny_of_z : ∀ (fuel : Nat) (listed : Array Bool) (a : Act) (w : World), wpAnyZ P md ops Q Z S fuel listed a w → wpAny P md ops Q fuel listed a w
 | 0, _, _, _, h => h
 | fuel + 1, _, _, _, h => ⟨h.1, fun i hi => wpOp_mono (fun a' w' h' => wpAny_of_z fuel _ a' w' h'.2) (h.2 i hi)⟩
theorem closed_step {j : Nat} {L : Array Bool} (hc : Closed md ops L) (hj : j ∈ Region.ready md ops L) : Closed md ops (L.setIfInBounds j true) := by
 intro k o ho hl e he hb
 by_cases hkj : j = k
 · subst hkj
   obtain ⟨_, o', ho', hall⟩ := mem_ready.1 hj
   rw [ho] at ho'
   cases ho'
   exact getD_set_true (hall e he hb)
 · rw [getD_set_ne false hkj] at hl
   exact getD_set_true (hc k o ho hl e he hb)
theorem unlisted {i : Nat} {L : Array Bool} (h : L.getD i true = false) : L.getD i false = false := by
 rcases Nat.lt_or_ge i L.size with h' | h'
 · simp [h'] at h ⊢; exact h
 · simp [Array.getElem?_eq_none h'] at h
theorem wpAnyZ_first {i n : Nat} {oi : Oper} {v : Value} (hi : ops[i]? = some oi) (hsel : ∀ (j : Nat) (o : Oper) cs b, ops[j]? = some o → o.op ≠ .select cs b)
 (hQ : ∀ c a w, Q (.panic c) (a.put oi.dst v) w → Q (.panic c) a w) (hz : ∀ z ∈ Z, waitsB md ops i n z = true) (hiz : i ∉ Z) :
 ∀ (fuel : Nat) (listed : Array Bool) (a : Act) (w : World),
   (∀ j oj, ops[j]? = some oj → j ≠ i → listed.getD j true = false → (∀ e ∈ oj.after, Region.binds md e = true → e.on ≠ i) → oi.apart ops oj = true) →
   i ∈ Region.ready md ops listed → Closed md ops listed → YieldsIf P ops S oi v a → S w →
   wpAnyZ P md ops Q Z S fuel (listed.setIfInBounds i true) (a.put oi.dst v) w → wpAnyZ P md ops Q Z S (fuel + 1) listed a w := by
 have free : ∀ L, Closed md ops L → L.getD i true = false → ZFree Z L := fun L hc hu z hzZ => by
  cases hzl : L.getD z false
  · rfl
  · have := waits_closed hc n z (hz z hzZ) hzl
    rw [unlisted hu] at this
    cases this
 intro fuel
 induction fuel with
 | zero =>
   intro listed a w _ hr _ hy hS H
   refine ⟨fun h => (by rw [h] at hr; cases hr), fun j hj => ?_⟩
   by_cases hji : j = i
   · subst hji; exact hy.wpOp hi hS ⟨fun _ => hS, H⟩
   · have := ready_mono hj hji
     rw [H.1] at this
     cases this
 | succ fuel ih =>
   intro listed a w hfree hr hc hy hS H
   refine ⟨fun h => (by rw [h] at hr; cases hr), fun j hj => ?_⟩
   by_cases hji : j = i
   · subst hji; exact hy.wpOp hi hS ⟨fun _ => hS, H⟩
   · have h1 := H.2 j (ready_mono hj hji)
     obtain ⟨hjun, oj, hoj, hall⟩ := mem_ready.1 hj
     have hnot : ∀ e ∈ oj.after, Region.binds md e = true → e.on ≠ i := fun e he hb heq => by
      have h1 := hall e he hb
      have h0 := (mem_ready.1 hr).1
      rw [heq] at h1
      rw [unlisted h0] at h1
      cases h1
     have h2 := wpOp_putIf hoj (hfree j oj hoj hji hjun hnot) (fun cs b => hsel i oi cs b hi) (fun cs b => hsel j oj cs b hoj) hQ hy h1
     have hfree' : ∀ k ok, ops[k]? = some ok → k ≠ i → (listed.setIfInBounds j true).getD k true = false →
      (∀ e ∈ ok.after, Region.binds md e = true → e.on ≠ i) → oi.apart ops ok = true := fun k ok hk hki hun hno => by
      refine hfree k ok hk hki ?_ hno
      by_cases hjk : j = k
      · subst hjk; exact hjun
      · rw [getD_set_ne true hjk] at hun; exact hun
     have hr' := ready_mono hr (Ne.symm hji)
     have hc' := closed_step hc hj
     have hzf := free _ hc' (mem_ready.1 hr').1
     have hzf2 : ZFree Z ((listed.setIfInBounds i true).setIfInBounds j true) := fun z hzZ => by
      have hne : i ≠ z := fun e => hiz (e ▸ hzZ)
      rw [Array.setIfInBounds_comm _ _ (Ne.symm hji), getD_set_ne false hne]
      exact hzf z hzZ
     refine wpOp_mono (fun a' w' h3 => ⟨fun _ => h3.2.1 hzf2, ih (listed.setIfInBounds j true) a' w' hfree' hr' hc' h3.1 (h3.2.1 hzf2) ?_⟩) h2
     rw [Array.setIfInBounds_comm _ _ hji]
     exact h3.2.2
theorem wpAnyZ_take {i : Nat} {oi : Oper} {v : Value} {fuel : Nat} {listed : Array Bool} {a : Act} {w : World} (hi : ops[i]? = some oi)
 (hs : Region.noSelect ops = true) (hf : Region.free md ops listed i = true) (hr : (Region.ready md ops listed).contains i = true) (hc : closedB md ops listed = true) (hz : (Z.all fun z => waitsB md ops i 12 z && !(z == i)) = true)
 (hQ : ∀ c a w, Q (.panic c) (a.put oi.dst v) w → Q (.panic c) a w) (hy : YieldsIf P ops S oi v a) (hS : S w)
 (h : wpAnyZ P md ops Q Z S fuel (listed.setIfInBounds i true) (a.put oi.dst v) w) : wpAnyZ P md ops Q Z S (fuel + 1) listed a w := by
 have hz' := List.all_eq_true.1 hz
 refine wpAnyZ_first (n := 12) hi (Region.noSelect_spec hs) hQ (fun z hzZ => ?_) (fun hiZ => ?_) fuel listed a w (Region.free_spec hi hf) (by simpa using hr) (closed_of hc) hy hS h
 · have := hz' z hzZ; rw [Bool.and_eq_true] at this; exact this.1
 · have := hz' i hiZ; simp at this
/-- Each of the operations 'rs' comes up next. -/
def AllReadyZ (P : Program) (md : Region.Mode) (ops : Array Oper) (Q : Exit → Act → World → Prop) (Z : List Nat) (S : World → Prop) (fuel : Nat) (listed : Array Bool) (a : Act) (w : World) (rs : List Nat) : Prop :=
 ∀ i ∈ rs, wpOp P ops Q i (fun a' w' => (ZFree Z (listed.setIfInBounds i true) → S w') ∧ wpAnyZ P md ops Q Z S fuel (listed.setIfInBounds i true) a' w') a w
theorem AllReadyZ.nil {fuel : Nat} {listed : Array Bool} {a : Act} {w : World} : AllReadyZ P md ops Q Z S fuel listed a w [] := fun _ h => by cases h
theorem AllReadyZ.cons {fuel : Nat} {listed : Array Bool} {a : Act} {w : World} {i : Nat} {o : Oper} {rs : List Nat} (ho : ops[i]? = some o)
 (h : ∀ K' : Act → World → Prop, Shut (∀ a w, (ZFree Z (listed.setIfInBounds i true) → S w) → ((ZFree Z (listed.setIfInBounds i true) → S w) → wpAnyZ P md ops Q Z S fuel (listed.setIfInBounds i true) a w) → K' a w) → if Region.wanted o (yielded ops a.tmps) = true then Oper.wp P o a w K' Q else K' (a.put o.dst undef) w)
 (hs : AllReadyZ P md ops Q Z S fuel listed a w rs) : AllReadyZ P md ops Q Z S fuel listed a w (i :: rs) := fun j hj => by
 rcases List.mem_cons.1 hj with rfl | hj
 · exact wpOp_step ho (fun K' hK => h K' (fun a w hS hW => hK a w ⟨hS, hW hS⟩))
 · exact hs j hj
theorem wpAnyZ_ready {rs : List Nat} {fuel : Nat} {listed : Array Bool} {a : Act} {w : World} (hr : Region.ready md ops listed = rs) (hne : rs ≠ [])
 (h : AllReadyZ P md ops Q Z S fuel listed a w rs) : wpAnyZ P md ops Q Z S (fuel + 1) listed a w :=
 ⟨fun h0 => absurd (hr ▸ h0) hne, by rw [hr]; exact h⟩
theorem wpAnyZ_done {listed : Array Bool} {a : Act} {w : World} (hr : Region.ready md ops listed = []) (h : Q .normal a w) :
 ∀ fuel, wpAnyZ P md ops Q Z S fuel listed a w
 | 0 => ⟨hr, h⟩
 | _ + 1 => ⟨fun _ => h, by rw [hr]; simp⟩
theorem wp_region_z {id : Nat} {a : Act} {w : World} (Z : List Nat) (S : World → Prop) (hm : P.follows .mixedOrders = true)
 (h : wpAnyZ P .any ops Q Z S ops.size (Array.replicate ops.size false) a w.drew) : (Code.region id ops true).wp P Q a w :=
 wp_region_any hm (wpAny_of_z _ _ _ _ h)
theorem wpAnyZ_strengthen {S' : World → Prop} (h : ∀ w, S' w → S w) :
 ∀ (fuel : Nat) (listed : Array Bool) (a : Act) (w : World), wpAnyZ P md ops Q Z S' fuel listed a w → wpAnyZ P md ops Q Z S fuel listed a w
 | 0, _, _, _, hh => hh
 | fuel + 1, _, _, _, hh => ⟨hh.1, fun i hi => wpOp_mono (fun _ _ hk => ⟨fun hz => h _ (hk.1 hz), wpAnyZ_strengthen h fuel _ _ _ hk.2⟩) (hh.2 i hi)⟩
/-- One way alone is left, and one operation: it turns the worlds as it likes. -/
theorem zfree_no {i : Nat} {listed : Array Bool} {Z : List Nat} {p : Prop} (h : (Z.contains i && decide (i < listed.size)) = true) : ZFree Z (listed.setIfInBounds i true) → p := by
 intro hz
 rw [Bool.and_eq_true] at h
 have := hz i (by simpa using h.1)
 have hlt : i < listed.size := of_decide_eq_true h.2
 simp [hlt] at this
end
end Go.Proofs.Ytbejincejbnbaaa
namespace Go.Proofs.Ytbejincejbnbaaa
open Go
set_option linter.unusedVariables false

section
variable {P : Program} {ops : Array Oper} {Q : Exit → Act → World → Prop} {md : Region.Mode} {S : World → Prop} {Z : List Nat}
theorem zt (i : Nat) {v : Value} {o1 : Option Nat} {o2 o3 o4 o5 o6} {fuel : Nat} {listed l2 : Array Bool} {a a2 : Act} {w : World}
    (h : wpAnyZ P md ops Q Z S fuel l2 a2 w)
    (hi : ops[i]? = some ⟨o1, o2, o3, o4, o5, o6⟩ := by exact rfl)
    (hk : (Region.noSelect ops && (Region.free md ops listed i && ((Region.ready md ops listed).contains i && (closedB md ops listed && Z.all fun z => waitsB md ops i 12 z && !(z == i))))) = true := by kernel_rfl)
    (hQ : ∀ c a w, Q (.panic c) (a.put o1 v) w → Q (.panic c) a w := by exact fun _ _ _ h => h) (hS : S w := by assumption)
    (hy : YieldsIf P ops S ⟨o1, o2, o3, o4, o5, o6⟩ v a := by first | exact .inr ⟨by rfl, rfl⟩ | exact .inl ⟨by rfl, by intro W hSw; (try dsimp only at hSw); go_simp; (try with_reducible rfl)⟩)
    (hl : listed.setIfInBounds i true = l2 := by (try simp only [List.setIfInBounds_toArray, List.set_cons_zero, List.set_cons_succ]); exact rfl)
    (ha : a.put o1 v = a2 := by (try simp only [Act.put, List.setIfInBounds_toArray, List.set_cons_zero, List.set_cons_succ]); exact rfl) : wpAnyZ P md ops Q Z S (fuel + 1) listed a w := by
  simp only [Bool.and_eq_true] at hk
  obtain ⟨h1, h2, h3, h4, h5⟩ := hk
  subst hl ha
  exact wpAnyZ_take hi h1 h2 h3 h4 h5 hQ hy hS h
theorem zr (i : Nat) {o1 : Option Nat} {o2 o3 o4 o5 o6} {fuel : Nat} {listed : Array Bool} {a : Act} {w : World}
    (h : ∀ K' : Act → World → Prop, Shut (∀ a w, (ZFree Z (listed.setIfInBounds i true) → S w) → ((ZFree Z (listed.setIfInBounds i true) → S w) → wpAnyZ P md ops Q Z S fuel (listed.setIfInBounds i true) a w) → K' a w) → if Region.wanted ⟨o1, o2, o3, o4, o5, o6⟩ (yielded ops a.tmps) = true then Oper.wp P ⟨o1, o2, o3, o4, o5, o6⟩ a w K' Q else K' (a.put o1 undef) w)
    (ho : ops[i]? = some ⟨o1, o2, o3, o4, o5, o6⟩ := by exact rfl) (hr : Region.ready md ops listed = [i] := by kernel_rfl) :
    wpAnyZ P md ops Q Z S (fuel + 1) listed a w :=
  wpAnyZ_ready hr (by simp) (AllReadyZ.cons ho h AllReadyZ.nil)
theorem zc {C : Act → World → Prop} {fuel : Nat} {l l2 : Array Bool} {a a2 : Act} {w : World}
    (hC : Shut (∀ a w, (ZFree Z l → S w) → ((ZFree Z l → S w) → wpAnyZ P md ops Q Z S fuel l a w) → C a w)) (hS : S w) (h : wpAnyZ P md ops Q Z S fuel l2 a2 w)
    (hl : l = l2 := by (try simp only [List.setIfInBounds_toArray, List.set_cons_zero, List.set_cons_succ]); exact rfl)
    (ha : a = a2 := by (try simp only [Act.put, List.setIfInBounds_toArray, List.set_cons_zero, List.set_cons_succ]); exact rfl) : C a w := by
  subst hl ha
  exact hC.out _ _ (fun _ => hS) (fun _ => h)
end
end Go.Proofs.Ytbejincejbnbaaa
namespace Go.VarMath

abbrev AllB (bs : List Nat) : Prop := ∀ x ∈ bs, x < 256
def two64 : Nat := 18446744073709551616
theorem two64_val : two64 = 18446744073709551616 := rfl
def zig (n : Int) : Nat := if 0 ≤ n then 2 * n.toNat else 2 * (-n).toNat - 1
def zag (u : Nat) : Int := if u % 2 = 0 then ((u / 2 : Nat) : Int) else -((u / 2 : Nat) : Int) - 1
theorem zag_zig (n : Int) : zag (zig n) = n := by
 unfold zig zag
 by_cases h : 0 ≤ n
 · rw [if_pos h, if_pos (by omega)]; omega
 · rw [if_neg h, if_neg (by omega)]; omega
theorem zig_zag (u : Nat) : zig (zag u) = u := by
 unfold zig zag
 by_cases h : u % 2 = 0
 · rw [if_pos h, if_pos (by omega)]; omega
 · rw [if_neg h, if_neg (by omega)]; omega
theorem zig_lt {n : Int} (h0 : -9223372036854775808 ≤ n) (h1 : n ≤ 9223372036854775807) : zig n < 18446744073709551616 := by
 unfold zig; split <;> omega
theorem zag_in {u : Nat} (h : u < 18446744073709551616) : -9223372036854775808 ≤ zag u ∧ zag u ≤ 9223372036854775807 := by
 unfold zag; split <;> omega
theorem zig_nonneg {n : Int} (h : 0 ≤ n) : (zig n : Int) = 2 * n := by unfold zig; rw [if_pos h]; omega
theorem zig_neg {n : Int} (h : n < 0) : (zig n : Int) = -2 * n - 1 := by unfold zig; rw [if_neg (by omega)]; omega
theorem zig_nat (k : Nat) : zig (k : Int) = 2 * k := by unfold zig; rw [if_pos (by omega)]; omega
/-- Groups of seven bits, no more than f + 1 of them. -/
def gr : Nat → Nat → List Nat
 | 0, u => [u]
 | f + 1, u => if u < 128 then [u] else (u % 128 + 128) :: gr f (u / 128)
def encU (u : Nat) : List Nat := gr 9 u
def encN (n : Int) : List Nat := encU (zig n)
def val : List Nat → Nat
 | [] => 0
 | b :: r => b % 128 + 128 * val r
def AllHi (p : List Nat) : Prop := ∀ x ∈ p, 128 ≤ x ∧ x < 256
theorem AllHi.nil : AllHi [] := fun x h => by cases h
theorem AllHi.cons {b : Nat} {p : List Nat} (hb : 128 ≤ b ∧ b < 256) (hp : AllHi p) : AllHi (b :: p) := by
 intro x hx
 rcases List.mem_cons.1 hx with h | h
 · rw [h]; exact hb
 · exact hp x h
theorem AllHi.snoc {b : Nat} {p : List Nat} (hp : AllHi p) (hb : 128 ≤ b ∧ b < 256) : AllHi (p ++ [b]) := by
 intro x hx
 rcases List.mem_append.1 hx with h | h
 · exact hp x h
 · simp at h; rw [h]; exact hb
theorem AllHi.all {p : List Nat} (hp : AllHi p) : AllB p := fun x hx => (hp x hx).2
theorem gr_small (f u : Nat) (h : u < 128) : gr f u = [u] := by
 cases f with
 | zero => rfl
 | succ f => simp [gr, h]
theorem gr_big (f u : Nat) (h : ¬ u < 128) : gr (f + 1) u = (u % 128 + 128) :: gr f (u / 128) := by simp [gr, h]
theorem gr_shape : ∀ f u, u < 128 ^ (f + 1) → ∃ p x, gr f u = p ++ [x] ∧ AllHi p ∧ x < 128 ∧ p.length ≤ f ∧ (x = 0 → p = [] ∧ u = 0)
 | 0, u, h => ⟨[], u, rfl, AllHi.nil, by simpa using h, by simp, fun h => ⟨rfl, h⟩⟩
 | f + 1, u, h => by
   by_cases hu : u < 128
   · exact ⟨[], u, by rw [gr_small _ _ hu]; rfl, AllHi.nil, hu, by simp, fun h => ⟨rfl, h⟩⟩
   · have h2 : u / 128 < 128 ^ (f + 1) := by
      rw [Nat.div_lt_iff_lt_mul (by omega)]
      rwa [← Nat.pow_succ]
     obtain ⟨p, x, e, hp, hx, hl, hz⟩ := gr_shape f (u / 128) h2
     refine ⟨(u % 128 + 128) :: p, x, by rw [gr_big _ _ hu, e]; rfl, AllHi.cons (by omega) hp, hx, by simp; omega, fun h0 => ?_⟩
     have := (hz h0).2
     omega
theorem val_gr : ∀ f u, u < 128 ^ (f + 1) → val (gr f u) = u
 | 0, u, h => by
   have : u < 128 := by simpa using h
   simp [gr, val]; omega
 | f + 1, u, h => by
   by_cases hu : u < 128
   · rw [gr_small _ _ hu]; simp [val]; omega
   · have h2 : u / 128 < 128 ^ (f + 1) := by
      rw [Nat.div_lt_iff_lt_mul (by omega)]
      rwa [← Nat.pow_succ]
     rw [gr_big _ _ hu]
     simp only [val]
     rw [val_gr f _ h2]
     omega
theorem pow10 : (128 : Nat) ^ (9 + 1) = 1180591620717411303424 := by decide
theorem lt10 {u : Nat} (h : u < 18446744073709551616) : u < 128 ^ (9 + 1) := by rw [pow10]; omega
theorem val_enc {u : Nat} (h : u < 18446744073709551616) : val (encU u) = u := val_gr 9 u (lt10 h)
theorem enc_shape {u : Nat} (h : u < 18446744073709551616) : ∃ p x, encU u = p ++ [x] ∧ AllHi p ∧ x < 128 ∧ p.length ≤ 9 ∧ (x = 0 → p = [] ∧ u = 0) := gr_shape 9 u (lt10 h)
theorem enc_all {u : Nat} (h : u < 18446744073709551616) : AllB (encU u) := by
 obtain ⟨p, x, e, hp, hx, _, _⟩ := enc_shape h
 rw [e]
 intro y hy
 rcases List.mem_append.1 hy with h | h
 · exact (hp y h).2
 · simp at h; omega
theorem enc_len {u : Nat} (h : u < 18446744073709551616) : 1 ≤ (encU u).length ∧ (encU u).length ≤ 10 := by
 obtain ⟨p, x, e, hp, hx, hl, _⟩ := enc_shape h
 rw [e, List.length_append]
 simp; omega
/-- The bytes up to and with the first one that no other follows, among the first f. -/
def scan : Nat → List Nat → Option (List Nat)
 | 0, _ => none
 | _ + 1, [] => none
 | f + 1, b :: r => if b < 128 then some [b] else (scan f r).map (b :: ·)
theorem scan_hi : ∀ (p : List Nat) (f : Nat) (r : List Nat), AllHi p → p.length ≤ f → scan f (p ++ r) = (scan (f - p.length) r).map (p ++ ·)
 | [], f, r, _, _ => by
   rw [List.nil_append]
   have : (fun l : List Nat => [] ++ l) = id := by funext l; rfl
   rw [this, Option.map_id]; rfl
 | b :: p, 0, r, _, h => by simp at h
 | b :: p, f + 1, r, hp, h => by
   have hb := hp b (by simp)
   have ih := scan_hi p f r (fun x hx => hp x (by simp [hx])) (by simpa using h)
   show (if b < 128 then some [b] else (scan f (p ++ r)).map (b :: ·)) = _
   rw [if_neg (by omega), ih, Option.map_map, List.length_cons, Nat.add_sub_add_right]
   rfl
theorem scan_end {p : List Nat} {x : Nat} {f : Nat} (hp : AllHi p) (hx : x < 128) (hf : p.length < f) (r : List Nat) : scan f (p ++ x :: r) = some (p ++ [x]) := by
 rw [scan_hi p f _ hp (by omega)]
 obtain ⟨k, hk⟩ : ∃ k, f - p.length = k + 1 := ⟨f - p.length - 1, by omega⟩
 rw [hk]
 simp [scan, hx]
theorem scan_all {p : List Nat} {f : Nat} (hp : AllHi p) (hf : p.length ≤ f) : scan f p = none := by
 have := scan_hi p f [] hp hf
 rw [List.append_nil] at this
 rw [this]
 cases f - p.length <;> rfl
theorem scan_full {p : List Nat} (hp : AllHi p) (r : List Nat) : scan p.length (p ++ r) = none := by
 rw [scan_hi p _ _ hp (Nat.le_refl _), Nat.sub_self]; rfl

/-- What a row of bytes begins with: the number, and how many bytes it takes; 0, 0 if none. -/
def getB (bs : List Nat) : Int × Nat := match scan 10 bs with
 | none => (0, 0)
 | some l => if encU (val l % two64) = l then (zag (val l % two64), l.length) else (0, 0)
theorem getB_none {bs : List Nat} (h : scan 10 bs = none) : getB bs = (0, 0) := by unfold getB; rw [h]
theorem getB_some {bs l : List Nat} (h : scan 10 bs = some l) : getB bs = if encU (val l % two64) = l then (zag (val l % two64), l.length) else (0, 0) := by unfold getB; rw [h]
theorem scan_enc {u : Nat} (h : u < 18446744073709551616) (r : List Nat) : scan 10 (encU u ++ r) = some (encU u) := by
 obtain ⟨p, x, e, hp, hx, hl, _⟩ := enc_shape h
 rw [e, List.append_assoc]
 exact scan_end hp hx (by omega) r
theorem getB_enc {u : Nat} (h : u < 18446744073709551616) (r : List Nat) : getB (encU u ++ r) = (zag u, (encU u).length) := by
 rw [getB_some (scan_enc h r), val_enc h]
 have e : u % two64 = u := Nat.mod_eq_of_lt h
 rw [e, if_pos rfl]
theorem getB_encN {n : Int} (h0 : -9223372036854775808 ≤ n) (h1 : n ≤ 9223372036854775807) (r : List Nat) : getB (encN n ++ r) = (n, (encN n).length) := by
 unfold encN
 rw [getB_enc (zig_lt h0 h1), zag_zig]
theorem getB_nil : getB [] = (0, 0) := rfl
theorem val_snoc : ∀ (p : List Nat) (x : Nat), val (p ++ [x]) = val p + 128 ^ p.length * (x % 128)
 | [], x => by simp [val]
 | b :: p, x => by
   rw [List.cons_append, val, val, val_snoc p x, List.length_cons, Nat.pow_succ, Nat.mul_add, Nat.mul_comm (128 ^ p.length) 128, Nat.mul_assoc]
   omega
theorem val_lt : ∀ p : List Nat, val p < 128 ^ p.length
 | [] => by simp [val]
 | b :: p => by
   have := val_lt p
   rw [val, List.length_cons, Nat.pow_succ]
   omega
theorem gr_val : ∀ (p : List Nat) (x f : Nat), AllHi p → x < 128 → (x = 0 → p = []) → p.length ≤ f → gr f (val (p ++ [x])) = p ++ [x]
 | [], x, f, _, hx, _, _ => by
   rw [List.nil_append]
   have : val [x] = x := by simp [val]; omega
   rw [this, gr_small _ _ hx]
 | b :: p, x, 0, _, _, _, h => by simp at h
 | b :: p, x, f + 1, hp, hx, hz, h => by
   have hb := hp b (by simp)
   have hx0 : x ≠ 0 := fun h0 => by have := hz h0; simp at this
   have ih := gr_val p x f (fun y hy => hp y (by simp [hy])) hx (fun h0 => absurd h0 hx0) (by simpa using h)
   have hpos : 1 ≤ val (p ++ [x]) := by
    rw [val_snoc]
    have h1 : 1 ≤ 128 ^ p.length := Nat.pow_pos (by omega)
    have h2 : 1 ≤ x % 128 := by omega
    have := Nat.mul_le_mul h1 h2
    omega
   rw [List.cons_append, val, gr_big _ _ (by omega)]
   have e1 : (b % 128 + 128 * val (p ++ [x])) % 128 + 128 = b := by omega
   have e2 : (b % 128 + 128 * val (p ++ [x])) / 128 = val (p ++ [x]) := by omega
   rw [e1, e2, ih]
theorem pow9 : (128 : Nat) ^ 9 = 9223372036854775808 := by decide
/-- A row up to its first low byte is what Put writes just if its last byte is no 0 behind others, and the tenth one is 0 or 1. -/
theorem canon {p : List Nat} {x : Nat} (hp : AllHi p) (hx : x < 128) (hl : p.length ≤ 9) :
 encU (val (p ++ [x]) % two64) = p ++ [x] ↔ (x = 0 → p = []) ∧ (p.length = 9 → x ≤ 1) := by
 have hv := val_lt p
 have hs := val_snoc p x
 have hxm : x % 128 = x := Nat.mod_eq_of_lt hx
 rw [hxm] at hs
 have hmod : val (p ++ [x]) % two64 < 18446744073709551616 := Nat.mod_lt _ (by decide)
 constructor
 · intro h
   constructor
   · intro h0
     obtain ⟨q, y, e, hq, hy, hlq, hz⟩ := enc_shape hmod
     rw [h] at e
     have e1 := List.append_inj' e rfl
     have : y = 0 := by have := e1.2; simp at this; omega
     rw [e1.1]
     exact (hz this).1
   · intro h9
     have h2 := val_enc hmod
     rw [h] at h2
     have h3 : val (p ++ [x]) < 18446744073709551616 := by rw [h2]; exact hmod
     rw [hs, h9, pow9] at h3
     omega
 · rintro ⟨h0, h9⟩
   have hlt : val (p ++ [x]) < 18446744073709551616 := by
    by_cases h : p.length = 9
    · have := h9 h
      rw [hs, h, pow9]
      rw [h, pow9] at hv
      omega
    · have h8 : p.length + 1 ≤ 9 := by omega
      have h1 := val_lt (p ++ [x])
      rw [List.length_append, List.length_singleton] at h1
      have h2 : (128 : Nat) ^ (p.length + 1) ≤ 128 ^ 9 := Nat.pow_le_pow_right (by omega) h8
      rw [pow9] at h2
      omega
   have e : val (p ++ [x]) % two64 = val (p ++ [x]) := Nat.mod_eq_of_lt hlt
   rw [e]
   exact gr_val p x 9 hp hx h0 hl

/-! texts -/
def textB (s : List Nat) : List Nat := encU (2 * s.length) ++ s
/-! eight bytes -/
def beB : Nat → Nat → List Nat
 | 0, _ => []
 | k + 1, u => (u / 256 ^ k % 256) :: beB k u
def unbe (bs : List Nat) : Nat := bs.foldl (fun a b => a * 256 + b) 0
def low64 (n : Int) : Nat := (n % 18446744073709551616).toNat
def longB (n : Int) : List Nat := beB 8 (low64 n)
theorem length_beB : ∀ k u, (beB k u).length = k
 | 0, _ => rfl
 | k + 1, u => by simp [beB, length_beB k u]
theorem beB_all : ∀ k u, AllB (beB k u)
 | 0, _ => fun x h => by cases h
 | k + 1, u => by
   intro x hx
   rcases List.mem_cons.1 hx with h | h
   · rw [h]; exact Nat.mod_lt _ (by omega)
   · exact beB_all k u x h
theorem length_longB (n : Int) : (longB n).length = 8 := length_beB 8 _
theorem longB_all (n : Int) : AllB (longB n) := beB_all 8 _
theorem beB_take : ∀ i k u, i < k → (beB k u).take (i + 1) = (beB k u).take i ++ [u / 256 ^ (k - 1 - i) % 256]
 | i, 0, u, h => by omega
 | 0, k + 1, u, _ => by simp [beB]
 | i + 1, k + 1, u, h => by
   have ih := beB_take i k u (by omega)
   rw [beB, List.take_succ_cons, ih, List.take_succ_cons, List.cons_append]
   congr 3
   have : k + 1 - 1 - (i + 1) = k - 1 - i := by omega
   rw [this]
theorem scan_len : ∀ (f : Nat) (bs l : List Nat), scan f bs = some l → l.length ≤ f ∧ l.length ≤ bs.length
 | 0, bs, l, h => by cases h
 | f + 1, [], l, h => by cases h
 | f + 1, b :: r, l, h => by
   unfold scan at h
   split at h
   · cases h; simp
   · obtain ⟨t, ht, rfl⟩ := Option.map_eq_some_iff.1 h
     have := scan_len f r t ht
     simp; omega
theorem getB_bounds (bs : List Nat) : (getB bs).2 ≤ 10 ∧ (getB bs).2 ≤ bs.length ∧ -9223372036854775808 ≤ (getB bs).1 ∧ (getB bs).1 ≤ 9223372036854775807 := by
 rcases h : scan 10 bs with _ | l
 · rw [getB_none h]; simp
 · rw [getB_some h]
   have h2 := scan_len 10 bs l h
   split
   · have h3 := zag_in (u := val l % two64) (Nat.mod_lt _ (by decide))
     simp only
     omega
   · simp
end Go.VarMath
namespace Go.CrcMath

def poly : Nat := 2197175160
/-- One bit: shifted right, and, if the lowest bit was 1, exclusive or the polynomial. -/
def bstep (c : Nat) : Nat := if c % 2 = 1 then c / 2 ^^^ poly else c / 2
def bsteps : Nat → Nat → Nat
 | 0, c => c
 | n + 1, c => bstep (bsteps n c)
def nxt (c b : Nat) : Nat := bsteps 8 (c ^^^ b)
def run (c : Nat) (bs : List Nat) : Nat := bs.foldl nxt c
def full : Nat := 4294967295
theorem full_lt : full < 4294967296 := by unfold full; omega
def cpl (c : Nat) : Nat := full ^^^ c
def ofB (bs : List Nat) : Nat := cpl (run full bs)
def leB (c : Nat) : List Nat := [c % 256, c / 256 % 256, c / 65536 % 256, c / 16777216 % 256]
def sealB (bs : List Nat) : List Nat := leB (ofB bs) ++ bs
def unl : List Nat → Nat
 | [] => 0
 | b :: bs => b + 256 * unl bs
def okB (bs : List Nat) : Bool := decide (4 ≤ bs.length) && decide (unl (bs.take 4) = ofB (bs.drop 4))
abbrev AllB (bs : List Nat) : Prop := ∀ x ∈ bs, x < 256

theorem bstep_lt {c : Nat} (h : c < 4294967296) : bstep c < 4294967296 := by
 unfold bstep
 split
 · exact Nat.xor_lt_two_pow (n := 32) (by omega) (by decide)
 · omega
theorem bsteps_lt {c : Nat} (h : c < 4294967296) : ∀ n, bsteps n c < 4294967296
 | 0 => h
 | n + 1 => bstep_lt (bsteps_lt h n)
theorem xor_lt {c b : Nat} (h : c < 4294967296) (hb : b < 4294967296) : c ^^^ b < 4294967296 := Nat.xor_lt_two_pow (n := 32) h hb
theorem nxt_lt {c b : Nat} (h : c < 4294967296) (hb : b < 256) : nxt c b < 4294967296 := bsteps_lt (xor_lt h (by omega)) 8
theorem run_lt : ∀ (bs : List Nat) (c : Nat), c < 4294967296 → AllB bs → run c bs < 4294967296
 | [], c, h, _ => h
 | b :: bs, c, h, hb => run_lt bs (nxt c b) (nxt_lt h (hb b (by simp))) (fun x hx => hb x (by simp [hx]))
theorem cpl_lt {c : Nat} (h : c < 4294967296) : cpl c < 4294967296 := xor_lt full_lt h
theorem cpl_eq (c : Nat) : cpl c = full ^^^ c := rfl
theorem ofB_lt {bs : List Nat} (h : AllB bs) : ofB bs < 4294967296 := cpl_lt (run_lt bs _ full_lt h)
theorem run_snoc (c : Nat) (a : List Nat) (b : Nat) : run c (a ++ [b]) = nxt (run c a) b := by simp [run, List.foldl_append]

/-! the bstep is linear, and only 0 goes to 0 -/
theorem xor_div2 (x y : Nat) : (x ^^^ y) / 2 = x / 2 ^^^ y / 2 := by
 have := Nat.shiftRight_xor_distrib (a := x) (b := y) (i := 1)
 simpa [Nat.shiftRight_eq_div_pow] using this
theorem xor_mod2 (x y : Nat) : (x ^^^ y) % 2 = (x % 2 + y % 2) % 2 := by
 have h : (x ^^^ y) % 2 ^ 1 = x % 2 ^ 1 ^^^ y % 2 ^ 1 := Nat.xor_mod_two_pow
 simp only [Nat.pow_one] at h
 rw [h]
 rcases Nat.mod_two_eq_zero_or_one x with hx | hx <;> rcases Nat.mod_two_eq_zero_or_one y with hy | hy <;> simp [hx, hy]
theorem bstep_xor (x y : Nat) : bstep (x ^^^ y) = bstep x ^^^ bstep y := by
 unfold bstep
 rw [xor_mod2, xor_div2]
 rcases Nat.mod_two_eq_zero_or_one x with hx | hx <;> rcases Nat.mod_two_eq_zero_or_one y with hy | hy
 · simp [hx, hy]
 · simp [hx, hy, Nat.xor_assoc]
 · simp only [hx, hy]; simp [Nat.xor_assoc, Nat.xor_comm poly]
 · simp only [hx, hy]; simp [Nat.xor_assoc]; rw [Nat.xor_comm poly, Nat.xor_assoc, Nat.xor_self, Nat.xor_zero]
theorem bsteps_xor (x y : Nat) : ∀ n, bsteps n (x ^^^ y) = bsteps n x ^^^ bsteps n y
 | 0 => rfl
 | n + 1 => by unfold bsteps; rw [bsteps_xor x y n, bstep_xor]
theorem bsteps_add (m x : Nat) : ∀ n, bsteps (m + n) x = bsteps n (bsteps m x)
 | 0 => rfl
 | n + 1 => by show bstep (bsteps (m + n) x) = bstep (bsteps n (bsteps m x)); rw [bsteps_add m x n]
theorem bstep_double (u : Nat) : bstep (2 * u) = u := by unfold bstep; rw [if_neg (by omega)]; omega
theorem steps8_256 (u : Nat) : bsteps 8 (256 * u) = u := by
 have e : 256 * u = 2 * (2 * (2 * (2 * (2 * (2 * (2 * (2 * u))))))) := by omega
 rw [e]
 simp only [bsteps, bstep_double]
theorem low_xor (t u : Nat) (h : t < 256) : t ^^^ 256 * u = t + 256 * u := by
 have h1 : 2 ^ 8 * u + t = 2 ^ 8 * u ||| t := Nat.two_pow_add_eq_or_of_lt (i := 8) (b := t) (by simpa using h) u
 have e2 : 2 ^ 8 * u ||| t = t ^^^ 2 ^ 8 * u := by
  apply Nat.eq_of_testBit_eq
  intro i
  rw [Nat.testBit_or, Nat.testBit_xor]
  by_cases hi : i < 8
  · have h2 : Nat.testBit (2 ^ 8 * u) i = false := by rw [Nat.testBit_two_pow_mul]; simp; omega
    rw [h2]; simp
  · have h3 : Nat.testBit t i = false := Nat.testBit_lt_two_pow (Nat.lt_of_lt_of_le h (Nat.pow_le_pow_right (n := 2) (i := 8) (by decide) (by omega)))
    rw [h3]; simp
 have h4 : 2 ^ 8 * u = 256 * u := rfl
 rw [h4] at h1 e2
 omega
/-- The difference of two sums behind one byte more, the bytes' own difference t. -/
theorem nxt_xor (c d b t : Nat) : nxt (c ^^^ d) (b ^^^ t) = nxt c b ^^^ bsteps 8 (d ^^^ t) := by
 unfold nxt
 rw [← bsteps_xor]
 congr 1
 rw [Nat.xor_assoc, Nat.xor_assoc, ← Nat.xor_assoc d b t, Nat.xor_comm d b, Nat.xor_assoc]
theorem peel (d t u : Nat) (h : t < 256) : bsteps 8 (d ^^^ (t + 256 * u)) = bsteps 8 (d ^^^ t) ^^^ u := by
 rw [← low_xor t u h, ← Nat.xor_assoc, bsteps_xor, steps8_256]
theorem four (c a0 a1 a2 a3 t0 t1 t2 t3 : Nat) (h0 : t0 < 256) (h1 : t1 < 256) (h2 : t2 < 256) :
 run c [a0 ^^^ t0, a1 ^^^ t1, a2 ^^^ t2, a3 ^^^ t3] = run c [a0, a1, a2, a3] ^^^ bsteps 32 (t0 + 256 * (t1 + 256 * (t2 + 256 * t3))) := by
 have e : bsteps 32 (t0 + 256 * (t1 + 256 * (t2 + 256 * t3))) = bsteps 8 (bsteps 8 (bsteps 8 (bsteps 8 t0 ^^^ t1) ^^^ t2) ^^^ t3) := by
  have p0 := peel 0 t0 (t1 + 256 * (t2 + 256 * t3)) h0
  simp only [Nat.zero_xor] at p0
  rw [show (32 : Nat) = 8 + (8 + (8 + 8)) from rfl, bsteps_add, p0, bsteps_add, peel _ _ _ h1, bsteps_add, peel _ _ _ h2]
 rw [e]
 have q0 : nxt c (a0 ^^^ t0) = nxt c a0 ^^^ bsteps 8 t0 := by have := nxt_xor c 0 a0 t0; simpa using this
 simp only [run, List.foldl_cons, List.foldl_nil]
 rw [q0, nxt_xor, nxt_xor, nxt_xor]
/-! four bytes and their number -/
theorem leB_all (c : Nat) : AllB (leB c) := by intro x hx; simp [leB] at hx; omega
theorem sealB_all {bs : List Nat} (h : AllB bs) : AllB (sealB bs) := by
 intro x hx
 rcases List.mem_append.1 hx with h1 | h1
 · exact leB_all _ x h1
 · exact h x h1
theorem length_sealB (bs : List Nat) : (sealB bs).length = bs.length + 4 := by simp [sealB, leB]
theorem unl_leB {c : Nat} (h : c < 4294967296) : unl (leB c) = c := by simp only [leB, unl]; omega
theorem leB_unl {b0 b1 b2 b3 : Nat} (h0 : b0 < 256) (h1 : b1 < 256) (h2 : b2 < 256) (h3 : b3 < 256) : leB (unl [b0, b1, b2, b3]) = [b0, b1, b2, b3] := by
 simp only [leB, unl]
 congr 1
 · omega
 · congr 1
   · omega
   · congr 1
     · omega
     · congr 1; omega
theorem take_sealB (bs : List Nat) : (sealB bs).take 4 = leB (ofB bs) := by simp [sealB, leB]
theorem drop_sealB (bs : List Nat) : (sealB bs).drop 4 = bs := by simp [sealB, leB]
theorem four_of {bs : List Nat} (h : 4 ≤ bs.length) : ∃ b0 b1 b2 b3 r, bs = b0 :: b1 :: b2 :: b3 :: r := by
 match bs, h with
 | b0 :: b1 :: b2 :: b3 :: r, _ => exact ⟨b0, b1, b2, b3, r, rfl⟩
theorem okB_short {bs : List Nat} (h : bs.length < 4) : okB bs = false := by simp [okB]; omega
theorem okB_seal {bs : List Nat} (h : AllB bs) : okB (sealB bs) = true := by
 simp only [okB, length_sealB, take_sealB, drop_sealB, unl_leB (ofB_lt h)]; simp
theorem okB_long {bs : List Nat} (h : 4 ≤ bs.length) : okB bs = decide (unl (bs.take 4) = ofB (bs.drop 4)) := by simp [okB, h]
/-- A row is right just where it is what the rest of it is when it is sealed. -/
theorem sealB_drop {bs : List Nat} (h : 4 ≤ bs.length) (hb : AllB bs) : sealB (bs.drop 4) = bs ↔ okB bs = true := by
 obtain ⟨b0, b1, b2, b3, r, rfl⟩ := four_of h
 have h0 := hb b0 (by simp)
 have h1 := hb b1 (by simp)
 have h2 := hb b2 (by simp)
 have h3 := hb b3 (by simp)
 have hr : AllB r := fun x hx => hb x (by simp [hx])
 rw [okB_long h]
 simp only [List.drop_succ_cons, List.drop_zero, List.take_succ_cons, List.take_zero, decide_eq_true_eq]
 constructor
 · intro e
   have e2 : leB (ofB r) = [b0, b1, b2, b3] := by
    have := congrArg (List.take 4) e
    simpa [sealB, leB] using this
   rw [← e2, unl_leB (ofB_lt hr)]
 · intro e
   show leB (ofB r) ++ r = _
   rw [← e, leB_unl h0 h1 h2 h3]; rfl
end Go.CrcMath
namespace Go.SeqMath

def rightB (n : Int) : Bool := decide (0 ≤ n) && decide (n ≤ 2147483647)
def addI (n k : Int) : Int := if rightB n = true then (n + k) % 2147483648 else -1
def lastI (n c : Int) : Int := if 1 ≤ c ∧ c ≤ 16 then addI n (c - 1) else -1
def followsB (l f : Int) : Bool := if l = -1 then decide (f = 0) else rightB l && decide (f = addI l 1)
def gapI (a b : Int) : Int := if rightB a = true ∧ rightB b = true then (b - a) % 2147483648 else -1
theorem right_yes {n : Int} (h0 : 0 ≤ n) (h1 : n ≤ 2147483647) : rightB n = true := by unfold rightB; simp [h0, h1]
theorem right_no {n : Int} (h : n < 0 ∨ 2147483647 < n) : rightB n = false := by
 unfold rightB
 rcases h with h | h
 · rw [decide_eq_false (by omega)]; rfl
 · rw [decide_eq_false (p := n ≤ 2147483647) (by omega), Bool.and_false]
theorem of_right {n : Int} (h : rightB n = true) : 0 ≤ n ∧ n ≤ 2147483647 := by unfold rightB at h; simpa using h
theorem add_yes {n : Int} (h0 : 0 ≤ n) (h1 : n ≤ 2147483647) (k : Int) : addI n k = (n + k) % 2147483648 := by unfold addI; rw [if_pos (right_yes h0 h1)]
theorem add_no {n : Int} (h : rightB n = false) (k : Int) : addI n k = -1 := by unfold addI; rw [if_neg (by rw [h]; decide)]
theorem last_yes {c : Int} (h0 : 1 ≤ c) (h1 : c ≤ 16) (n : Int) : lastI n c = addI n (c - 1) := by unfold lastI; rw [if_pos ⟨h0, h1⟩]
theorem last_no {c : Int} (h : c < 1 ∨ 16 < c) (n : Int) : lastI n c = -1 := by unfold lastI; rw [if_neg (by omega)]
theorem gap_yes {a b : Int} (a0 : 0 ≤ a) (a1 : a ≤ 2147483647) (b0 : 0 ≤ b) (b1 : b ≤ 2147483647) : gapI a b = (b - a) % 2147483648 := by
 unfold gapI; rw [if_pos ⟨right_yes a0 a1, right_yes b0 b1⟩]
theorem follows_none (f : Int) : followsB (-1) f = decide (f = 0) := by unfold followsB; rw [if_pos rfl]
theorem follows_yes {l : Int} (h0 : 0 ≤ l) (h1 : l ≤ 2147483647) (f : Int) : followsB l f = decide (f = addI l 1) := by
 unfold followsB; rw [if_neg (by omega), right_yes h0 h1, Bool.true_and]
theorem follows_no {l : Int} (h : l ≠ -1) (h2 : rightB l = false) (f : Int) : followsB l f = false := by
 unfold followsB; rw [if_neg h, h2, Bool.false_and]
/- What the two laws say, of the plain functions. -/
theorem gap_add {x k : Int} (x0 : 0 ≤ x) (x1 : x ≤ 2147483647) (k0 : 0 ≤ k) (k1 : k ≤ 2147483647) : gapI x (addI x k) = k := by
 rw [add_yes x0 x1, gap_yes x0 x1 (by omega) (by omega)]; omega
end Go.SeqMath
namespace Go.BatMath
open Go.SeqMath
open Go.VarMath (textB encU longB beB unbe low64)
open Go.CrcMath (sealB okB)

abbrev AllB (bs : List Nat) : Prop := ∀ x ∈ bs, x < 256
def bl (s : ByteArray) : List Nat := s.data.toList.map UInt8.toNat
theorem bl_len (s : ByteArray) : (bl s).length = s.size := by simp [bl]
theorem bl_all (s : ByteArray) : AllB (bl s) := by
 intro x hx
 obtain ⟨c, _, rfl⟩ := List.mem_map.1 hx
 exact c.toNat_lt
/-- A record, and a batch. -/
structure Rc where
 key : ByteArray
 val : ByteArray
structure Bat where
 base : Int
 prod : Int
 epoch : Int
 seq : Int
 txn : Bool
 marker : Int
 recs : List Rc
def Bat.zero : Bat := ⟨0, 0, 0, 0, false, 0, []⟩
def Bat.at (b : Bat) (n : Int) : Bat := { b with base := n }
abbrev In64 (n : Int) : Prop := -9223372036854775808 ≤ n ∧ n ≤ 9223372036854775807
/-- Its numbers are such. -/
structure Bat.wf (b : Bat) : Prop where
 base : In64 b.base
 prod : In64 b.prod
 epoch : In64 b.epoch
 seq : In64 b.seq
 marker : In64 b.marker
/-! which errors it has -/
def headB (b : Bat) : Bool := decide (0 ≤ b.prod) && (decide (0 ≤ b.epoch) && decide (b.epoch ≤ 32767))
def noneB (b : Bat) : Bool := decide (b.prod = -1) && (decide (b.epoch = -1) && (decide (b.seq = -1) && !b.txn))
def longRec (r : Rc) : Prop := 64 < r.key.size ∨ 64 < r.val.size
noncomputable def rightE (b : Bat) : Int :=
 if b.base < 0 ∨ 1099511627776 < b.base then 18
 else if b.marker ≠ 0 then
  if (b.marker = 1 ∨ b.marker = 2) ∧ headB b = true ∧ b.seq = -1 ∧ b.txn = true ∧ b.recs = [] then 0 else 12
 else if (noneB b = true ∨ headB b = true ∧ rightB b.seq = true) ∧ b.recs ≠ [] then
  open Classical in if 16 < b.recs.length ∨ ∃ r ∈ b.recs, longRec r then 13 else 0
 else 12
theorem head_of {b : Bat} (h : headB b = true) : 0 ≤ b.prod ∧ 0 ≤ b.epoch ∧ b.epoch ≤ 32767 := by unfold headB at h; simpa using h
theorem none_of {b : Bat} (h : noneB b = true) : b.prod = -1 ∧ b.epoch = -1 ∧ b.seq = -1 ∧ b.txn = false := by unfold noneB at h; simpa using h
/-- What a batch that is right is. -/
structure Ok (b : Bat) : Prop where
 base0 : 0 ≤ b.base
 base1 : b.base ≤ 1099511627776
 prod : -1 ≤ b.prod
 epoch0 : -1 ≤ b.epoch
 epoch1 : b.epoch ≤ 32767
 seq0 : -1 ≤ b.seq
 seq1 : b.seq ≤ 2147483647
 marker0 : 0 ≤ b.marker
 marker1 : b.marker ≤ 2
 recs : b.recs.length ≤ 16
 texts : ∀ r ∈ b.recs, r.key.size ≤ 64 ∧ r.val.size ≤ 64
theorem ok_of {b : Bat} (h : rightE b = 0) : Ok b := by
 unfold rightE at h
 split at h
 · omega
 rename_i hb
 split at h
 · split at h
   · rename_i hm hh
     obtain ⟨h1, h2, h3, h4, h5⟩ := hh
     obtain ⟨p0, p1, p2⟩ := head_of h2
     exact ⟨by omega, by omega, by omega, by omega, by omega, by omega, by omega, by omega, by omega, by rw [h5]; simp, by rw [h5]; intro r hr; cases hr⟩
   · omega
 rename_i hm
 split at h
 · rename_i hh
   split at h
   · omega
   rename_i hl
   have hl1 : b.recs.length ≤ 16 := by
    by_cases h16 : 16 < b.recs.length
    · exact absurd (.inl h16) hl
    · omega
   have hl2 : ∀ r ∈ b.recs, r.key.size ≤ 64 ∧ r.val.size ≤ 64 := by
    intro r hr
    refine ⟨?_, ?_⟩
    · by_cases h64 : 64 < r.key.size
      · exact absurd (.inr ⟨r, hr, .inl h64⟩) hl
      · omega
    · by_cases h64 : 64 < r.val.size
      · exact absurd (.inr ⟨r, hr, .inr h64⟩) hl
      · omega
   rcases hh.1 with h1 | ⟨h1, h2⟩
   · obtain ⟨q1, q2, q3, q4⟩ := none_of h1
     exact ⟨by omega, by omega, by omega, by omega, by omega, by omega, by omega, by omega, by omega, hl1, hl2⟩
   · obtain ⟨p0, p1, p2⟩ := head_of h1
     obtain ⟨s0, s1⟩ := of_right h2
     exact ⟨by omega, by omega, by omega, by omega, by omega, by omega, by omega, by omega, by omega, hl1, hl2⟩
 · omega

/-! bytes -/
def flagN (b : Bat) : Nat := (2 * b.marker + (if b.txn = true then 1 else 0)).toNat % 256
def epochN (b : Bat) : Nat := (b.epoch % 65536).toNat
def recB (r : Rc) : List Nat := textB (bl r.key) ++ textB (bl r.val)
def recsB (l : List Rc) : List Nat := l.flatMap recB
def frontB (b : Bat) : List Nat := flagN b :: (longB b.prod ++ (epochN b / 256 :: epochN b % 256 :: (longB b.seq ++ [b.recs.length % 256])))
def bodyB (b : Bat) : List Nat := frontB b ++ recsB b.recs
def bytesB (b : Bat) : List Nat := longB b.base ++ (beB 4 (sealB (bodyB b)).length ++ sealB (bodyB b))
theorem recsB_cons (r : Rc) (l : List Rc) : recsB (r :: l) = recB r ++ recsB l := rfl
theorem recsB_snoc (l : List Rc) (r : Rc) : recsB (l ++ [r]) = recsB l ++ recB r := by simp [recsB]
theorem front_len (b : Bat) : (frontB b).length = 20 := by simp [frontB, VarMath.length_longB]
theorem text_len {s : List Nat} (hl : s.length < 9223372036854775808) : s.length + 1 ≤ (textB s).length ∧ (textB s).length ≤ s.length + 10 := by
 have := VarMath.enc_len (u := 2 * s.length) (by omega)
 unfold textB
 rw [List.length_append]
 omega
theorem rec_len {r : Rc} (h : r.key.size ≤ 64 ∧ r.val.size ≤ 64) : 2 ≤ (recB r).length ∧ (recB r).length ≤ 148 := by
 have h1 := text_len (s := bl r.key) (by rw [bl_len]; omega)
 have h2 := text_len (s := bl r.val) (by rw [bl_len]; omega)
 rw [bl_len] at h1 h2
 unfold recB
 rw [List.length_append]
 omega
theorem recs_len : ∀ {l : List Rc}, (∀ r ∈ l, r.key.size ≤ 64 ∧ r.val.size ≤ 64) → 2 * l.length ≤ (recsB l).length ∧ (recsB l).length ≤ 148 * l.length
 | [], _ => by simp [recsB]
 | r :: l, h => by
   have h1 := rec_len (h r (by simp))
   have h2 := recs_len (l := l) fun x hx => h x (by simp [hx])
   rw [recsB_cons, List.length_append, List.length_cons]
   omega
theorem body_len (b : Bat) : (bodyB b).length = 20 + (recsB b.recs).length := by unfold bodyB; rw [List.length_append, front_len]
theorem bytes_len (b : Bat) : (bytesB b).length = 36 + (recsB b.recs).length := by
 unfold bytesB
 rw [List.length_append, List.length_append, VarMath.length_longB, VarMath.length_beB, CrcMath.length_sealB, body_len]
 omega
theorem ok_len {b : Bat} (h : Ok b) : (bytesB b).length ≤ 2404 ∧ 36 ≤ (bytesB b).length := by
 have h1 := (recs_len h.texts).2
 have h2 := h.recs
 rw [bytes_len]
 omega
theorem text_all {s : List Nat} (h : AllB s) (hl : s.length < 9223372036854775808) : AllB (textB s) := by
 unfold textB
 intro x hx
 rcases List.mem_append.1 hx with h1 | h1
 · exact VarMath.enc_all (by omega) x h1
 · exact h x h1
theorem all_app {a b : List Nat} (ha : AllB a) (hb : AllB b) : AllB (a ++ b) := by
 intro x hx
 rcases List.mem_append.1 hx with h | h
 · exact ha x h
 · exact hb x h
theorem all_cons {a : Nat} {b : List Nat} (ha : a < 256) (hb : AllB b) : AllB (a :: b) := by
 intro x hx
 rcases List.mem_cons.1 hx with h | h
 · rw [h]; exact ha
 · exact hb x h
theorem all_nil : AllB [] := fun x h => by cases h
theorem rec_all {r : Rc} (h : r.key.size < 9223372036854775808 ∧ r.val.size < 9223372036854775808) : AllB (recB r) :=
 all_app (text_all (bl_all _) (by rw [bl_len]; exact h.1)) (text_all (bl_all _) (by rw [bl_len]; exact h.2))
theorem recs_all : ∀ {l : List Rc}, (∀ r ∈ l, r.key.size < 9223372036854775808 ∧ r.val.size < 9223372036854775808) → AllB (recsB l)
 | [], _ => all_nil
 | r :: l, h => by
   rw [recsB_cons]
   exact all_app (rec_all (h r (by simp))) (recs_all fun x hx => h x (by simp [hx]))
theorem flag_lt (b : Bat) : flagN b < 256 := Nat.mod_lt _ (by omega)
theorem epoch_lt (b : Bat) : epochN b < 65536 := by unfold epochN; omega
/-! reading -/
/-- p begins with what Bytes gives of b. -/
structure Good (p : List Nat) (b : Bat) : Prop where
 right : rightE b = 0
 wf : b.wf
 pre : bytesB b <+: p
/-- What a reader gives: a batch, how many bytes it takes, an error. -/
structure Out where
 b : Bat
 n : Nat
 e : Int
def lenD (p : List Nat) : Nat := unbe ((p.drop 8).take 4)
def fellD (p : List Nat) : Int := if p.length < 12 then 12 else if 4096 < lenD p + 12 then 13 else 12
/-- What is asked of a reader. -/
structure Reads (p : List Nat) (o : Out) : Prop where
 fine : o.e = 0 → Good p o.b ∧ o.n = (bytesB o.b).length
 fell : o.e ≠ 0 → o.b = Bat.zero ∧ o.n = 0 ∧ o.e = fellD p
 all : ∀ b, Good p b → o.e = 0 ∧ o.b = b
noncomputable def sizeB (b : Bat) : Int := if rightE b = 0 then ((bytesB b).length : Int) else 0
theorem getD_lt {p : List Nat} (h : AllB p) (k : Nat) : p.getD k 0 < 256 := by
 rw [List.getD_eq_getElem?_getD]
 rcases hk : p[k]? with _ | x
 · decide
 · exact h x (List.mem_of_getElem? hk)
theorem drop_all {p : List Nat} (h : AllB p) (k : Nat) : AllB (p.drop k) := fun x hx => h x (List.mem_of_mem_drop hx)
theorem take_all {p : List Nat} (h : AllB p) (k : Nat) : AllB (p.take k) := fun x hx => h x (List.mem_of_mem_take hx)
end Go.BatMath
namespace Go.ProdMath
open Go.SeqMath
open Go.BatMath
set_option linter.unusedVariables false

structure Tr where
 f : Int
 l : Int
 b : Int
structure Pd where
 id : Int
 epoch : Int
 last : List Tr
 opn : Int
def Pd.zero : Pd := ⟨0, 0, [], 0⟩
structure Dr where
 prod : Int
 first : Int
 last : Int
def Dr.zero : Dr := ⟨0, 0, 0⟩
/-- This element is the batch of these numbers. -/
def hitB (x : Tr) (s : Int) (n : Nat) : Bool := decide (x.f = s) && decide (x.l = lastI s n)
def dupL (l : List Tr) (s : Int) (n : Nat) : Option Int := (l.find? fun x => hitB x s n).map (·.b)
theorem dup_none (s : Int) (n : Nat) : dupL [] s n = none := rfl
theorem dup_hit {x : Tr} {l : List Tr} {s : Int} {n : Nat} (h : hitB x s n = true) : dupL (x :: l) s n = some x.b := by simp [dupL, h]
theorem dup_miss {x : Tr} {l : List Tr} {s : Int} {n : Nat} (h : hitB x s n = false) : dupL (x :: l) s n = dupL l s n := by simp [dupL, h]
def lastSeq (l : List Tr) : Int := match l.getLast? with | some x => x.l | none => 0
def checkD (p : Pd) (known : Bool) (b : Bat) : Int × Int :=
 if b.marker ≠ 0 then
  if known = false then (-1, 16) else if b.epoch < p.epoch then (-1, 14) else if p.opn < 0 then (-1, 16) else (-1, 0)
 else if known = false then (-1, 0)
 else if b.epoch < p.epoch then (-1, 14)
 else if p.epoch < b.epoch then
  if 0 ≤ p.opn then (-1, 16) else if b.seq ≠ 0 then (-1, 15) else (-1, 0)
 else match dupL p.last b.seq b.recs.length with
  | some n => (n, 0)
  | none =>
    if p.last ≠ [] ∧ followsB (lastSeq p.last) b.seq = false then (-1, 15)
    else if 0 ≤ p.opn ∧ b.txn = false then (-1, 16) else (-1, 0)
def oldLast (p : Pd) (known : Bool) (b : Bat) : List Tr := if known = true ∧ p.epoch = b.epoch then p.last else []
def oldOpen (p : Pd) (known : Bool) : Int := if known = true then p.opn else -1
def newLast (l : List Tr) (x : Tr) : List Tr := (l ++ [x]).drop (l.length + 1 - 5)
def applyD (p : Pd) (known : Bool) (b : Bat) : Pd :=
 if b.marker ≠ 0 then ⟨b.prod, b.epoch, oldLast p known b, -1⟩
 else ⟨b.prod, b.epoch, newLast (oldLast p known b) ⟨b.seq, lastI b.seq b.recs.length, b.base⟩, if b.txn = true ∧ oldOpen p known < 0 then b.base else oldOpen p known⟩
/-! tables -/
def atD : List Pd → Int → Nat
 | [], _ => 0
 | p :: l, id => if p.id < id then atD l id + 1 else 0
theorem atD_le : ∀ (l : List Pd) (id : Int), atD l id ≤ l.length
 | [], _ => Nat.le_refl _
 | p :: l, id => by
   unfold atD
   split
   · have := atD_le l id; simp; omega
   · exact Nat.zero_le _
theorem atD_step : ∀ (l : List Pd) (id : Int) (i : Nat) (p : Pd), i ≤ atD l id → l[i]? = some p → (p.id < id ↔ i + 1 ≤ atD l id)
 | q :: l, id, 0, p, _, h => by
   cases h
   unfold atD
   split <;> simp_all
 | q :: l, id, i + 1, p, hi, h => by
   unfold atD at hi ⊢
   split at hi
   · rename_i hq
     rw [if_pos hq]
     have := atD_step l id i p (by omega) h
     omega
   · omega
 | [], id, i, p, _, h => by cases h
def hasD (l : List Pd) (id : Int) : Bool := match l[atD l id]? with | some p => decide (p.id = id) | none => false
def getD (l : List Pd) (id : Int) : Pd := if hasD l id = true then (match l[atD l id]? with | some p => p | none => Pd.zero) else Pd.zero
noncomputable def tcheckD (l : List Pd) (b : Bat) : Int × Int :=
 if rightE b ≠ 0 then (-1, rightE b) else if b.prod < 0 then (-1, 0) else checkD (getD l b.prod) (hasD l b.prod) b
noncomputable def tapplyD (l : List Pd) (b : Bat) : List Pd :=
 if rightE b ≠ 0 ∨ b.prod < 0 then l
 else if hasD l b.prod = true then l.set (atD l b.prod) (applyD (getD l b.prod) true b)
 else l.take (atD l b.prod) ++ applyD Pd.zero false b :: l.drop (atD l b.prod)
def dropsB (l : List Pd) (b : Bat) : Bool := hasD l b.prod && (decide (b.marker = 2) && decide (0 ≤ (getD l b.prod).opn))
noncomputable def tdropD (l : List Pd) (b : Bat) : Option Dr :=
 if rightE b ≠ 0 ∨ b.prod < 0 then none
 else if dropsB l b = true then some ⟨b.prod, (getD l b.prod).opn, b.base⟩ else none
noncomputable def foldP : List Pd → List Bat → List Pd
 | l, [] => l
 | l, b :: bs => foldP (tapplyD l b) bs
noncomputable def foldR : List Pd → List Bat → List Dr
 | _, [] => []
 | l, b :: bs => (tdropD l b).toList ++ foldR (tapplyD l b) bs
theorem foldP_snoc : ∀ (l : List Pd) (bs : List Bat) (b : Bat), foldP l (bs ++ [b]) = tapplyD (foldP l bs) b
 | l, [], b => rfl
 | l, a :: bs, b => foldP_snoc (tapplyD l a) bs b
theorem foldR_snoc : ∀ (l : List Pd) (bs : List Bat) (b : Bat), foldR l (bs ++ [b]) = foldR l bs ++ (tdropD (foldP l bs) b).toList
 | l, [], b => by simp [foldR, foldP]
 | l, a :: bs, b => by
   show (tdropD l a).toList ++ foldR (tapplyD l a) (bs ++ [b]) = _
   rw [foldR_snoc (tapplyD l a) bs b, ← List.append_assoc]; rfl
/-! rows -/
def countD (b : Bat) : Int := if b.marker ≠ 0 then 1 else (b.recs.length : Int)
def endD (start : Int) (l : List Bat) : Int := match l.getLast? with | some b => b.base + countD b | none => start
noncomputable def bytesD : List Bat → Int
 | [] => 0
 | b :: l => sizeB b + bytesD l
/-- Its lengths are such that nothing is too long. -/
def fewP (l : List Pd) : Prop := ∀ p ∈ l, p.last.length ≤ 5
theorem newLast_few (l : List Tr) (x : Tr) : (newLast l x).length ≤ 5 := by unfold newLast; rw [List.length_drop, List.length_append]; simp; omega
theorem get_few {l : List Pd} (h : fewP l) (id : Int) : (getD l id).last.length ≤ 5 := by
 unfold getD
 split
 · split
   · rename_i p hp; exact h p (List.mem_of_getElem? hp)
   · exact Nat.zero_le _
 · exact Nat.zero_le _
theorem apply_few {p : Pd} (h : p.last.length ≤ 5) (k : Bool) (b : Bat) : (applyD p k b).last.length ≤ 5 := by
 unfold applyD
 split
 · unfold oldLast; split
   · exact h
   · exact Nat.zero_le _
 · exact newLast_few _ _
theorem tapply_few {l : List Pd} (h : fewP l) (b : Bat) : fewP (tapplyD l b) := by
 unfold tapplyD
 split
 · exact h
 · split
   · intro p hp
     rcases List.mem_or_eq_of_mem_set hp with h1 | h1
     · exact h p h1
     · rw [h1]; exact apply_few (get_few h _) _ _
   · intro p hp
     rcases List.mem_append.1 hp with h1 | h1
     · exact h p (List.mem_of_mem_take h1)
     · rcases List.mem_cons.1 h1 with h1 | h1
       · rw [h1]; exact apply_few (Nat.zero_le _) _ _
       · exact h p (List.mem_of_mem_drop h1)
theorem foldP_few : ∀ {l : List Pd} (bs : List Bat), fewP l → fewP (foldP l bs)
 | l, [], h => h
 | l, b :: bs, h => foldP_few bs (tapply_few h b)
theorem tapply_len (l : List Pd) (b : Bat) : (tapplyD l b).length ≤ l.length + 1 := by
 unfold tapplyD
 split
 · omega
 · split
   · simp
   · simp; have := atD_le l b.prod; omega
theorem foldP_len : ∀ (l : List Pd) (bs : List Bat), (foldP l bs).length ≤ l.length + bs.length
 | l, [] => by simp [foldP]
 | l, b :: bs => by
   have h1 := foldP_len (tapplyD l b) bs
   have h2 := tapply_len l b
   show (foldP (tapplyD l b) bs).length ≤ _
   simp; omega
end Go.ProdMath
namespace Go.ProdMath
open Go.SeqMath
open Go.BatMath
set_option linter.unusedVariables false

/-- All batches are right. -/
def RowOk (bs : List Bat) : Prop := ∀ b ∈ bs, rightE b = 0 ∧ b.wf
theorem size_bd (b : Bat) : 0 ≤ sizeB b ∧ sizeB b ≤ 2404 := by
 unfold sizeB
 split
 · rename_i h
   have := ok_len (ok_of h)
   omega
 · omega
theorem bytesD_snoc : ∀ (l : List Bat) (b : Bat), bytesD (l ++ [b]) = bytesD l + sizeB b
 | [], b => by simp [bytesD]
 | a :: l, b => by
   have := bytesD_snoc l b
   show sizeB a + bytesD (l ++ [b]) = sizeB a + bytesD l + sizeB b
   omega
theorem bytesD_bd : ∀ (l : List Bat), 0 ≤ bytesD l ∧ bytesD l ≤ 2404 * (l.length : Int)
 | [] => by simp [bytesD]
 | a :: l => by
   have h1 := bytesD_bd l
   have h2 := size_bd a
   show 0 ≤ sizeB a + bytesD l ∧ sizeB a + bytesD l ≤ _
   rw [List.length_cons]
   omega
noncomputable def putD (cap start : Int) (bs : List Bat) (b : Bat) : (Int × Int) × List Bat :=
 if (tcheckD (foldP [] bs) b).2 ≠ 0 then ((-1, (tcheckD (foldP [] bs) b).2), bs)
 else if 0 ≤ (tcheckD (foldP [] bs) b).1 then (((tcheckD (foldP [] bs) b).1, 0), bs)
 else if cap < bytesD bs + sizeB b then ((-1, 17), bs)
 else if 1099511627776 < endD start bs + countD b then ((-1, 18), bs)
 else ((b.base, 0), bs ++ [b])
noncomputable def produceD (cap start : Int) (bs : List Bat) (b : Bat) : (Int × Int) × List Bat :=
 if rightE (b.at (endD start bs)) ≠ 0 then ((-1, rightE (b.at (endD start bs))), bs)
 else if b.marker ≠ 0 then ((-1, 16), bs)
 else putD cap start bs (b.at (endD start bs))
noncomputable def markD (cap start : Int) (bs : List Bat) (p e m : Int) : (Int × Int) × List Bat :=
 if m = 0 then ((-1, 12), bs) else putD cap start bs ⟨endD start bs, p, e, -1, true, m, []⟩
theorem tcheck_right {l : List Pd} {b : Bat} (h : (tcheckD l b).2 = 0) : rightE b = 0 := by
 unfold tcheckD at h
 split at h
 · simp only at h; assumption
 · rename_i h1; exact Classical.byContradiction fun h2 => h1 h2
/-- A row that a partition may have. -/
inductive RowD (start : Int) : List Bat → Prop
 | nil : RowD start []
 | snoc {l : List Bat} {b : Bat} : RowD start l → b.base = endD start l → b.wf → (tcheckD (foldP [] l) b).2 = 0 → (tcheckD (foldP [] l) b).1 < 0 → endD start l + countD b ≤ 1099511627776 → RowD start (l ++ [b])
/-- What put does to a row that a partition may have. -/
theorem put_row {cap start : Int} {bs : List Bat} {b : Bat} (h : RowD start bs) (hb : b.base = endD start bs) (hw : b.wf) : (putD cap start bs b).2 = bs ∨ ((putD cap start bs b).2 = bs ++ [b] ∧ RowD start (bs ++ [b])) := by
 unfold putD
 split
 · exact .inl rfl
 · rename_i h1
   split
   · exact .inl rfl
   · rename_i h2
     split
     · exact .inl rfl
     · split
       · exact .inl rfl
       · rename_i h3 h4
         exact .inr ⟨rfl, RowD.snoc h hb hw (Classical.byContradiction fun h => h1 h) (by omega) (by omega)⟩
theorem rowD_ok {start : Int} {bs : List Bat} (h : RowD start bs) : RowOk bs := by
 induction h with
 | nil => intro b hb; cases hb
 | snoc _ _ h2 h1 _ _ ih =>
   intro b hb
   rcases List.mem_append.1 hb with h3 | h3
   · exact ih b h3
   · rw [List.mem_singleton.1 h3]; exact ⟨tcheck_right h1, h2⟩
theorem end_last {start : Int} {bs : List Bat} {b : Bat} (h : bs.getLast? = some b) : endD start bs = b.base + countD b := by unfold endD; rw [h]
theorem rowD_end {start : Int} {bs : List Bat} (h : RowD start bs) (h0 : 0 ≤ start) (h1 : start ≤ 1099511627776) : 0 ≤ endD start bs ∧ endD start bs ≤ 1099511627776 := by
 cases h with
 | nil => exact ⟨h0, h1⟩
 | @snoc l b h2 hb hw hr hc he =>
   rw [end_last (b := b) (by simp), hb]
   have := ok_of (tcheck_right hr)
   have h3 := this.base0
   have h4 : 0 ≤ countD b := by unfold countD; split <;> omega
   omega
end Go.ProdMath
namespace Go.ProdMath
open Go.SeqMath
open Go.BatMath
set_option linter.unusedVariables false

/-- In ascending order. -/
def Asc (l : List Pd) : Prop := l.Pairwise fun a b => a.id < b.id
def lookD (l : List Pd) (k : Int) : Option Pd := l.find? fun p => decide (p.id = k)
/-- Put in its place, or in the place of the one of its number. -/
def insD : List Pd → Pd → List Pd
 | [], x => [x]
 | p :: l, x => if p.id < x.id then p :: insD l x else if p.id = x.id then x :: l else x :: p :: l
theorem look_cons (p : Pd) (l : List Pd) (k : Int) : lookD (p :: l) k = if p.id = k then some p else lookD l k := by
 unfold lookD
 rw [List.find?_cons]
 by_cases h : p.id = k
 · rw [if_pos h, decide_eq_true h]
 · rw [if_neg h, decide_eq_false h]
theorem look_above {l : List Pd} {k : Int} (h : ∀ p ∈ l, k < p.id) : lookD l k = none := by
 unfold lookD
 rw [List.find?_eq_none]
 intro p hp
 have := h p hp
 simp; omega
theorem look_id {l : List Pd} {k : Int} {p : Pd} (h : lookD l k = some p) : p.id = k ∧ p ∈ l := by
 unfold lookD at h
 exact ⟨by simpa using List.find?_some h, List.mem_of_find?_eq_some h⟩
theorem asc_tail {p : Pd} {l : List Pd} (h : Asc (p :: l)) : Asc l := (List.pairwise_cons.1 h).2
theorem asc_head {p : Pd} {l : List Pd} (h : Asc (p :: l)) : ∀ q ∈ l, p.id < q.id := (List.pairwise_cons.1 h).1
/-- What the document's own look-up finds. -/
theorem has_look : ∀ {l : List Pd} (h : Asc l) (k : Int), hasD l k = (lookD l k).isSome ∧ getD l k = (lookD l k).getD Pd.zero
 | [], _, k => ⟨rfl, rfl⟩
 | p :: l, h, k => by
   have ih := has_look (asc_tail h) k
   rw [look_cons]
   by_cases h1 : p.id < k
   · rw [if_neg (by omega)]
     have e1 : hasD (p :: l) k = hasD l k := by
      unfold hasD
      rw [show atD (p :: l) k = atD l k + 1 from by rw [atD, if_pos h1]]
      rfl
     have e2 : getD (p :: l) k = getD l k := by
      unfold getD
      rw [e1, show atD (p :: l) k = atD l k + 1 from by rw [atD, if_pos h1]]
      rfl
     rw [e1, e2]
     exact ih
   · have e0 : atD (p :: l) k = 0 := by rw [atD, if_neg h1]
     by_cases h2 : p.id = k
     · rw [if_pos h2]
       have e1 : hasD (p :: l) k = true := by
        unfold hasD
        rw [e0]
        show decide (p.id = k) = true
        exact decide_eq_true h2
       refine ⟨by rw [e1]; rfl, ?_⟩
       unfold getD
       rw [e1, e0]; rfl
     · rw [if_neg h2]
       have e1 : hasD (p :: l) k = false := by
        unfold hasD
        rw [e0]
        show decide (p.id = k) = false
        exact decide_eq_false h2
       have e3 : lookD l k = none := look_above fun q hq => by have := asc_head h q hq; omega
       rw [e3]
       refine ⟨e1, ?_⟩
       unfold getD
       rw [e1]; rfl
theorem ins_ids : ∀ (l : List Pd) (x : Pd) (q : Pd), q ∈ insD l x → q = x ∨ q ∈ l
 | [], x, q, h => .inl (by simpa [insD] using h)
 | p :: l, x, q, h => by
   unfold insD at h
   split at h
   · rcases List.mem_cons.1 h with h | h
     · exact .inr (by simp [h])
     · rcases ins_ids l x q h with h | h
       · exact .inl h
       · exact .inr (by simp [h])
   · split at h
     · rcases List.mem_cons.1 h with h | h
       · exact .inl h
       · exact .inr (by simp [h])
     · rcases List.mem_cons.1 h with h | h
       · exact .inl h
       · exact .inr h
theorem ins_asc : ∀ {l : List Pd} (x : Pd), Asc l → Asc (insD l x)
 | [], x, _ => List.pairwise_singleton _ _
 | p :: l, x, h => by
   unfold insD
   split
   · rename_i h1
     refine List.pairwise_cons.2 ⟨fun q hq => ?_, ins_asc x (asc_tail h)⟩
     rcases ins_ids l x q hq with e | e
     · rw [e]; exact h1
     · exact asc_head h q e
   · rename_i h1
     split
     · rename_i h2
       exact List.pairwise_cons.2 ⟨fun q hq => by have := asc_head h q hq; omega, asc_tail h⟩
     · rename_i h2
       refine List.pairwise_cons.2 ⟨fun q hq => ?_, h⟩
       rcases List.mem_cons.1 hq with e | e
       · rw [e]; omega
       · have := asc_head h q e; omega
theorem apply_id (p : Pd) (k : Bool) (b : Bat) : (applyD p k b).id = b.prod := by
 unfold applyD
 split <;> rfl
/-- What a batch turns: its producer's state alone. -/
theorem tapply_ins : ∀ {l : List Pd} (h : Asc l) (b : Bat), rightE b = 0 → 0 ≤ b.prod → tapplyD l b = insD l (applyD ((lookD l b.prod).getD Pd.zero) (lookD l b.prod).isSome b) := by
 intro l h b h0 h1
 have hl := has_look h b.prod
 unfold tapplyD
 rw [if_neg (by omega)]
 have key : ∀ (l : List Pd) (x : Pd), x.id = b.prod → Asc l → (if hasD l b.prod = true then l.set (atD l b.prod) x else l.take (atD l b.prod) ++ x :: l.drop (atD l b.prod)) = insD l x := by
  intro l
  induction l with
  | nil => intro x hx _; rfl
  | cons p l ih =>
    intro x hx ha
    have hi := ih x hx (asc_tail ha)
    have hh := has_look ha b.prod
    have hh2 := has_look (asc_tail ha) b.prod
    by_cases h2 : p.id < b.prod
    · rw [show atD (p :: l) b.prod = atD l b.prod + 1 from by rw [atD, if_pos h2]]
      have e1 : hasD (p :: l) b.prod = hasD l b.prod := by rw [hh.1, hh2.1, look_cons, if_neg (by omega)]
      have e2 : insD (p :: l) x = p :: insD l x := by rw [insD, if_pos (show p.id < x.id by omega)]
      rw [e1, e2, ← hi]
      cases hasD l b.prod
      · rfl
      · rfl
    · rw [show atD (p :: l) b.prod = 0 from by rw [atD, if_neg h2]]
      by_cases h3 : p.id = b.prod
      · have e1 : hasD (p :: l) b.prod = true := by rw [hh.1, look_cons, if_pos h3]; rfl
        have e2 : insD (p :: l) x = x :: l := by rw [insD, if_neg (show ¬ p.id < x.id by omega), if_pos (show p.id = x.id by omega)]
        rw [e1, e2]; rfl
      · have e1 : hasD (p :: l) b.prod = false := by
         rw [hh.1, look_cons, if_neg h3, look_above fun q hq => by have := asc_head ha q hq; omega]; rfl
        have e2 : insD (p :: l) x = x :: p :: l := by rw [insD, if_neg (show ¬ p.id < x.id by omega), if_neg (show ¬ p.id = x.id by omega)]
        rw [e1, e2]; rfl
 have k1 := key l (applyD ((lookD l b.prod).getD Pd.zero) (lookD l b.prod).isSome b) (apply_id _ _ _) h
 rw [← k1]
 split
 · rename_i hs
   rw [hl.2]
   rw [hl.1] at hs
   rw [hs]
 · rename_i hs
   rw [hl.1] at hs
   have hn : lookD l b.prod = none := by cases hq : lookD l b.prod <;> simp_all
   rw [hn]; rfl
theorem tapply_no {l : List Pd} {b : Bat} (h : rightE b ≠ 0 ∨ b.prod < 0) : tapplyD l b = l := by unfold tapplyD; rw [if_pos h]
theorem tapply_asc {l : List Pd} (h : Asc l) (b : Bat) : Asc (tapplyD l b) := by
 by_cases h0 : rightE b ≠ 0 ∨ b.prod < 0
 · rw [tapply_no h0]; exact h
 · rw [tapply_ins h b (Classical.byContradiction fun h1 => h0 (.inl h1)) (by omega)]
   exact ins_asc _ h
theorem fold_asc : ∀ {l : List Pd} (bs : List Bat), Asc l → Asc (foldP l bs)
 | l, [], h => h
 | l, b :: bs, h => fold_asc bs (tapply_asc h b)
end Go.ProdMath
namespace Go.ProdMath
open Go.SeqMath
open Go.BatMath
set_option linter.unusedVariables false

def TrOk (x : Tr) : Prop := 0 ≤ gapI x.f x.l ∧ gapI x.f x.l < 16 ∧ 0 ≤ x.b ∧ x.b ≤ 1099511627776
def TrNext (y x : Tr) : Prop := y.b < x.b ∧ followsB y.l x.f = true
def StepOk (l : List Tr) (j : Nat) : Prop := ∀ x, l[j]? = some x → TrOk x ∧ ∀ y, 0 < j → l[j - 1]? = some y → TrNext y x
def RightP (p : Pd) : Prop := (0 ≤ p.id ∧ 0 ≤ p.epoch ∧ p.epoch ≤ 32767 ∧ -1 ≤ p.opn ∧ p.opn ≤ 1099511627776 ∧ p.last.length ≤ 5) ∧ ∀ j, StepOk p.last j
/-! rows of batches that follow one another -/
end Go.ProdMath
namespace Go.SnapMath
open Go.ProdMath
open Go.BatMath (In64)
open Go.VarMath (encN getB getB_encN enc_len enc_all zig zig_lt encU AllB)
set_option linter.unusedVariables false

theorem encN_len {n : Int} (h : In64 n) : 1 ≤ (encN n).length ∧ (encN n).length ≤ 10 := enc_len (zig_lt h.1 h.2)
theorem encN_all {n : Int} (h : In64 n) : AllB (encN n) := enc_all (zig_lt h.1 h.2)
def trS (x : Tr) : List Nat := encN x.f ++ (encN x.l ++ encN x.b)
def trsS : List Tr → List Nat
 | [] => []
 | x :: l => trS x ++ trsS l
def pdS (p : Pd) : List Nat := encN p.id ++ (encN p.epoch ++ (encN p.opn ++ (encN (p.last.length : Int) ++ trsS p.last)))
def pdsS : List Pd → List Nat
 | [] => []
 | p :: l => pdS p ++ pdsS l
def bodyS (l : List Pd) (n : Int) : List Nat := encN n ++ (encN (l.length : Int) ++ pdsS l)
def snapS (l : List Pd) (n : Int) : List Nat := CrcMath.sealB (bodyS l n)
def TrIn (x : Tr) : Prop := In64 x.f ∧ In64 x.l ∧ In64 x.b
def PdIn (p : Pd) : Prop := In64 p.id ∧ In64 p.epoch ∧ In64 p.opn ∧ p.last.length ≤ 1000000 ∧ ∀ x ∈ p.last, TrIn x
def PdsIn (l : List Pd) : Prop := l.length ≤ 1000000 ∧ ∀ p ∈ l, PdIn p
theorem in_nat {n : Nat} (h : n ≤ 1000000) : In64 (n : Int) := ⟨by omega, by omega⟩
theorem trS_all {x : Tr} (h : TrIn x) : AllB (trS x) := fun y hy => by
 unfold trS at hy
 rcases List.mem_append.1 hy with hy | hy
 · exact encN_all h.1 y hy
 · rcases List.mem_append.1 hy with hy | hy
   · exact encN_all h.2.1 y hy
   · exact encN_all h.2.2 y hy
theorem trsS_all : ∀ {l : List Tr} (h : ∀ x ∈ l, TrIn x), AllB (trsS l)
 | [], _, y, hy => by cases hy
 | x :: l, h, y, hy => by
   rcases List.mem_append.1 (show y ∈ trS x ++ trsS l from hy) with hy | hy
   · exact trS_all (h x (by simp)) y hy
   · exact trsS_all (fun z hz => h z (by simp [hz])) y hy
theorem pdS_all {p : Pd} (h : PdIn p) : AllB (pdS p) := fun y hy => by
 unfold pdS at hy
 obtain ⟨h1, h2, h3, h4, h5⟩ := h
 rcases List.mem_append.1 hy with hy | hy
 · exact encN_all h1 y hy
 rcases List.mem_append.1 hy with hy | hy
 · exact encN_all h2 y hy
 rcases List.mem_append.1 hy with hy | hy
 · exact encN_all h3 y hy
 rcases List.mem_append.1 hy with hy | hy
 · exact encN_all (in_nat h4) y hy
 · exact trsS_all h5 y hy
theorem pdsS_all : ∀ {l : List Pd} (h : ∀ p ∈ l, PdIn p), AllB (pdsS l)
 | [], _, y, hy => by cases hy
 | x :: l, h, y, hy => by
   rcases List.mem_append.1 (show y ∈ pdS x ++ pdsS l from hy) with hy | hy
   · exact pdS_all (h x (by simp)) y hy
   · exact pdsS_all (fun z hz => h z (by simp [hz])) y hy
theorem bodyS_all {l : List Pd} {n : Int} (h : PdsIn l) (hn : In64 n) : AllB (bodyS l n) := fun y hy => by
 unfold bodyS at hy
 rcases List.mem_append.1 hy with hy | hy
 · exact encN_all hn y hy
 rcases List.mem_append.1 hy with hy | hy
 · exact encN_all (in_nat h.1) y hy
 · exact pdsS_all h.2 y hy
end Go.SnapMath
namespace Go.SnapMath
open Go.ProdMath
open Go.BatMath (In64)
open Go.VarMath (encN getB getB_encN getB_bounds AllB)
set_option linter.unusedVariables false

/-- One step: the number, what is left, whether it fell. -/
def rdN (bs : List Nat) (fell : Bool) : Int × List Nat × Bool := if fell = true ∨ (getB bs).2 = 0 then (0, bs, true) else ((getB bs).1, bs.drop (getB bs).2, false)
theorem rdN_no {bs : List Nat} {fell : Bool} (h : fell = true ∨ (getB bs).2 = 0) : rdN bs fell = (0, bs, true) := if_pos h
theorem rdN_yes {bs : List Nat} {n : Int} {j : Nat} (hg : getB bs = (n, j)) (h : j ≠ 0) : rdN bs false = (n, bs.drop j, false) := by
 unfold rdN
 rw [if_neg (by rw [hg]; rintro (h1 | h1); cases h1; exact h h1), hg]
theorem rdN_enc {n : Int} (h : In64 n) (r : List Nat) : rdN (encN n ++ r) false = (n, r, false) := by
 have h1 := getB_encN h.1 h.2 r
 have h2 := (encN_len h).1
 rw [rdN_yes h1 (by omega), List.drop_left]
theorem rdN_in (bs : List Nat) (f : Bool) : In64 (rdN bs f).1 := by
 unfold rdN
 split
 · exact in_nat (n := 0) (by omega)
 · exact ⟨(getB_bounds bs).2.2.1, (getB_bounds bs).2.2.2⟩
theorem rdN_len (bs : List Nat) (f : Bool) : (rdN bs f).2.1.length ≤ bs.length ∧ ((rdN bs f).2.2 = false → f = false ∧ (rdN bs f).2.1.length + 1 ≤ bs.length) := by
 unfold rdN
 split
 · exact ⟨Nat.le_refl _, fun h => by cases h⟩
 · rename_i hn
   have h1 := (getB_bounds bs).2.1
   refine ⟨by rw [List.length_drop]; omega, fun _ => ⟨by cases f; rfl; exact absurd (Or.inl rfl) hn, ?_⟩⟩
   have h2 : (getB bs).2 ≠ 0 := fun e => hn (Or.inr e)
   show (bs.drop _).length + 1 ≤ _
   rw [List.length_drop]
   omega
def rdTr (bs : List Nat) (f : Bool) : Tr × List Nat × Bool :=
 (⟨(rdN bs f).1, (rdN (rdN bs f).2.1 (rdN bs f).2.2).1, (rdN (rdN (rdN bs f).2.1 (rdN bs f).2.2).2.1 (rdN (rdN bs f).2.1 (rdN bs f).2.2).2.2).1⟩, (rdN (rdN (rdN bs f).2.1 (rdN bs f).2.2).2.1 (rdN (rdN bs f).2.1 (rdN bs f).2.2).2.2).2)
theorem rdTr_of {bs b1 b2 b3 : List Nat} {f f1 f2 f3 : Bool} {x y z : Int} (h1 : rdN bs f = (x, b1, f1)) (h2 : rdN b1 f1 = (y, b2, f2)) (h3 : rdN b2 f2 = (z, b3, f3)) : rdTr bs f = (⟨x, y, z⟩, b3, f3) := by
 unfold rdTr
 rw [h1, h2, h3]
theorem rdTr_len (bs : List Nat) (f : Bool) : (rdTr bs f).2.1.length ≤ bs.length ∧ ((rdTr bs f).2.2 = false → f = false ∧ (rdTr bs f).2.1.length + 3 ≤ bs.length) := by
 obtain ⟨⟨x, b1, f1⟩, h1⟩ : ∃ r, rdN bs f = r := ⟨_, rfl⟩
 obtain ⟨⟨y, b2, f2⟩, h2⟩ : ∃ r, rdN b1 f1 = r := ⟨_, rfl⟩
 obtain ⟨⟨z, b3, f3⟩, h3⟩ : ∃ r, rdN b2 f2 = r := ⟨_, rfl⟩
 have a1 := rdN_len bs f
 have a2 := rdN_len b1 f1
 have a3 := rdN_len b2 f2
 rw [h1] at a1
 rw [h2] at a2
 rw [h3] at a3
 rw [rdTr_of h1 h2 h3]
 simp only at *
 refine ⟨by omega, fun e => ?_⟩
 have c3 := a3.2 e
 have c2 := a2.2 c3.1
 have c1 := a1.2 c2.1
 exact ⟨c1.1, by omega⟩
theorem rdTr_enc {x : Tr} (h : TrIn x) (r : List Nat) : rdTr (trS x ++ r) false = (x, r, false) := by
 unfold trS
 rw [List.append_assoc, List.append_assoc]
 exact rdTr_of (rdN_enc h.1 _) (rdN_enc h.2.1 _) (rdN_enc h.2.2 _)
def rdTrs : Nat → List Nat → Bool → List Tr × List Nat × Bool
 | 0, bs, f => ([], bs, f)
 | k + 1, bs, f => if f = true then ([], bs, f) else ((rdTr bs f).1 :: (rdTrs k (rdTr bs f).2.1 (rdTr bs f).2.2).1, (rdTrs k (rdTr bs f).2.1 (rdTr bs f).2.2).2)
theorem rdTrs_succ (k : Nat) (bs : List Nat) {x : Tr} {b : List Nat} {f : Bool} (h : rdTr bs false = (x, b, f)) : rdTrs (k + 1) bs false = (x :: (rdTrs k b f).1, (rdTrs k b f).2) := by
 show (if false = true then _ else _) = _
 rw [if_neg (by decide), h]
theorem rdTrs_enc : ∀ {l : List Tr} (h : ∀ x ∈ l, TrIn x) (r : List Nat), rdTrs l.length (trsS l ++ r) false = (l, r, false)
 | [], _, r => rfl
 | x :: l, h, r => by
   have h1 : rdTr (trS x ++ trsS l ++ r) false = (x, trsS l ++ r, false) := by
    rw [List.append_assoc]
    exact rdTr_enc (h x (by simp)) _
   show rdTrs (l.length + 1) (trS x ++ trsS l ++ r) false = _
   rw [rdTrs_succ _ _ h1, rdTrs_enc (fun y hy => h y (by simp [hy]))]
def rdPd (bs : List Nat) (f : Bool) : Pd × List Nat × Bool :=
 let a := rdN bs f
 let b := rdN a.2.1 a.2.2
 let c := rdN b.2.1 b.2.2
 let d := rdN c.2.1 c.2.2
 let e := rdTrs d.1.toNat d.2.1 d.2.2
 (⟨a.1, b.1, e.1, c.1⟩, e.2)
theorem rdPd_of {bs b1 b2 b3 b4 b5 : List Nat} {f f1 f2 f3 f4 f5 : Bool} {x y z k : Int} {l : List Tr} (h1 : rdN bs f = (x, b1, f1)) (h2 : rdN b1 f1 = (y, b2, f2)) (h3 : rdN b2 f2 = (z, b3, f3)) (h4 : rdN b3 f3 = (k, b4, f4)) (h5 : rdTrs k.toNat b4 f4 = (l, b5, f5)) :
 rdPd bs f = (⟨x, y, l, z⟩, b5, f5) := by
 unfold rdPd
 simp only [h1, h2, h3, h4, h5]
theorem rdPd_enc {p : Pd} (h : PdIn p) (r : List Nat) : rdPd (pdS p ++ r) false = (p, r, false) := by
 obtain ⟨g1, g2, g3, g4, g5⟩ := h
 unfold pdS
 rw [List.append_assoc, List.append_assoc, List.append_assoc, List.append_assoc]
 refine rdPd_of (rdN_enc g1 _) (rdN_enc g2 _) (rdN_enc g3 _) (rdN_enc (in_nat g4) _) ?_
 rw [Int.toNat_natCast]
 exact rdTrs_enc g5 _
noncomputable def okP (p : Pd) : Bool := @decide (RightP p) (Classical.propDecidable _)
theorem okP_iff (p : Pd) : okP p = true ↔ RightP p := by unfold okP; exact @decide_eq_true_iff _ (Classical.propDecidable _)
def lastId (acc : List Pd) (p : Pd) : Bool := match acc.getLast? with
 | none => true
 | some q => decide (q.id < p.id)
noncomputable def rdPds : Nat → List Pd → List Nat → Bool → Option (List Pd × List Nat × Bool)
 | 0, acc, bs, f => some (acc, bs, f)
 | n + 1, acc, bs, f => if f = true then some (acc, bs, f) else if (okP (rdPd bs f).1 && lastId acc (rdPd bs f).1) = true then rdPds n (acc ++ [(rdPd bs f).1]) (rdPd bs f).2.1 (rdPd bs f).2.2 else none
theorem rdPds_yes {n : Nat} {acc : List Pd} {bs b : List Nat} {p : Pd} {f : Bool} (h : rdPd bs false = (p, b, f)) (hp : okP p = true) (ha : lastId acc p = true) : rdPds (n + 1) acc bs false = rdPds n (acc ++ [p]) b f := by
 show (if false = true then _ else _) = _
 rw [if_neg (by decide), h]
 show (if (okP p && lastId acc p) = true then _ else _) = _
 rw [hp, ha]
 rfl
theorem asc_snoc {acc : List Pd} {p : Pd} (h : Asc acc) (ha : lastId acc p = true) : Asc (acc ++ [p]) := by
 unfold Asc at *
 refine List.pairwise_append.2 ⟨h, List.pairwise_singleton _ _, fun a hm b hb => ?_⟩
 rw [List.mem_singleton] at hb
 subst hb
 rcases List.eq_nil_or_concat acc with e | ⟨i, q, e⟩
 · rw [e] at hm; cases hm
 · subst e
   unfold lastId at ha
   rw [List.concat_eq_append, List.getLast?_append, List.getLast?_singleton] at ha
   have hq : q.id < b.id := of_decide_eq_true ha
   rw [List.concat_eq_append] at h hm
   rcases List.mem_append.1 hm with hm | hm
   · have := (List.pairwise_append.1 h).2.2 a hm q (by simp)
     omega
   · rw [List.mem_singleton] at hm
     rw [hm]
     exact hq
theorem last_asc {acc l : List Pd} {p : Pd} (h : Asc (acc ++ p :: l)) : lastId acc p = true := by
 unfold lastId
 cases hg : acc.getLast? with
 | none => rfl
 | some q =>
   have hq : q ∈ acc := List.mem_of_getLast? hg
   exact decide_eq_true ((List.pairwise_append.1 h).2.2 q hq p (by simp))
theorem rdPds_enc : ∀ (l acc : List Pd) (h : ∀ p ∈ l, PdIn p) (hr : ∀ p ∈ l, RightP p) (ha : Asc (acc ++ l)) (r : List Nat), rdPds l.length acc (pdsS l ++ r) false = some (acc ++ l, r, false)
 | [], acc, _, _, _, r => by rw [List.append_nil]; rfl
 | p :: l, acc, h, hr, ha, r => by
   have h1 : rdPd (pdS p ++ pdsS l ++ r) false = (p, pdsS l ++ r, false) := by
    rw [List.append_assoc]
    exact rdPd_enc (h p (by simp)) _
   show rdPds (l.length + 1) acc (pdS p ++ pdsS l ++ r) false = _
   rw [rdPds_yes h1 ((okP_iff p).2 (hr p (by simp))) (last_asc ha)]
   have e : acc ++ p :: l = (acc ++ [p]) ++ l := by rw [List.append_assoc]; rfl
   rw [e] at ha ⊢
   exact rdPds_enc l _ (fun q hq => h q (by simp [hq])) (fun q hq => hr q (by simp [hq])) ha r
/-- What reading gives: what stands behind the sum, whether the sum is another. -/
def openS (bs : List Nat) : List Nat × Bool := if CrcMath.okB bs = true then (bs.drop 4, false) else ([], true)
noncomputable def rdAll (bs : List Nat) : Int × Option (List Pd × List Nat × Bool) :=
 let a := rdN (openS bs).1 (openS bs).2
 let c := rdN a.2.1 a.2.2
 (a.1, rdPds c.1.toNat [] c.2.1 c.2.2)
theorem rdAll_of {bs b1 b2 : List Nat} {f1 f2 : Bool} {n k : Int} (h1 : rdN (openS bs).1 (openS bs).2 = (n, b1, f1)) (h2 : rdN b1 f1 = (k, b2, f2)) : rdAll bs = (n, rdPds k.toNat [] b2 f2) := by
 unfold rdAll
 simp only [h1, h2]
theorem trS_pos {p : Pd} (h : PdIn p) : 4 ≤ (pdS p).length := by
 obtain ⟨g1, g2, g3, g4, g5⟩ := h
 have h1 := (encN_len g1).1
 have h2 := (encN_len g2).1
 have h3 := (encN_len g3).1
 have h4 := (encN_len (in_nat g4)).1
 unfold pdS
 simp only [List.length_append]
 omega
theorem pdsS_pos : ∀ {l : List Pd} (h : ∀ p ∈ l, PdIn p), 4 * l.length ≤ (pdsS l).length
 | [], _ => Nat.le_refl _
 | p :: l, h => by
   have h1 := trS_pos (h p (by simp))
   have h2 := pdsS_pos (l := l) fun q hq => h q (by simp [hq])
   show _ ≤ (pdS p ++ pdsS l).length
   rw [List.length_append, List.length_cons]
   omega
theorem tr_in {x : Tr} (h : TrOk x) : TrIn x := by
 obtain ⟨h1, _, h3, h4⟩ := h
 have hb : SeqMath.rightB x.f = true ∧ SeqMath.rightB x.l = true := by
  rcases Classical.em (SeqMath.rightB x.f = true ∧ SeqMath.rightB x.l = true) with h | h
  · exact h
  · unfold SeqMath.gapI at h1
    rw [if_neg h] at h1
    omega
 have hr : ∀ n : Int, SeqMath.rightB n = true → 0 ≤ n ∧ n ≤ 2147483647 := fun n hn => by
  unfold SeqMath.rightB at hn
  simpa using hn
 have c1 := hr _ hb.1
 have c2 := hr _ hb.2
 exact ⟨⟨by omega, by omega⟩, ⟨by omega, by omega⟩, ⟨by omega, by omega⟩⟩
theorem right_in {p : Pd} (h : RightP p) (hi : In64 p.id) : PdIn p := by
 obtain ⟨⟨h1, h2, h3, h4, h5, h6⟩, hs⟩ := h
 refine ⟨hi, ⟨by omega, by omega⟩, ⟨by omega, by omega⟩, by omega, fun x hx => ?_⟩
 obtain ⟨j, hj⟩ := List.mem_iff_getElem?.1 hx
 exact tr_in (hs j x hj).1
/-- What the list holds at every round. -/
structure AccOk (acc : List Pd) : Prop where
 right : ∀ p ∈ acc, RightP p
 ids : ∀ p ∈ acc, In64 p.id
 asc : Asc acc
theorem AccOk.nil : AccOk [] := ⟨fun p h => (by cases h), fun p h => (by cases h), List.Pairwise.nil⟩
theorem AccOk.snoc {acc : List Pd} {p : Pd} (h : AccOk acc) (hp : RightP p) (hi : In64 p.id) (ha : lastId acc p = true) : AccOk (acc ++ [p]) := by
 refine ⟨fun q hq => ?_, fun q hq => ?_, asc_snoc h.asc ha⟩
 · rcases List.mem_append.1 hq with hq | hq
   · exact h.right q hq
   · rw [List.mem_singleton] at hq
     rw [hq]
     exact hp
 · rcases List.mem_append.1 hq with hq | hq
   · exact h.ids q hq
   · rw [List.mem_singleton] at hq
     rw [hq]
     exact hi
theorem AccOk.pdIn {acc : List Pd} (h : AccOk acc) : ∀ p ∈ acc, PdIn p := fun p hp => right_in (h.right p hp) (h.ids p hp)
theorem AccOk.few {acc : List Pd} (h : AccOk acc) : ∀ p ∈ acc, p.last.length ≤ 5 := fun p hp => (h.right p hp).1.2.2.2.2.2
/-- Bytes that are a table's and a number's. -/
def IsSnap (bs : List Nat) (l : List Pd) (n : Int) : Prop := AccOk l ∧ (0 ≤ n ∧ n ≤ 1099511627776) ∧ bs = snapS l n
theorem snap_few {l : List Pd} {n : Int} (h : AccOk l) : 4 * l.length ≤ (snapS l n).length := by
 have := pdsS_pos h.pdIn
 unfold snapS bodyS
 rw [CrcMath.length_sealB, List.length_append, List.length_append]
 omega
theorem IsSnap.rd {bs : List Nat} {l : List Pd} {n : Int} (h : IsSnap bs l n) (hL : bs.length ≤ 1048600) : rdAll bs = (n, some (l, [], false)) := by
 obtain ⟨ha, hn, e⟩ := h
 have h4 := snap_few (n := n) ha
 rw [← e] at h4
 have hin : PdsIn l := ⟨by omega, ha.pdIn⟩
 have hn64 : In64 n := ⟨by omega, by omega⟩
 have hok : CrcMath.okB bs = true := by
  rw [e]
  exact CrcMath.okB_seal (bodyS_all hin hn64)
 have ho : openS bs = (bodyS l n, false) := by
  unfold openS
  rw [if_pos hok, e]
  unfold snapS
  rw [CrcMath.drop_sealB]
 have h1 : rdN (openS bs).1 (openS bs).2 = (n, encN (l.length : Int) ++ pdsS l, false) := by
  rw [ho]
  exact rdN_enc hn64 _
 have h2 := rdN_enc (in_nat hin.1) (pdsS l)
 rw [rdAll_of h1 h2, Int.toNat_natCast]
 have h3 := rdPds_enc l [] hin.2 ha.right ha.asc []
 rw [List.append_nil] at h3
 rw [h3]
 rfl
theorem rd_none {bs : List Nat} {n : Int} (h : rdAll bs = (n, none)) (hL : bs.length ≤ 1048600) : ∀ l m, ¬ IsSnap bs l m := fun l m hs => by
 rw [hs.rd hL] at h
 cases h
end Go.SnapMath
namespace Go.SnapMath
open Go.ProdMath
open Go.BatMath (In64 Bat Ok ok_of rightE head_of headB noneB none_of)
open Go.SeqMath (gapI followsB lastI addI)
set_option linter.unusedVariables false

/-- A state that what stood below e may have left. -/
structure StOk (e : Int) (p : Pd) : Prop where
 right : RightP p
 last : ∀ x ∈ p.last, x.b < e
theorem StOk.up {e e' : Int} {p : Pd} (h : StOk e p) (he : e ≤ e') : StOk e' p := ⟨h.right, fun x hx => by have := h.last x hx; omega⟩
theorem lt_len {l : List Tr} {j : Nat} {x : Tr} (h : l[j]? = some x) : j < l.length := (List.getElem?_eq_some_iff.1 h).1
theorem step_snoc {l : List Tr} {x : Tr} (h : ∀ j, StepOk l j) (hx : TrOk x) (hn : ∀ y, l.getLast? = some y → TrNext y x) : ∀ j, StepOk (l ++ [x]) j := fun j z hz => by
 have hj := lt_len hz
 rw [List.length_append, List.length_singleton] at hj
 by_cases hlt : j < l.length
 · rw [List.getElem?_append_left hlt] at hz
   refine ⟨(h j z hz).1, fun y h0 hy => ?_⟩
   rw [List.getElem?_append_left (by omega)] at hy
   exact (h j z hz).2 y h0 hy
 · have hje : j = l.length := by omega
   subst hje
   rw [List.getElem?_append_right (Nat.le_refl _), Nat.sub_self] at hz
   cases hz
   refine ⟨hx, fun y h0 hy => hn y ?_⟩
   rw [List.getElem?_append_left (by omega)] at hy
   rw [List.getLast?_eq_getElem?]
   exact hy
theorem step_drop {l : List Tr} (h : ∀ j, StepOk l j) (d : Nat) : ∀ j, StepOk (l.drop d) j := fun j z hz => by
 rw [List.getElem?_drop] at hz
 refine ⟨(h _ z hz).1, fun y h0 hy => ?_⟩
 rw [List.getElem?_drop] at hy
 refine (h _ z hz).2 y (by omega) ?_
 rw [show d + j - 1 = d + (j - 1) by omega]
 exact hy
theorem tr_ok {s base : Int} {n : Nat} (s0 : 0 ≤ s) (s1 : s ≤ 2147483647) (n1 : 1 ≤ n) (n2 : n ≤ 16) (b0 : 0 ≤ base) (b1 : base ≤ 1099511627776) : TrOk ⟨s, lastI s n, base⟩ := by
 have hl : lastI s n = addI s ((n : Int) - 1) := by unfold lastI; rw [if_pos ⟨by omega, by omega⟩]
 have hg : gapI s (lastI s n) = (n : Int) - 1 := by rw [hl]; exact SeqMath.gap_add s0 s1 (by omega) (by omega)
 refine ⟨?_, ?_, b0, b1⟩
 · show 0 ≤ gapI s (lastI s n); omega
 · show gapI s (lastI s n) < 16; omega
/-- A right batch of a producer, with its records. -/
theorem data_ok {b : Bat} (h : rightE b = 0) (hm : b.marker = 0) (hp : 0 ≤ b.prod) : 0 ≤ b.seq ∧ 1 ≤ b.recs.length := by
 unfold rightE at h
 split at h
 · omega
 · split at h
   · rename_i h1; exact absurd hm h1
   · split at h
     · rename_i h1
       obtain ⟨h1, h2⟩ := h1
       refine ⟨?_, List.length_pos_iff.2 h2⟩
       rcases h1 with h1 | h1
       · have := (none_of h1).1; omega
       · have := SeqMath.of_right h1.2; omega
     · omega
theorem epoch_ok {b : Bat} (h : rightE b = 0) (hp : 0 ≤ b.prod) : 0 ≤ b.epoch := by
 unfold rightE at h
 split at h
 · omega
 · split at h
   · split at h
     · rename_i h1; exact (head_of h1.2.1).2.1
     · omega
   · split at h
     · rename_i h1
       rcases h1.1 with h1 | h1
       · have := (none_of h1).1; omega
       · exact (head_of h1.1).2.1
     · omega
theorem old_ok {e : Int} {p : Pd} {known : Bool} (b : Bat) (h : known = true → StOk e p) : (∀ j, StepOk (oldLast p known b) j) ∧ (oldLast p known b).length ≤ 5 ∧ (∀ x ∈ oldLast p known b, x.b < e) ∧ -1 ≤ oldOpen p known ∧ oldOpen p known ≤ 1099511627776 := by
 have ho : -1 ≤ oldOpen p known ∧ oldOpen p known ≤ 1099511627776 := by
  unfold oldOpen
  split
  · rename_i hk
    exact ⟨(h hk).right.1.2.2.2.1, (h hk).right.1.2.2.2.2.1⟩
  · exact ⟨by decide, by decide⟩
 by_cases hk : known = true ∧ p.epoch = b.epoch
 · have he : oldLast p known b = p.last := by unfold oldLast; rw [if_pos hk]
   rw [he]
   have h1 := h hk.1
   exact ⟨h1.right.2, h1.right.1.2.2.2.2.2, h1.last, ho⟩
 · have he : oldLast p known b = [] := by unfold oldLast; rw [if_neg hk]
   rw [he]
   exact ⟨fun j x hx => (by cases hx), Nat.zero_le _, fun x hx => (by cases hx), ho⟩
theorem dup_mem : ∀ {l : List Tr} {s : Int} {c : Nat} {n : Int}, dupL l s c = some n → ∃ x ∈ l, x.b = n
 | [], s, c, n, h => by cases h
 | x :: l, s, c, n, h => by
   cases hb : hitB x s c with
   | true =>
     rw [dup_hit hb] at h
     cases h
     exact ⟨x, by simp, rfl⟩
   | false =>
     rw [dup_miss hb] at h
     obtain ⟨y, hy, e⟩ := dup_mem h
     exact ⟨y, by simp [hy], e⟩
/-- One batch more, that the state takes as a new one. -/
theorem apply_ok {p : Pd} {known : Bool} {b : Bat} {e : Int} (h : known = true → StOk b.base p) (hr : rightE b = 0) (hp : 0 ≤ b.prod) (hc : (checkD p known b).2 = 0) (hn : (checkD p known b).1 < 0) (he : b.base < e) : StOk e (applyD p known b) := by
 have ok := ok_of hr
 obtain ⟨o1, o2, o3, o4, o5⟩ := old_ok b h
 have hep := epoch_ok hr hp
 unfold applyD
 split
 · exact ⟨⟨⟨hp, hep, ok.epoch1, by show (-1 : Int) ≤ -1; omega, by show (-1 : Int) ≤ _; omega, o2⟩, o1⟩, fun x hx => by have := o3 x hx; omega⟩
 · rename_i hm
   have hm0 : b.marker = 0 := Classical.byContradiction fun h => hm h
   obtain ⟨hs, hrn⟩ := data_ok hr hm0 hp
   have hTr : TrOk ⟨b.seq, lastI b.seq b.recs.length, b.base⟩ := tr_ok hs ok.seq1 hrn ok.recs ok.base0 ok.base1
   have hnext : ∀ y, (oldLast p known b).getLast? = some y → TrNext y ⟨b.seq, lastI b.seq b.recs.length, b.base⟩ := fun y hy => by
    refine ⟨o3 y (List.mem_of_getLast? hy), ?_⟩
    by_cases hk : known = true ∧ p.epoch = b.epoch
    · have hol : oldLast p known b = p.last := by unfold oldLast; rw [if_pos hk]
      rw [hol] at hy
      have hne : p.last ≠ [] := fun e => by rw [e] at hy; cases hy
      have hls : lastSeq p.last = y.l := by unfold lastSeq; rw [hy]
      unfold checkD at hc hn
      rw [if_neg hm, if_neg (by rw [hk.1]; decide), if_neg (by omega), if_neg (by omega)] at hc hn
      cases hd : dupL p.last b.seq b.recs.length with
      | some n =>
        rw [hd] at hn
        have hn : n < 0 := hn
        obtain ⟨x, hx, hxb⟩ := dup_mem hd
        obtain ⟨j, hj⟩ := List.mem_iff_getElem?.1 hx
        have := ((h hk.1).right.2 j x hj).1.2.2.1
        omega
      | none =>
        rw [hd] at hc
        have hc : (if p.last ≠ [] ∧ followsB (lastSeq p.last) b.seq = false then ((-1 : Int), (15 : Int)) else if 0 ≤ p.opn ∧ b.txn = false then (-1, 16) else (-1, 0)).2 = 0 := hc
        split at hc
        · cases hc
        · rename_i h3
          show followsB y.l b.seq = true
          rw [← hls]
          cases hf : followsB (lastSeq p.last) b.seq with
          | true => rfl
          | false => exact absurd ⟨hne, hf⟩ h3
    · have hol : oldLast p known b = [] := by unfold oldLast; rw [if_neg hk]
      rw [hol] at hy
      cases hy
   have hlen : (newLast (oldLast p known b) ⟨b.seq, lastI b.seq b.recs.length, b.base⟩).length ≤ 5 := by
    unfold newLast
    rw [List.length_drop, List.length_append, List.length_singleton]
    omega
   refine ⟨⟨⟨hp, hep, ok.epoch1, ?_, ?_, hlen⟩, ?_⟩, ?_⟩
   · show -1 ≤ (if b.txn = true ∧ oldOpen p known < 0 then b.base else oldOpen p known)
     have := ok.base0
     split <;> omega
   · show (if b.txn = true ∧ oldOpen p known < 0 then b.base else oldOpen p known) ≤ _
     have := ok.base1
     split <;> omega
   · exact step_drop (step_snoc o1 hTr hnext) _
   · intro x hx
     have hx := List.mem_of_mem_drop hx
     rcases List.mem_append.1 hx with hx | hx
     · have := o3 x hx; omega
     · rw [List.mem_singleton] at hx
       rw [hx]
       exact he
theorem row_states {start : Int} {bs : List Bat} (h : RowD start bs) (h0 : 0 ≤ start) (h1 : start ≤ 1099511627776) : Asc (foldP [] bs) ∧ ∀ p ∈ foldP [] bs, StOk (endD start bs) p ∧ In64 p.id := by
 induction h with
 | nil => exact ⟨List.Pairwise.nil, fun p hp => by cases hp⟩
 | @snoc l b hl hb hw hc hn he ih =>
   obtain ⟨ha, hs⟩ := ih
   have hr := tcheck_right hc
   have hcd : 0 ≤ countD b := by unfold countD; split <;> omega
   have hend : endD start (l ++ [b]) = b.base + countD b := end_last (by simp)
   rw [foldP_snoc]
   refine ⟨tapply_asc ha b, ?_⟩
   by_cases hp : b.prod < 0
   · rw [tapply_no (Or.inr hp)]
     intro p hm
     exact ⟨(hs p hm).1.up (by rw [hend, hb]; omega), (hs p hm).2⟩
   · have hp : 0 ≤ b.prod := by omega
     unfold tcheckD at hc hn
     rw [if_neg (fun h => h hr), if_neg (by omega)] at hc hn
     have hlk := has_look ha b.prod
     rw [hlk.1, hlk.2] at hc hn
     rw [tapply_ins ha b hr hp]
     have hpos : 0 < countD b := by
      unfold countD
      split
      · omega
      · rename_i h1
        have := (data_ok hr (Classical.byContradiction fun h => h1 h) hp).2
        omega
     intro p hm
     rcases ins_ids _ _ _ hm with e | e
     · rw [e]
       refine ⟨apply_ok (fun hk => ?_) hr hp hc hn (by rw [hend]; omega), ?_⟩
       · obtain ⟨q, hq⟩ := Option.isSome_iff_exists.1 hk
         rw [hq]
         rw [hb]
         exact (hs q (look_id hq).2).1
       · rw [apply_id]
         exact hw.prod
     · exact ⟨(hs p e).1.up (by rw [hend, hb]; omega), (hs p e).2⟩
end Go.SnapMath
namespace Go.SnapMath
open Go.ProdMath
open Go.BatMath (In64 Bat)
theorem tapply_len (l : List Pd) (b : Bat) : (tapplyD l b).length ≤ l.length + 1 := by
 unfold tapplyD
 split
 · omega
 · split
   · rw [List.length_set]; omega
   · rw [List.length_append, List.length_cons, List.length_take, List.length_drop]
     have := atD_le l b.prod
     omega
end Go.SnapMath
namespace Go.ProdMath
open Go.SeqMath
open Go.BatMath
set_option linter.unusedVariables false

theorem asc_nil : Asc [] := List.Pairwise.nil
end Go.ProdMath
