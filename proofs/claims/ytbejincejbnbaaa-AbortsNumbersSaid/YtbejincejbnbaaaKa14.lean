/- Parts of a proof, merged: AbPy, AbOpen, AbPlay, AbKnown, Masks, AbTells. -/
import Derived.Deep.QuietTactic
import Derived.BigQuiet
import Derived.WalkKit
import Derived.IntWalk
import Derived.Laws.BitsAllLaws
import Derived.Test.YtbejincejbnbaaaKa11
import Derived.Test.YtbejincejbnbaaaKaUpto
import Derived.Test.YtbejincejbnbaaaKa1
import Derived.Test.YtbejincejbnbaaaKa4
import Derived.Test.YtbejincejbnbaaaKa3
namespace Go.Proofs.Ytbejincejbnbaaa
open Go.RowKit
open Go.AbMath
open Go.ProdMath
open Go.BatMath hiding AllB getD_lt take_all
set_option linter.unusedVariables false

/-- One call that is asked for. -/
structure Ak where
 kind : Int
 d : Dr
 n : Int
theorem infoAk : (Try.prog.info? 31).map (fun i => (i.zero, i.size, i.bytes)) = some (some (.agg #[.int .i64 0, .int .i64 0, .int .i64 0, .int .i64 0, .int .i64 0]), 5, 40) := by kernel_rfl
def akK : Kind Ak := ⟨fun x => [.int .i64 x.kind, .int .i64 x.d.prod, .int .i64 x.d.first, .int .i64 x.d.last, .int .i64 x.n], 5, 31, 27⟩
theorem akK_ok : akK.Ok 40 where
 und := Try.underlying27
 info := by
  obtain ⟨i, hi, hz, hs, hb⟩ := info_parts infoAk
  exact ⟨i, _, hi, hz, hs, hb, rfl⟩
 len := fun _ => rfl
 pos := by decide
 one := fun r u hu => by
  simp only [akK, List.mem_cons, List.not_mem_nil, or_false] at hu
  rcases hu with rfl | rfl | rfl | rfl | rfl <;> rfl
 few := by decide
structure AkAt (W : World) (b o : Nat) (x : Ak) : Prop where
 c0 : W.cell? ⟨b, o, none⟩ = some (.int .i64 x.kind)
 c1 : W.cell? ⟨b, o + 1, none⟩ = some (.int .i64 x.d.prod)
 c2 : W.cell? ⟨b, o + 2, none⟩ = some (.int .i64 x.d.first)
 c3 : W.cell? ⟨b, o + 3, none⟩ = some (.int .i64 x.d.last)
 c4 : W.cell? ⟨b, o + 4, none⟩ = some (.int .i64 x.n)
theorem ak_get {w : World} {ad : Option Addr} {len cap : Nat} {l : List Ak} (h : RowAt akK w ad len cap l) {i : Nat} (hi : i < len) : ∃ b off x, ad = some ⟨b, off, none⟩ ∧ b < w.heap.size ∧ l[i]? = some x ∧ AkAt w b (off + i * 5) x := by
 obtain ⟨b, off, x, e, hb, hx, hc⟩ := h.get hi
 exact ⟨b, off, x, e, hb, hx, hc 0 _ rfl, hc 1 _ rfl, hc 2 _ rfl, hc 3 _ rfl, hc 4 _ rfl⟩
theorem AkAt.on {w w' : World} {b o : Nat} {x : Ak} {B : Nat} (h : AkAt w b o x) (hb : Below B w w') (hl : b < B) : AkAt w' b o x :=
 ⟨(hb.cell (p := ⟨b, _, none⟩) hl).trans h.c0, (hb.cell (p := ⟨b, _, none⟩) hl).trans h.c1, (hb.cell (p := ⟨b, _, none⟩) hl).trans h.c2, (hb.cell (p := ⟨b, _, none⟩) hl).trans h.c3, (hb.cell (p := ⟨b, _, none⟩) hl).trans h.c4⟩
/-- A block that is one such call. -/
def AkBox (w : World) (k : Nat) (x : Ak) : Prop := w.heap[k]? = some (.cells #[.int .i64 x.kind, .int .i64 x.d.prod, .int .i64 x.d.first, .int .i64 x.d.last, .int .i64 x.n] 31 (0, 0))
section
variable {w w' : World} {k : Nat} {x : Ak}
theorem AkBox.c0 (h : AkBox w k x) : w.cell? ⟨k, 0, none⟩ = some (.int .i64 x.kind) := by rw [cell_of_row _ _ 0 _ _ _ h]; rfl
theorem AkBox.c1 (h : AkBox w k x) : w.cell? ⟨k, 1, none⟩ = some (.int .i64 x.d.prod) := by rw [cell_of_row _ _ 1 _ _ _ h]; rfl
theorem AkBox.c2 (h : AkBox w k x) : w.cell? ⟨k, 2, none⟩ = some (.int .i64 x.d.first) := by rw [cell_of_row _ _ 2 _ _ _ h]; rfl
theorem AkBox.c3 (h : AkBox w k x) : w.cell? ⟨k, 3, none⟩ = some (.int .i64 x.d.last) := by rw [cell_of_row _ _ 3 _ _ _ h]; rfl
theorem AkBox.c4 (h : AkBox w k x) : w.cell? ⟨k, 4, none⟩ = some (.int .i64 x.n) := by rw [cell_of_row _ _ 4 _ _ _ h]; rfl
theorem AkBox.lt (h : AkBox w k x) : k < w.heap.size := lt_of_block h
theorem AkBox.on (h : AkBox w k x) (hb : Below w.heap.size w w') : AkBox w' k x := by
 have hlt := h.lt
 unfold AkBox at *
 rw [hb.block k hlt]
 exact h
theorem AkBox.kept {G : Nat → Prop} (h : AkBox w k x) (hk : Kept w w' G) (hg : ¬ G k) : AkBox w' k x := by
 have hlt := h.lt
 unfold AkBox at *
 rw [hk.block k hlt hg]
 exact h
theorem akbox_new (w : World) (x : Ak) : AkBox (w.alloc (.cells #[.int .i64 x.kind, .int .i64 x.d.prod, .int .i64 x.d.first, .int .i64 x.d.last, .int .i64 x.n] 31)) w.heap.size x := heap_alloc_new w _
end
section
variable {w w' : World} {k : Nat} {l : List Dr} {z : Int} {P G : Nat → Prop}
theorem LBox.kept {v : Value} (h : LBox w k v z) (hk : Kept w w' G) (hg : ¬ G k) : LBox w' k v z := by
 have hlt := h.lt
 unfold LBox at *
 rw [hk.block k hlt hg]
 exact h
theorem LAtP.kept (h : LAtP P w k l z) (hk : Kept w w' G) (hg : ¬ G k) (hp : ∀ b, P b → ¬ G b) : LAtP P w' k l z := by
 obtain ⟨ad, n, cap, h1, h2, h3⟩ := h
 exact ⟨ad, n, cap, h1.kept hk hg, hk.row h2 (fun a ha => hp _ (h3 a ha).2.1), fun a ha => ⟨(h3 a ha).1, (h3 a ha).2.1, Nat.lt_of_lt_of_le (h3 a ha).2.2 hk.size⟩⟩
end
/-- The two lists side by side. -/
structure AbPy (R : (Nat → Prop) → World → Addr → List Dr → Prop) (W wr : World) (F : Nat → Prop) (a : Addr) (kp : Nat) (lr lp : List Dr) (z : Int) : Prop where
 r : R F wr a lr
 p : LAtP (fun b => ¬ F b ∧ W.heap.size ≤ b) wr kp lp z
 no : ¬ F kp
 fw : ∀ k, F k → W.heap.size ≤ k
 kw : W.heap.size ≤ kp
 below : Below W.heap.size W wr
section
variable {R : (Nat → Prop) → World → Addr → List Dr → Prop} {W w w' : World} {F F' : Nat → Prop} {a : Addr} {kp : Nat} {lr lr' lp lp' : List Dr} {z z' : Int}
theorem AbPy.on (C : AbCode R) (h : AbPy R W w F a kp lr lp z) (hb : Below w.heap.size w w') : AbPy R W w' F a kp lr lp z :=
 ⟨C.keep h.r hb, h.p.on hb, h.no, h.fw, h.kw, h.below.trans (hb.mono h.below.size)⟩
theorem AbPy.turn (C : AbCode R) (h : AbPy R W w F a kp lr lp z) (hr : R F' w' a lr') (hk : Kept w w' F) (hf : ∀ k, F' k → F k ∨ w.heap.size ≤ k) : AbPy R W w' F' a kp lr' lp z := by
 have hlt := h.p.lt
 refine ⟨hr, ?_, fun hh => ?_, fun k hk1 => ?_, h.kw, h.below.trans (hk.below h.fw h.below.size)⟩
 · have h1 := h.p.to (Q := fun b => (¬ F b ∧ W.heap.size ≤ b) ∧ ¬ F' b) (fun b hb hp => ⟨hp, fun hh => by
    rcases hf b hh with h2 | h2
    · exact hp.1 h2
    · omega⟩)
   exact (h1.kept hk h.no (fun b hb => hb.1.1)).to (fun b _ hb => ⟨hb.2, hb.1.2⟩)
 · rcases hf kp hh with h2 | h2
   · exact h.no h2
   · omega
 · rcases hf k hk1 with h2 | h2
   · exact h.fw k h2
   · exact Nat.le_trans h.below.size h2
theorem AbPy.put (C : AbCode R) (h : AbPy R W w F a kp lr lp z) (hp : LAtP (fun b => ¬ F b ∧ W.heap.size ≤ b) w' kp lp' z') (hg : w.grownBy w' (some kp)) : AbPy R W w' F a kp lr lp' z' := by
 have hk : Kept w w' (fun k => k = kp) := Kept.of_grown hg (.inl rfl)
 exact ⟨C.kept F _ w w' a lr h.r hk (fun k hk1 e => h.no (e ▸ hk1)), hp, h.no, h.fw, h.kw, h.below.trans (hk.below (fun k e => by rw [e]; exact h.kw) h.below.size)⟩
theorem AbPy.up (C : AbCode R) (h : AbPy R W w F a kp lr lp z) : ∀ b, w.heap.size ≤ b → (¬ F b ∧ W.heap.size ≤ b) := fun b hb =>
 ⟨fun hf => by have := C.lt _ _ _ _ h.r b hf; omega, Nat.le_trans h.below.size hb⟩
theorem AbPy.up2 {n cap : Nat} {ad : Option Addr} {zz : Int} (h : AbPy R W w F a kp lr lp z) (hb : LBox w kp (.slice ad n cap) zz) : ∀ x, ad = some x → ¬ F x.block := fun x hx hf => by
 obtain ⟨ad', n', cap', h1, h2, h3⟩ := h.p
 have e : (Value.slice ad' n' cap') = .slice ad n cap := by
  have := h1.c0.symm.trans hb.c0
  exact Option.some.inj this
 injection e with e1 e2 e3
 exact (h3 x (e1.trans hx)).2.1.1 hf
end
/-- What the law's own cut keeps. -/
def keepA (x : Ak) (d : Dr) : Bool := decide ((x.kind = 5 ∧ d.last < x.n) ∨ (x.kind = 6 ∧ x.n ≤ d.last) ∨ x.kind < 5 ∨ 6 < x.kind)
theorem keepA_cut {x : Ak} (h : x.kind = 5) (l : List Dr) : l.filter (keepA x) = cutD l x.n := by
 unfold cutD
 congr 1
 funext d
 unfold keepA
 rw [h]
 simp
theorem keepA_start {x : Ak} (h : x.kind = 6) (l : List Dr) : l.filter (keepA x) = startD l x.n := by
 unfold startD
 congr 1
 funext d
 unfold keepA
 rw [h]
 simp
theorem keepA_all {x : Ak} (h5 : x.kind ≠ 5) (h6 : x.kind ≠ 6) (l : List Dr) : l.filter (keepA x) = l := List.filter_eq_self.2 fun d _ => decide_eq_true (by omega)
theorem filter_take {p : Dr → Bool} {l : List Dr} {j : Nat} {d : Dr} (h : l[j]? = some d) : (l.take (j + 1)).filter p = (l.take j).filter p ++ (if p d = true then [d] else []) := by
 rw [List.take_add_one, h, List.filter_append]
 congr 1
 by_cases hp : p d = true
 · rw [if_pos hp]; simp [hp]
 · rw [if_neg hp]; simp [hp]
end Go.Proofs.Ytbejincejbnbaaa
namespace Go.Proofs.Ytbejincejbnbaaa
open Go.ChangeShapes Go.WideShapes Go.ChangeAt Go.RowKit Go.Deep
open Go.ProdMath
open Go.BatMath (In64)
set_option linter.unusedVariables false

def AkIn (y : Ak) : Prop := In64 y.d.prod ∧ In64 y.n
section
variable {H : Type} {enc : TypeId × Value → H} {w : World}
end
end Go.Proofs.Ytbejincejbnbaaa
namespace Go.Proofs.Ytbejincejbnbaaa
open Go.RowKit
open Go.AbMath
open Go.ProdMath
open Go.BatMath hiding AllB getD_lt take_all
set_option linter.unusedVariables false

theorem keepA_yes {x : Ak} {d : Dr} (h : (x.kind = 5 ∧ d.last < x.n) ∨ (x.kind = 6 ∧ x.n ≤ d.last) ∨ x.kind < 5 ∨ 6 < x.kind) : keepA x d = true := decide_eq_true h
theorem keepA_no5 {x : Ak} {d : Dr} (hk : x.kind = 5) (hc : ¬ d.last < x.n) : keepA x d = false := decide_eq_false (by omega)
theorem keepA_no6 {x : Ak} {d : Dr} (hk : x.kind = 6) (hc : ¬ x.n ≤ d.last) : keepA x d = false := decide_eq_false (by omega)
theorem ab_meas {j n : Nat} (h : j < n) : n - (intOf (.int .i64 ((j + 1 : Nat) : Int))).toNat < n - (intOf (.int .i64 (j : Int))).toNat := by simp [intOf]; omega
theorem ab_eq {x : Int} {n : Int} (h : x = n) : (x == n) = true ∧ decide (x = n) = true := ⟨by rw [h]; exact beq_self_eq_true n, decide_eq_true h⟩
theorem ab_ne {x : Int} {n : Int} (h : x ≠ n) : (x == n) = false ∧ decide (x = n) = false := ⟨beq_false_of_ne h, decide_eq_false h⟩
theorem ab_lt5 {x : Int} (h : x < 5) : x ≠ 5 ∧ x ≠ 6 ∧ ¬ 6 < x := by omega
theorem ab_gt6 {x : Int} (h : 6 < x) : x ≠ 5 ∧ x ≠ 6 ∧ ¬ x < 5 := by omega
theorem ab_5 {x : Int} (h : x = 5) : x ≠ 6 ∧ ¬ x < 5 ∧ ¬ 6 < x := by omega
theorem ab_6 {x : Int} (h : x = 6) : x ≠ 5 ∧ ¬ x < 5 ∧ ¬ 6 < x := by omega
set_option maxRecDepth 100000 in
set_option maxHeartbeats 16000000 in
theorem abPlay_any {R : (Nat → Prop) → World → Addr → List Dr → Prop} (C : AbCode R) (w : World) (ad : Option Addr) (len cap : Nat) (ks : List Ak) (h : RowAt akK w ad len cap ks) (hL : len ≤ 140737488355300) (hin : ∀ x ∈ ks, In64 x.d.prod ∧ In64 x.n) (fr t0 : Int) :
 Calls Try.prog 10 #[.slice ad len cap, .int .i64 fr, .int .i64 t0] w (GivesBool w true) := by
 have HC := Lib.hid C
 have HRL := Lib.hid h
 have HIN := Lib.hid hin
 clear C h hin
 go_enter Try.func10, Try.ntmps10
 go_wp2_with fail
 refine (HC.out.new w).mono ?_
 rintro e w1 ⟨a, F1, rfl, hr, hf, hb1⟩
 have HR1 := Lib.hid hr
 have HF1 : Hid (∀ k, F1 k → w.heap.size ≤ k) := hf
 have HB1 := Lib.hid hb1
 clear hr hf hb1
 go_upto_region 2 with fail
 obtain ⟨W0, hW0⟩ : ∃ z, z = w1.alloc (.cells #[.slice none 0 0, .int .i64 (-1)] 36) := ⟨_, rfl⟩
 obtain ⟨kp, hkp⟩ : ∃ k, k = w1.heap.size := ⟨_, rfl⟩
 have hb2 : Below w1.heap.size w1 W0 := by rw [hW0]; exact (Below.refl _ _).alloc (Nat.le_refl _) _
 have HPY : Hid (AbPy R w W0 F1 a kp [] [] (lastD [])) := by
  refine ⟨HC.out.keep HR1.out hb2, ?_, fun hh => ?_, HF1.out, by rw [hkp]; exact HB1.out.size, HB1.out.trans (hb2.mono HB1.out.size)⟩
  · rw [hW0, hkp]
    exact ⟨none, 0, 0, lbox_new w1 _ _, rowAt_nil _, fun a ha => by cases ha⟩
  · have := HC.out.lt _ _ _ _ HR1.out kp hh
    omega
 (try rw [← hW0, ← hkp])
 clear hW0 hkp hb2 HR1 HF1 HB1
 go_wp2
 go_loopw [9] (fun v9 wr => ∃ (i : Nat) (F : Nat → Prop) (l : List Dr), v9 = .int .i64 (i : Int) ∧ i ≤ len ∧ i ≤ 60 ∧ l.length ≤ i ∧ Hid (DrsOk l ∧ ∀ d ∈ l, In64 d.prod) ∧ Hid (AbPy R w wr F a kp l l (lastD l))) (fun v9 _ => len - (intOf v9).toNat)
 case atStart => exact ⟨0, F1, [], rfl, Nat.zero_le _, by omega, Nat.zero_le _, ⟨DrsOk.nil, fun d hd => by cases hd⟩, HPY.out⟩
 case round =>
  obtain ⟨i, F, l, rfl, hil, hi60, hll, HOK, HP⟩ := hrel
  obtain ⟨wo, hwo⟩ : ∃ wo : World, wo = wr := ⟨_, rfl⟩
  subst hwo
  clear HPY
  by_cases hlt : i < len ∧ i < 60
  · obtain ⟨hlt1, hlt2⟩ := hlt
    have hd1 : decide (i < len) = true := decide_eq_true hlt1
    have hd2 : decide (i < 60) = true := decide_eq_true hlt2
    have hd2i : decide ((i : Int) < 60) = true := decide_eq_true (by omega)
    have hij : (i : Int) < (len : Int) := by omega
    obtain ⟨bl, ol, x, el, hbl2, hx, hat⟩ := ak_get HRL.out hlt1
    have HX := Lib.hid (HIN.out x (List.mem_of_getElem? hx))
    have hat := hat.on HP.out.below hbl2
    subst el
    clear hx
    obtain ⟨xk, ⟨x0, x1, x2⟩, xn⟩ := x
    have a0 := hat.c0
    have a1 := hat.c1
    have a2 := hat.c2
    have a3 := hat.c3
    have a4 := hat.c4
    simp only at a0 a1 a2 a3 a4
    clear hat
    go_upto_region 6 with fail
    obtain ⟨wa, hwa⟩ : ∃ z, z = wo.alloc (.cells #[.int .i64 xk, .int .i64 x0, .int .i64 x1, .int .i64 x2, .int .i64 xn] 31) := ⟨_, rfl⟩
    obtain ⟨ka, hka⟩ : ∃ z, z = wo.heap.size := ⟨_, rfl⟩
    have hba : Below wo.heap.size wo wa := by rw [hwa]; exact (Below.refl _ wo).alloc (Nat.le_refl _) _
    have HBX : Hid (AkBox wa ka ⟨xk, ⟨x0, x1, x2⟩, xn⟩) := by show AkBox _ _ _; rw [hwa, hka]; exact akbox_new wo ⟨xk, ⟨x0, x1, x2⟩, xn⟩
    have HKP : Hid (kp ≠ ka) := by show _ ≠ _; rw [hka]; exact Nat.ne_of_lt HP.out.p.lt
    have HKF : Hid (¬ F ka) := by show ¬ _; rw [hka]; exact fun hf => by have := HC.out.lt _ _ _ _ HP.out.r _ hf; omega
    replace HP := Lib.hid (HP.out.on HC.out hba)
    rw [← hwa, ← hka]
    clear hwa hka hba a0 a1 a2 a3 a4
    have k0 := HBX.out.c0
    by_cases hk4 : 4 < xk
    · have hq4 : decide (4 < xk) = true := decide_eq_true hk4
      go_wp2
      go_roundw
      case rel => exact ⟨i + 1, F, l, rfl, by omega, by omega, by omega, HOK.out, HP.out⟩
      case measure => simp [intOf]; omega
    · have hq4 : decide (4 < xk) = false := decide_eq_false hk4
      obtain ⟨l2, hl2⟩ : ∃ l2, l2 = addD l ⟨x0, x1, x2⟩ := ⟨_, rfl⟩
      have HL2 := Lib.hid hl2
      have HOK2 : Hid (DrsOk l2 ∧ ∀ d ∈ l2, In64 d.prod) := by
       show _ ∧ _
       rw [hl2]
       refine ⟨HOK.out.1.add _, fun d hd => ?_⟩
       unfold addD at hd
       split at hd
       · rcases List.mem_append.1 hd with hd | hd
         · exact HOK.out.2 d hd
         · rw [List.mem_singleton.1 hd]; exact HX.out.1
       · exact HOK.out.2 d hd
      have hl2l : l2.length ≤ i + 1 := by
       rw [hl2]
       unfold addD
       split
       · rw [List.length_append, List.length_singleton]; omega
       · omega
      have HLL2 : Hid (l2.length ≤ 1000000) := by show _ ≤ _; omega
      have HLL : Hid (l.length ≤ 1000000) := by show _ ≤ _; omega
      have KS : Hid (∀ V, Below wa.heap.size wa V → (fun (V : World) => V.cell? ⟨ka, 1, none⟩ = some (.int .i64 x0) ∧ V.cell? ⟨ka, 2, none⟩ = some (.int .i64 x1) ∧ V.cell? ⟨ka, 3, none⟩ = some (.int .i64 x2)) V) := fun V hV => ⟨(HBX.out.on hV).c1, (HBX.out.on hV).c2, (HBX.out.on hV).c3⟩
      have hdrw : Below wa.heap.size wa wa.drew := (Below.refl _ wa).drew
      clear hl2 hk4
      as_aux_lemma =>
       go_upto_region 9 with fail
       refine wp_region_noPanic ?_
       refine wp_region_z [] (fun (V : World) => V.cell? ⟨ka, 1, none⟩ = some (.int .i64 x0) ∧ V.cell? ⟨ka, 2, none⟩ = some (.int .i64 x1) ∧ V.cell? ⟨ka, 3, none⟩ = some (.int .i64 x2)) (by kernel_rfl) ?_
       have hHeld := KS.out _ hdrw
       obtain ⟨ub_0, hu⟩ : ∃ u, u = wa.drew := ⟨_, rfl⟩
       rw [← hu] at hHeld hdrw
       rw [← hu]
       clear hu
       have HU := Lib.hid hdrw
       clear hdrw
       refine zt 0 ?_
       refine zt 1 ?_
       refine zt 2 ?_
       refine zt 4 ?_
       refine zt 5 ?_
       refine zt 6 ?_
       refine zr 3 (fun C hC => ?_)
       go_simp
       refine (HC.out.add F ub_0 a l ⟨x0, x1, x2⟩ (HP.out.on HC.out HU.out).r HOK.out.1 HLL.out).mono ?_
       rintro e ub_1 ⟨F2, rfl, hr, hkp, hfn⟩
       have HBX1 : Hid (AkBox ub_1 ka ⟨xk, ⟨x0, x1, x2⟩, xn⟩) := (HBX.out.on HU.out).kept hkp HKF.out
       have HP1 := Lib.hid ((HP.out.on HC.out HU.out).turn HC.out hr hkp hfn)
       obtain ⟨q, hq⟩ : ∃ q, decide (okD (lastD l) ⟨x0, x1, x2⟩) = q := ⟨_, rfl⟩
       rw [hq]
       have HQ := Lib.hid hq
       clear hr hkp hfn hq HP
       have hHeld : (fun (V : World) => V.cell? ⟨ka, 1, none⟩ = some (.int .i64 x0) ∧ V.cell? ⟨ka, 2, none⟩ = some (.int .i64 x1) ∧ V.cell? ⟨ka, 3, none⟩ = some (.int .i64 x2)) ub_1 := ⟨HBX1.out.c1, HBX1.out.c2, HBX1.out.c3⟩
       refine zc hC hHeld ?_
       clear hC C
       refine zr 7 (fun C hC => ?_)
       go_simp
       refine (lAddP_any _ ub_1 kp l (lastD l) ⟨x0, x1, x2⟩ HP1.out.p HLL.out (HP1.out.up HC.out)).mono ?_
       rintro e ub_2 ⟨rfl, hla, hg⟩
       rw [HQ.out]
       have HBX2 : Hid (AkBox ub_2 ka ⟨xk, ⟨x0, x1, x2⟩, xn⟩) := HBX1.out.kept (G := fun k => k = kp) (Kept.of_grown hg (.inl rfl)) (fun e => HKP.out e.symm)
       have hla2 : LAtP (fun b => ¬ F2 b ∧ w.heap.size ≤ b) ub_2 kp l2 (lastD l2) := by
        rw [HL2.out]
        unfold addD
        by_cases hok : okD (lastD l) ⟨x0, x1, x2⟩
        · rw [if_pos hok, if_pos hok] at hla
          rw [if_pos hok, lastD_snoc]
          exact hla
        · rw [if_neg hok, if_neg hok] at hla
          rw [if_neg hok]
          exact hla
       have HP2 := Lib.hid (HP1.out.put HC.out hla2 hg)
       rw [← HL2.out] at HP2
       clear hla hla2 hg HP1 HBX1
       have hHeld : (fun (V : World) => V.cell? ⟨ka, 1, none⟩ = some (.int .i64 x0) ∧ V.cell? ⟨ka, 2, none⟩ = some (.int .i64 x1) ∧ V.cell? ⟨ka, 3, none⟩ = some (.int .i64 x2)) ub_2 := ⟨HBX2.out.c1, HBX2.out.c2, HBX2.out.c3⟩
       refine zc hC hHeld ?_
       clear hC C
       refine zt 8 ?_
       refine wpAnyZ_done (by kernel_rfl) ?_ _
       refine NoPanic.normal ?_
       clear hHeld KS HU HBX
       have hqq : (q == q) = true := by cases q <;> rfl
       have hqn : (q != q) = false := by cases q <;> rfl
       obtain ⟨pa, pn, pc, hbox, hrow, _⟩ := HP2.out.p
       have HBOX := Lib.hid hbox
       have HROW := Lib.hid hrow
       clear hbox hrow
       have HPy := HP2
       have HBX := HBX2
       clear HP2 HBX2
       have KS : Hid (∀ V, Below ub_2.heap.size ub_2 V → (fun (V : World) => V.cell? ⟨ka, 2, none⟩ = some (.int .i64 x1) ∧ V.cell? ⟨ka, 4, none⟩ = some (.int .i64 xn) ∧ V.cell? ⟨kp, 0, none⟩ = some (.slice pa pn pc)) V) := fun V hV => ⟨(HBX.out.on hV).c2, (HBX.out.on hV).c4, (HBOX.out.on hV).c0⟩
       have hdrw : Below ub_2.heap.size ub_2 ub_2.drew := (Below.refl _ _).drew
       go_upto_region 11 with fail
       refine wp_region_noPanic ?_
       refine wp_region_z [] (fun (V : World) => V.cell? ⟨ka, 2, none⟩ = some (.int .i64 x1) ∧ V.cell? ⟨ka, 4, none⟩ = some (.int .i64 xn) ∧ V.cell? ⟨kp, 0, none⟩ = some (.slice pa pn pc)) (by kernel_rfl) ?_
       have hHeld := KS.out _ hdrw
       obtain ⟨uc_0, hu⟩ : ∃ u, u = ub_2.drew := ⟨_, rfl⟩
       rw [← hu] at hHeld hdrw
       rw [← hu]
       clear hu
       have HU := Lib.hid hdrw
       clear hdrw
       refine zt 0 ?_
       refine zt 2 ?_
       refine zt 3 ?_
       refine zt 4 ?_
       refine zt 5 ?_
       refine zr 1 (fun C hC => ?_)
       go_simp
       refine (HC.out.all F2 uc_0 a l2 (HPy.out.on HC.out HU.out).r HOK2.out.1 HLL2.out).mono ?_
       rintro e uc_1 ⟨qa, qn, qc, rfl, hr, hb⟩
       have HQ := Lib.hid hr
       clear hr
       replace HU := Lib.hid (HU.out.trans (hb.mono HU.out.size))
       clear hb
       have hHeld := KS.out _ HU.out
       refine zc hC hHeld ?_
       clear hC C
       refine zr 6 (fun C hC => ?_)
       go_simp
       refine (drSame2_any uc_1 qa pa qn pn qc pc l2 HQ.out (HROW.out.keep HU.out) HLL2.out).mono ?_
       rintro e uc_2 ⟨rfl, hb⟩
       clear HQ
       replace HU := Lib.hid (HU.out.trans (hb.mono HU.out.size))
       clear hb
       have hHeld := KS.out _ HU.out
       refine zc hC hHeld ?_
       clear hC C
       refine zt 7 ?_
       refine zt 8 ?_
       refine zt 9 ?_
       refine zt 10 ?_
       refine zt 11 ?_
       refine zt 13 ?_
       refine zt 14 ?_
       refine zt 15 ?_
       refine zt 16 ?_
       refine zt 17 ?_
       refine zt 18 ?_
       refine zr 12 (fun C hC => ?_)
       go_simp
       refine (HC.out.within F2 uc_2 a l2 fr t0 (HPy.out.on HC.out HU.out).r HOK2.out.1 HLL2.out).mono ?_
       rintro e uc_3 ⟨sa, sn, sc, rfl, hr, hb⟩
       have HS := Lib.hid hr
       clear hr
       replace HU := Lib.hid (HU.out.trans (hb.mono HU.out.size))
       clear hb
       have hHeld := KS.out _ HU.out
       refine zc hC hHeld ?_
       clear hC C
       refine zr 19 (fun C hC => ?_)
       go_simp
       refine (refWithin_any uc_3 pa pn pc l2 (HROW.out.keep HU.out) (by rw [← HROW.out.length]; exact HLL2.out) fr t0).mono ?_
       rintro e uc_4 ⟨va, vn, vc, rfl, hr, hb⟩
       have HV := Lib.hid hr
       replace HS := Lib.hid (HS.out.keep hb)
       clear hr
       replace HU := Lib.hid (HU.out.trans (hb.mono HU.out.size))
       clear hb
       have hHeld := KS.out _ HU.out
       refine zc hC hHeld ?_
       clear hC C
       refine zr 20 (fun C hC => ?_)
       go_simp
       refine (drSame2_any uc_4 sa va sn vn sc vc _ HS.out HV.out (Nat.le_trans (within_len _ _ _) HLL2.out)).mono ?_
       rintro e uc_5 ⟨rfl, hb⟩
       clear HS
       replace HU := Lib.hid (HU.out.trans (hb.mono HU.out.size))
       clear hb
       have hHeld := KS.out _ HU.out
       refine zc hC hHeld ?_
       clear hC C
       clear HV
       refine zt 21 ?_
       refine zt 22 ?_
       refine zt 23 ?_
       refine zt 24 ?_
       refine zt 25 ?_
       refine zt 26 ?_
       refine zt 27 ?_
       refine zt 28 ?_
       refine zt 29 ?_
       refine zt 31 ?_
       refine zt 32 ?_
       refine zt 33 ?_
       refine zt 34 ?_
       refine zt 35 ?_
       refine zt 36 ?_
       refine zt 37 ?_
       refine zt 38 ?_
       refine zt 39 ?_
       refine zr 30 (fun C hC => ?_)
       go_simp
       refine (HC.out.within F2 uc_5 a l2 x1 xn (HPy.out.on HC.out HU.out).r HOK2.out.1 HLL2.out).mono ?_
       rintro e uc_6 ⟨sa, sn, sc, rfl, hr, hb⟩
       have HS := Lib.hid hr
       clear hr
       replace HU := Lib.hid (HU.out.trans (hb.mono HU.out.size))
       clear hb
       have hHeld := KS.out _ HU.out
       refine zc hC hHeld ?_
       clear hC C
       refine zr 40 (fun C hC => ?_)
       go_simp
       refine (refWithin_any uc_6 pa pn pc l2 (HROW.out.keep HU.out) (by rw [← HROW.out.length]; exact HLL2.out) x1 xn).mono ?_
       rintro e uc_7 ⟨va, vn, vc, rfl, hr, hb⟩
       have HV := Lib.hid hr
       replace HS := Lib.hid (HS.out.keep hb)
       clear hr
       replace HU := Lib.hid (HU.out.trans (hb.mono HU.out.size))
       clear hb
       have hHeld := KS.out _ HU.out
       refine zc hC hHeld ?_
       clear hC C
       refine zr 41 (fun C hC => ?_)
       go_simp
       refine (drSame2_any uc_7 sa va sn vn sc vc _ HS.out HV.out (Nat.le_trans (within_len _ _ _) HLL2.out)).mono ?_
       rintro e uc_8 ⟨rfl, hb⟩
       clear HS
       replace HU := Lib.hid (HU.out.trans (hb.mono HU.out.size))
       clear hb
       have hHeld := KS.out _ HU.out
       refine zc hC hHeld ?_
       clear hC C
       clear HV
       refine zt 42 ?_
       refine zt 43 ?_
       refine wpAnyZ_done (by kernel_rfl) ?_ _
       refine NoPanic.normal ?_
       clear hHeld KS HBOX HROW
       have HP4 := Lib.hid (HPy.out.on HC.out HU.out)
       clear HU HPy HBX
       go_wp2
       go_roundw
       case rel => exact ⟨i + 1, _, l2, rfl, by omega, by omega, hl2l, HOK2.out, HP4.out⟩
       case measure => simp [intOf]; omega
  · skip
    have HLL : Hid (l.length ≤ 1000000) := by show _ ≤ _; omega
    have hll60 : l.length ≤ 60 := by omega
    have HLL60 := Lib.hid hll60
    have HDI : Hid (∀ d ∈ l, DrIn d) := HOK.out.1.isIn HOK.out.2
    have HALL : Hid (CrcMath.AllB (bytesA l)) := CrcMath.sealB_all (bodyA_all HDI.out HLL.out)
    have HQL : Hid ((bytesA l).length ≤ 1048600) := by
     show _ ≤ _
     unfold bytesA bodyA
     have h1 := (drsS_len HDI.out).2
     have h2 := (encL (SnapMath.in_nat (n := l.length) HLL.out)).2
     rw [CrcMath.length_sealB, List.length_append]
     omega
    obtain ⟨s1, hs1⟩ : ∃ s1, s1 = str (bytesA l) := ⟨_, rfl⟩
    have HS1 := Lib.hid hs1
    obtain ⟨Lg, hLg⟩ : ∃ Lg, (bytesA l).length = Lg := ⟨_, rfl⟩
    have HLG := Lib.hid hLg
    have hex : decide (i < len) = false ∨ (decide (i < len) = true ∧ decide (i < 60) = false ∧ decide ((i : Int) < 60) = false ∧ (60 : Int) ≤ (i : Int) ∧ (i : Int) < (len : Int)) := by
     by_cases h1 : i < len
     · exact .inr ⟨decide_eq_true h1, decide_eq_false (fun h2 => hlt ⟨h1, h2⟩), decide_eq_false (by omega), by omega, by omega⟩
     · exact .inl (decide_eq_false h1)
    clear hs1 hLg hlt
    have hdrw : Below wo.heap.size wo wo.drew := (Below.refl _ _).drew
    rcases hex with hd1 | ⟨hd1, hd2, hd3, hd4, hd5⟩
    all_goals go_upto_region 13 with fail
    all_goals
     refine wp_region_noPanic ?_
     refine wp_region_z [] (fun (_ : World) => True) (by kernel_rfl) ?_
     have hHeld : (fun (_ : World) => True) wo.drew := trivial
     obtain ⟨ud_0, hu⟩ : ∃ u, u = wo.drew := ⟨_, rfl⟩
     rw [← hu] at hHeld hdrw
     rw [← hu]
     clear hu
     have HU := Lib.hid hdrw
     clear hdrw
     refine zt 0 ?_
     refine zt 1 ?_
     refine zt 2 ?_
     refine zt 3 ?_
     refine zt 6 ?_
     refine zr 4 (fun C hC => ?_)
     go_simp
     refine (HC.out.bytes F ud_0 a l (HP.out.on HC.out HU.out).r HOK.out.1 (Nat.le_trans HLL60.out (by omega)) HOK.out.2).mono ?_
     rintro e ud_1 ⟨v, rfl, g1, c1, rfl, hcg, hg, hpre, hb⟩
     replace HU := Lib.hid (HU.out.trans (hb.mono HU.out.size))
     have hy := hpre.byt HALL.out c1 hcg
     rw [HLG.out] at hy ⊢
     have HY1 := Lib.hid hy
     clear hb hcg hg hpre hy
     have hHeld : (fun (_ : World) => True) ud_1 := trivial
     refine zc hC hHeld ?_
     clear hC C
     refine wpAnyZ_strengthen (S' := (fun (V : World) => (convert 38 9 (.slice (some ⟨g1, 0, none⟩) Lg c1)).run Try.prog V = .ok (.string s1) V)) (fun V h => trivial) _ _ _ _ ?_
     clear hHeld
     have hHeld : (fun (V : World) => (convert 38 9 (.slice (some ⟨g1, 0, none⟩) Lg c1)).run Try.prog V = .ok (.string s1) V) ud_1 := run_str_at HY1.out HS1.out
     refine zt 5 ?_
     refine zr 7 (fun C hC => ?_)
     go_simp
     refine (lBytesP_any _ ud_1 kp l (lastD l) (HP.out.on HC.out HU.out).p HDI.out HLL.out).mono ?_
     rintro e ud_2 ⟨v, rfl, g2, c2, rfl, hcg, hg, hpre, hb⟩
     replace HU := Lib.hid (HU.out.trans (hb.mono HU.out.size))
     replace HY1 := Lib.hid (HY1.out.keep hb (Nat.le_refl _))
     have hcv := run_str_at (hpre.byt HALL.out c2 hcg) HS1.out
     rw [HLG.out] at hcv ⊢
     clear hb hcg hg hpre
     have hHeld : (fun (V : World) => (convert 38 9 (.slice (some ⟨g1, 0, none⟩) Lg c1)).run Try.prog V = .ok (.string s1) V) ud_2 := run_str_at HY1.out HS1.out
     refine zc hC hHeld ?_
     clear hC C
     refine zr 8 (fun C hC => ?_)
     go_simp
     have hHeld : (fun (V : World) => (convert 38 9 (.slice (some ⟨g1, 0, none⟩) Lg c1)).run Try.prog V = .ok (.string s1) V) ud_2 := run_str_at HY1.out HS1.out
     refine zc hC hHeld ?_
     clear hC C
     clear hcv
     refine zt 9 ?_
     refine zt 10 ?_
     refine zt 11 ?_
     refine zt 12 ?_
     refine zr 13 (fun C hC => ?_)
     go_simp
     refine (lBytesP_any _ ud_2 kp l (lastD l) (HP.out.on HC.out HU.out).p HDI.out HLL.out).mono ?_
     rintro e ud_3 ⟨v, rfl, g3, c3, rfl, hcg, hg, hpre, hb⟩
     replace HU := Lib.hid (HU.out.trans (hb.mono HU.out.size))
     replace HY1 := Lib.hid (HY1.out.keep hb (Nat.le_refl _))
     have hy := hpre.byt HALL.out c3 hcg
     rw [HLG.out] at hy ⊢
     have HY3 := Lib.hid hy
     clear hb hcg hg hpre hy
     have hHeld : (fun (V : World) => (convert 38 9 (.slice (some ⟨g1, 0, none⟩) Lg c1)).run Try.prog V = .ok (.string s1) V) ud_3 := run_str_at HY1.out HS1.out
     refine zc hC hHeld ?_
     clear hC C
     refine zr 14 (fun C hC => ?_)
     go_simp
     refine (HC.out.reads ud_3 (some ⟨g3, 0, none⟩) Lg c3 (bytesA l) HY3.out HQL.out).mono ?_
     rintro e ud_4 ⟨rfl, hb⟩
     replace HU := Lib.hid (HU.out.trans (hb.mono HU.out.size))
     replace HY1 := Lib.hid (HY1.out.keep hb (Nat.le_refl _))
     clear hb HY3
     have hHeld : (fun (V : World) => (convert 38 9 (.slice (some ⟨g1, 0, none⟩) Lg c1)).run Try.prog V = .ok (.string s1) V) ud_4 := run_str_at HY1.out HS1.out
     refine zc hC hHeld ?_
     clear hC C
     refine zt 15 ?_
     refine zt 16 ?_
     refine wpAnyZ_done (by kernel_rfl) ?_ _
     refine NoPanic.normal ?_
     clear hHeld HY1
     have HP5 := Lib.hid (HP.out.on HC.out HU.out)
     clear HU HP HS1 HLG HALL HQL HDI
     go_wp2
     go_loopw [11] (fun v11 wr => ∃ (i : Nat) (F : Nat → Prop) (m : List Dr) (z : Int), v11 = .int .i64 (i : Int) ∧ i ≤ len ∧ i ≤ 60 ∧ m.length ≤ 60 ∧ Hid (DrsOk m) ∧ Hid (AbPy R w wr F a kp m m z)) (fun v11 _ => len - (intOf v11).toNat)
     case atStart => exact ⟨0, F, l, _, rfl, Nat.zero_le _, by omega, HLL60.out, HOK.out.1, HP5.out⟩
     case round =>
      clear HP5 HOK hll hd1 hil hi60 hll60 HLL60 HLL
      (try clear hd2 hd3 hd4 hd5)
      (try clear l F i)
      obtain ⟨i, F, m, z, rfl, hil, hi60, hml, HMO, HP⟩ := hrel
      obtain ⟨wo2, hwo⟩ : ∃ wo2 : World, wo2 = wr := ⟨_, rfl⟩
      subst hwo
      by_cases hlt : i < len ∧ i < 60
      · obtain ⟨hlt1, hlt2⟩ := hlt
        have hd1 : decide (i < len) = true := decide_eq_true hlt1
        have hd2 : decide (i < 60) = true := decide_eq_true hlt2
        have hd2i : decide ((i : Int) < 60) = true := decide_eq_true (by omega)
        have hij : (i : Int) < (len : Int) := by omega
        obtain ⟨bl, ol, x, el, hbl2, hx, hat⟩ := ak_get HRL.out hlt1
        subst el
        clear hx
        have HATW := Lib.hid hat
        have HBL : Hid (bl < w.heap.size) := hbl2
        have HMLL : Hid (m.length ≤ 60) := hml
        obtain ⟨xk, xd, xn⟩ := x
        obtain ⟨pa, pn, pc, hbox, hrow, hfar⟩ := HP.out.p
        have HBOX := Lib.hid hbox
        have HROW := Lib.hid hrow
        have HML : Hid (m.length = pn) := hrow.length
        have r0 := HBOX.out.c0
        have hpn60 : pn ≤ 60 := by have h1 := HML.out; have h2 := HMLL.out; omega
        clear hat hbl2 hbox hrow hfar hml
        go_wp2
        go_loopw [12, 122] (fun v12 v122 wr => ∃ (j : Nat) (u : Value), u = v12 ∧ v122 = .int .i64 (j : Int) ∧ j ≤ pn ∧ Hid (OwnRow drK wr wo2.heap.size u ((m.take j).filter (keepA ⟨xk, xd, xn⟩))) ∧ Hid (Below wo2.heap.size wo2 wr)) (fun _ v122 _ => pn - (intOf v122).toNat)
        case atStart => exact ⟨0, _, rfl, rfl, Nat.zero_le _, ownRow_nil _ _ _, Below.refl _ _⟩
        case round =>
         obtain ⟨j, u, rfl, rfl, hj, HO, HB⟩ := hrel
         obtain ⟨wi, hwi⟩ : ∃ wi : World, wi = wr := ⟨_, rfl⟩
         subst hwi
         clear r0
         by_cases hjt : j < pn
         · have hdj : decide (j < pn) = true := decide_eq_true hjt
           have hjl : (j : Int) < (pn : Int) := by omega
           obtain ⟨bk, off, y, rfl, hbk, hy, p0, p1, p2⟩ := dr_get (HROW.out.keep HB.out) hjt
           have HT := Lib.hid (filter_take (p := keepA ⟨xk, xd, xn⟩) hy)
           have HLEN : Hid (((m.take j).filter (keepA ⟨xk, xd, xn⟩)).length ≤ 1000000) := by
            show _ ≤ _
            have h1 := List.length_filter_le (keepA ⟨xk, xd, xn⟩) (m.take j)
            have h2 := HMLL.out
            rw [List.length_take] at h1
            omega
           obtain ⟨y0, y1, y2⟩ := y
           simp only at p0 p1 p2
           clear hy
           go_upto_region 22 with fail
           obtain ⟨W1, hW1⟩ : ∃ z, z = wi.alloc (.cells #[.int .i64 y0, .int .i64 y1, .int .i64 y2] 29) := ⟨_, rfl⟩
           obtain ⟨P, hP⟩ : ∃ P, P = wi.heap.size := ⟨_, rfl⟩
           have hb : Below wi.heap.size wi W1 := by rw [hW1]; exact (Below.refl _ _).alloc (Nat.le_refl _) _
           have HDB : Hid (DBox W1 P ⟨y0, y1, y2⟩) := by show DBox _ _ _; rw [hW1, hP]; exact dbox_new wi ⟨y0, y1, y2⟩
           have HO1 := Lib.hid (HO.out.on hb)
           have HB1 := Lib.hid (HB.out.trans (hb.mono HB.out.size))
           rw [← hW1, ← hP]
           clear hW1 hP hb p0 p1 p2 hbk HO HB
           have KS : Hid (∀ V, Below W1.heap.size W1 V → (fun (V : World) => V.cell? ⟨bl, ol + i * 5, none⟩ = some (.int .i64 xk) ∧ V.cell? ⟨bl, ol + i * 5 + 4, none⟩ = some (.int .i64 xn) ∧ V.cell? ⟨P, 2, none⟩ = some (.int .i64 y2)) V) := fun V hV => by
            have hBV := HP.out.below.trans ((HB1.out.trans (hV.mono HB1.out.size)).mono HP.out.below.size)
            have hat := HATW.out.on hBV HBL.out
            exact ⟨hat.c0, hat.c4, (HDB.out.on hV).c2⟩
           have hdrw : Below W1.heap.size W1 W1.drew := (Below.refl _ W1).drew
           have hcs : (xk = 5 ∧ y2 < xn) ∨ (xk = 5 ∧ ¬ y2 < xn) ∨ (xk = 6 ∧ xn ≤ y2) ∨ (xk = 6 ∧ ¬ xn ≤ y2) ∨ xk < 5 ∨ 6 < xk := by omega
           rcases hcs with ⟨hk, hc⟩ | ⟨hk, hc⟩ | ⟨hk, hc⟩ | ⟨hk, hc⟩ | hk | hk
           · as_aux_lemma =>
              obtain ⟨e5, e5d⟩ := ab_eq (hk)
              have e9 : decide (y2 < xn) = true := decide_eq_true hc
              have HKP : Hid (keepA ⟨xk, xd, xn⟩ ⟨y0, y1, y2⟩ = true) := keepA_yes (.inl ⟨hk, hc⟩)
              clear hk hc
              have hbv := HP.out.below.trans (HB1.out.mono HP.out.below.size)
              have hat := HATW.out.on hbv HBL.out
              have a0 := hat.c0
              have a4 := hat.c4
              have d2 := HDB.out.c2
              simp only at a0 a4 d2
              clear hat hbv KS hdrw
              go_quiet (fail)
              clear a0 a4 d2
              obtain ⟨uf_0, huf⟩ : ∃ u, u = W1.drewN nq := ⟨_, rfl⟩
              have HU : Hid (Below W1.heap.size W1 uf_0) := by show Below _ _ _; rw [huf]; exact below_drewN (Below.refl _ _) nq
              rw [← huf]
              clear huf
              have HO2 := Lib.hid (HO1.out.on HU.out)
              have HB2 := Lib.hid (HB1.out.trans (HU.out.mono HB1.out.size))
              have HDB2 := Lib.hid (HDB.out.on HU.out)
              clear HU HO1 HB1 HDB
              have HT2 : Hid ((m.take (j + 1)).filter (keepA ⟨xk, xd, xn⟩) = (m.take j).filter (keepA ⟨xk, xd, xn⟩) ++ [⟨y0, y1, y2⟩]) := by show _ = _; rw [HT.out, if_pos HKP.out]
              have q0 := HDB2.out.c0
              have q1 := HDB2.out.c1
              have q2 := HDB2.out.c2
              clear HT
              obtain ⟨W6, hW6⟩ : ∃ z, z = uf_0.alloc (.cells #[.int .i64 y0, .int .i64 y1, .int .i64 y2] 29) := ⟨_, rfl⟩
              have hb6 : Below uf_0.heap.size uf_0 W6 := by rw [hW6]; exact (Below.refl _ _).alloc (Nat.le_refl _) _
              have HLIT : Hid (RowAt drK W6 (some ⟨uf_0.heap.size, 0, none⟩) 1 1 [⟨y0, y1, y2⟩]) := by
               show RowAt _ _ _ _ _ _
               rw [hW6]
               exact rowAt_lit drK_ok uf_0 [⟨y0, y1, y2⟩] (by simp) _ rfl 1 rfl
              have HO6 := Lib.hid (HO2.out.on hb6)
              have HB6 := Lib.hid (HB2.out.trans (hb6.mono HB2.out.size))
              have HW6 := Lib.hid hW6
              clear hb6 hW6
              go_wp2_with (at_builtin; rw [← HW6.out]; refine list_row (by rfl) drK_ok (.tmp 176) (.tmp 178) rfl wo2.heap.size ((m.take j).filter (keepA ⟨xk, xd, xn⟩)) [⟨y0, y1, y2⟩] u rfl HO6.out HB6.out.size (some ⟨uf_0.heap.size, 0, none⟩) 1 1 rfl HLIT.out (by have := HLEN.out; omega) ?_)
              intro v7 w7 hap
              have HO7 : Hid (OwnRow drK w7 wo2.heap.size v7 ((m.take (j + 1)).filter (keepA ⟨xk, xd, xn⟩))) := by
               show OwnRow _ _ _ _ _
               rw [HT2.out]
               exact hap.1
              have HB7 : Hid (Below wo2.heap.size wo2 w7) := appended_below hap HO6.out HB6.out (Nat.le_refl _) HB6.out.size
              clear hap HO6 HB6 HLIT HW6 HO2 HB2
              go_wp2
              go_roundw
              case rel => exact ⟨j + 1, v7, rfl, rfl, hjt, HO7.out, HB7.out⟩
              case measure => exact ab_meas hjt
           · as_aux_lemma =>
              obtain ⟨e5, e5d⟩ := ab_eq (hk)
              obtain ⟨e6, e6d⟩ := ab_ne ((ab_5 hk).1)
              have e7 : decide (xk < 5) = false := decide_eq_false ((ab_5 hk).2.1)
              have e8 : decide (6 < xk) = false := decide_eq_false ((ab_5 hk).2.2)
              have e9 : decide (y2 < xn) = false := decide_eq_false hc
              have HKP : Hid (keepA ⟨xk, xd, xn⟩ ⟨y0, y1, y2⟩ = false) := keepA_no5 hk hc
              clear hk hc
              have hbv := HP.out.below.trans (HB1.out.mono HP.out.below.size)
              have hat := HATW.out.on hbv HBL.out
              have a0 := hat.c0
              have a4 := hat.c4
              have d2 := HDB.out.c2
              simp only at a0 a4 d2
              clear hat hbv KS hdrw
              go_quiet (fail)
              clear a0 a4 d2
              obtain ⟨uf_0, huf⟩ : ∃ u, u = W1.drewN nq := ⟨_, rfl⟩
              have HU : Hid (Below W1.heap.size W1 uf_0) := by show Below _ _ _; rw [huf]; exact below_drewN (Below.refl _ _) nq
              rw [← huf]
              clear huf
              have HO2 := Lib.hid (HO1.out.on HU.out)
              have HB2 := Lib.hid (HB1.out.trans (HU.out.mono HB1.out.size))
              have HDB2 := Lib.hid (HDB.out.on HU.out)
              clear HU HO1 HB1 HDB
              have HO7 : Hid (OwnRow drK uf_0 wo2.heap.size u ((m.take (j + 1)).filter (keepA ⟨xk, xd, xn⟩))) := by
               show OwnRow _ _ _ _ _
               rw [HT.out, if_neg (fun h => by rw [HKP.out] at h; cases h), List.append_nil]
               exact HO2.out
              clear HT HO2
              go_wp2
              go_roundw
              case rel => exact ⟨j + 1, u, rfl, rfl, hjt, HO7.out, HB2.out⟩
              case measure => exact ab_meas hjt
           · as_aux_lemma =>
              obtain ⟨e5, e5d⟩ := ab_ne ((ab_6 hk).1)
              obtain ⟨e6, e6d⟩ := ab_eq (hk)
              have e9 : decide (xn ≤ y2) = true := decide_eq_true hc
              have HKP : Hid (keepA ⟨xk, xd, xn⟩ ⟨y0, y1, y2⟩ = true) := keepA_yes (.inr (.inl ⟨hk, hc⟩))
              clear hk hc
              have hbv := HP.out.below.trans (HB1.out.mono HP.out.below.size)
              have hat := HATW.out.on hbv HBL.out
              have a0 := hat.c0
              have a4 := hat.c4
              have d2 := HDB.out.c2
              simp only at a0 a4 d2
              clear hat hbv KS hdrw
              go_quiet (fail)
              clear a0 a4 d2
              obtain ⟨uf_0, huf⟩ : ∃ u, u = W1.drewN nq := ⟨_, rfl⟩
              have HU : Hid (Below W1.heap.size W1 uf_0) := by show Below _ _ _; rw [huf]; exact below_drewN (Below.refl _ _) nq
              rw [← huf]
              clear huf
              have HO2 := Lib.hid (HO1.out.on HU.out)
              have HB2 := Lib.hid (HB1.out.trans (HU.out.mono HB1.out.size))
              have HDB2 := Lib.hid (HDB.out.on HU.out)
              clear HU HO1 HB1 HDB
              have HT2 : Hid ((m.take (j + 1)).filter (keepA ⟨xk, xd, xn⟩) = (m.take j).filter (keepA ⟨xk, xd, xn⟩) ++ [⟨y0, y1, y2⟩]) := by show _ = _; rw [HT.out, if_pos HKP.out]
              have q0 := HDB2.out.c0
              have q1 := HDB2.out.c1
              have q2 := HDB2.out.c2
              clear HT
              obtain ⟨W6, hW6⟩ : ∃ z, z = uf_0.alloc (.cells #[.int .i64 y0, .int .i64 y1, .int .i64 y2] 29) := ⟨_, rfl⟩
              have hb6 : Below uf_0.heap.size uf_0 W6 := by rw [hW6]; exact (Below.refl _ _).alloc (Nat.le_refl _) _
              have HLIT : Hid (RowAt drK W6 (some ⟨uf_0.heap.size, 0, none⟩) 1 1 [⟨y0, y1, y2⟩]) := by
               show RowAt _ _ _ _ _ _
               rw [hW6]
               exact rowAt_lit drK_ok uf_0 [⟨y0, y1, y2⟩] (by simp) _ rfl 1 rfl
              have HO6 := Lib.hid (HO2.out.on hb6)
              have HB6 := Lib.hid (HB2.out.trans (hb6.mono HB2.out.size))
              have HW6 := Lib.hid hW6
              clear hb6 hW6
              go_wp2_with (at_builtin; rw [← HW6.out]; refine list_row (by rfl) drK_ok (.tmp 176) (.tmp 178) rfl wo2.heap.size ((m.take j).filter (keepA ⟨xk, xd, xn⟩)) [⟨y0, y1, y2⟩] u rfl HO6.out HB6.out.size (some ⟨uf_0.heap.size, 0, none⟩) 1 1 rfl HLIT.out (by have := HLEN.out; omega) ?_)
              intro v7 w7 hap
              have HO7 : Hid (OwnRow drK w7 wo2.heap.size v7 ((m.take (j + 1)).filter (keepA ⟨xk, xd, xn⟩))) := by
               show OwnRow _ _ _ _ _
               rw [HT2.out]
               exact hap.1
              have HB7 : Hid (Below wo2.heap.size wo2 w7) := appended_below hap HO6.out HB6.out (Nat.le_refl _) HB6.out.size
              clear hap HO6 HB6 HLIT HW6 HO2 HB2
              go_wp2
              go_roundw
              case rel => exact ⟨j + 1, v7, rfl, rfl, hjt, HO7.out, HB7.out⟩
              case measure => exact ab_meas hjt
           · as_aux_lemma =>
              obtain ⟨e5, e5d⟩ := ab_ne ((ab_6 hk).1)
              obtain ⟨e6, e6d⟩ := ab_eq (hk)
              have e7 : decide (xk < 5) = false := decide_eq_false ((ab_6 hk).2.1)
              have e8 : decide (6 < xk) = false := decide_eq_false ((ab_6 hk).2.2)
              have e9 : decide (xn ≤ y2) = false := decide_eq_false hc
              have HKP : Hid (keepA ⟨xk, xd, xn⟩ ⟨y0, y1, y2⟩ = false) := keepA_no6 hk hc
              clear hk hc
              have hbv := HP.out.below.trans (HB1.out.mono HP.out.below.size)
              have hat := HATW.out.on hbv HBL.out
              have a0 := hat.c0
              have a4 := hat.c4
              have d2 := HDB.out.c2
              simp only at a0 a4 d2
              clear hat hbv KS hdrw
              go_quiet (fail)
              clear a0 a4 d2
              obtain ⟨uf_0, huf⟩ : ∃ u, u = W1.drewN nq := ⟨_, rfl⟩
              have HU : Hid (Below W1.heap.size W1 uf_0) := by show Below _ _ _; rw [huf]; exact below_drewN (Below.refl _ _) nq
              rw [← huf]
              clear huf
              have HO2 := Lib.hid (HO1.out.on HU.out)
              have HB2 := Lib.hid (HB1.out.trans (HU.out.mono HB1.out.size))
              have HDB2 := Lib.hid (HDB.out.on HU.out)
              clear HU HO1 HB1 HDB
              have HO7 : Hid (OwnRow drK uf_0 wo2.heap.size u ((m.take (j + 1)).filter (keepA ⟨xk, xd, xn⟩))) := by
               show OwnRow _ _ _ _ _
               rw [HT.out, if_neg (fun h => by rw [HKP.out] at h; cases h), List.append_nil]
               exact HO2.out
              clear HT HO2
              go_wp2
              go_roundw
              case rel => exact ⟨j + 1, u, rfl, rfl, hjt, HO7.out, HB2.out⟩
              case measure => exact ab_meas hjt
           · as_aux_lemma =>
              obtain ⟨e5, e5d⟩ := ab_ne ((ab_lt5 hk).1)
              obtain ⟨e6, e6d⟩ := ab_ne ((ab_lt5 hk).2.1)
              have e7 : decide (xk < 5) = true := decide_eq_true (hk)
              have e8 : decide (6 < xk) = false := decide_eq_false ((ab_lt5 hk).2.2)
              have HKP : Hid (keepA ⟨xk, xd, xn⟩ ⟨y0, y1, y2⟩ = true) := keepA_yes (.inr (.inr (.inl hk)))
              clear hk
              have hbv := HP.out.below.trans (HB1.out.mono HP.out.below.size)
              have hat := HATW.out.on hbv HBL.out
              have a0 := hat.c0
              have a4 := hat.c4
              have d2 := HDB.out.c2
              simp only at a0 a4 d2
              clear hat hbv KS hdrw
              go_quiet (fail)
              clear a0 a4 d2
              obtain ⟨uf_0, huf⟩ : ∃ u, u = W1.drewN nq := ⟨_, rfl⟩
              have HU : Hid (Below W1.heap.size W1 uf_0) := by show Below _ _ _; rw [huf]; exact below_drewN (Below.refl _ _) nq
              rw [← huf]
              clear huf
              have HO2 := Lib.hid (HO1.out.on HU.out)
              have HB2 := Lib.hid (HB1.out.trans (HU.out.mono HB1.out.size))
              have HDB2 := Lib.hid (HDB.out.on HU.out)
              clear HU HO1 HB1 HDB
              have HT2 : Hid ((m.take (j + 1)).filter (keepA ⟨xk, xd, xn⟩) = (m.take j).filter (keepA ⟨xk, xd, xn⟩) ++ [⟨y0, y1, y2⟩]) := by show _ = _; rw [HT.out, if_pos HKP.out]
              have q0 := HDB2.out.c0
              have q1 := HDB2.out.c1
              have q2 := HDB2.out.c2
              clear HT
              obtain ⟨W6, hW6⟩ : ∃ z, z = uf_0.alloc (.cells #[.int .i64 y0, .int .i64 y1, .int .i64 y2] 29) := ⟨_, rfl⟩
              have hb6 : Below uf_0.heap.size uf_0 W6 := by rw [hW6]; exact (Below.refl _ _).alloc (Nat.le_refl _) _
              have HLIT : Hid (RowAt drK W6 (some ⟨uf_0.heap.size, 0, none⟩) 1 1 [⟨y0, y1, y2⟩]) := by
               show RowAt _ _ _ _ _ _
               rw [hW6]
               exact rowAt_lit drK_ok uf_0 [⟨y0, y1, y2⟩] (by simp) _ rfl 1 rfl
              have HO6 := Lib.hid (HO2.out.on hb6)
              have HB6 := Lib.hid (HB2.out.trans (hb6.mono HB2.out.size))
              have HW6 := Lib.hid hW6
              clear hb6 hW6
              go_wp2_with (at_builtin; rw [← HW6.out]; refine list_row (by rfl) drK_ok (.tmp 176) (.tmp 178) rfl wo2.heap.size ((m.take j).filter (keepA ⟨xk, xd, xn⟩)) [⟨y0, y1, y2⟩] u rfl HO6.out HB6.out.size (some ⟨uf_0.heap.size, 0, none⟩) 1 1 rfl HLIT.out (by have := HLEN.out; omega) ?_)
              intro v7 w7 hap
              have HO7 : Hid (OwnRow drK w7 wo2.heap.size v7 ((m.take (j + 1)).filter (keepA ⟨xk, xd, xn⟩))) := by
               show OwnRow _ _ _ _ _
               rw [HT2.out]
               exact hap.1
              have HB7 : Hid (Below wo2.heap.size wo2 w7) := appended_below hap HO6.out HB6.out (Nat.le_refl _) HB6.out.size
              clear hap HO6 HB6 HLIT HW6 HO2 HB2
              go_wp2
              go_roundw
              case rel => exact ⟨j + 1, v7, rfl, rfl, hjt, HO7.out, HB7.out⟩
              case measure => exact ab_meas hjt
           · as_aux_lemma =>
              obtain ⟨e5, e5d⟩ := ab_ne ((ab_gt6 hk).1)
              obtain ⟨e6, e6d⟩ := ab_ne ((ab_gt6 hk).2.1)
              have e7 : decide (xk < 5) = false := decide_eq_false ((ab_gt6 hk).2.2)
              have e8 : decide (6 < xk) = true := decide_eq_true (hk)
              have HKP : Hid (keepA ⟨xk, xd, xn⟩ ⟨y0, y1, y2⟩ = true) := keepA_yes (.inr (.inr (.inr hk)))
              clear hk
              have hbv := HP.out.below.trans (HB1.out.mono HP.out.below.size)
              have hat := HATW.out.on hbv HBL.out
              have a0 := hat.c0
              have a4 := hat.c4
              have d2 := HDB.out.c2
              simp only at a0 a4 d2
              clear hat hbv KS hdrw
              go_quiet (fail)
              clear a0 a4 d2
              obtain ⟨uf_0, huf⟩ : ∃ u, u = W1.drewN nq := ⟨_, rfl⟩
              have HU : Hid (Below W1.heap.size W1 uf_0) := by show Below _ _ _; rw [huf]; exact below_drewN (Below.refl _ _) nq
              rw [← huf]
              clear huf
              have HO2 := Lib.hid (HO1.out.on HU.out)
              have HB2 := Lib.hid (HB1.out.trans (HU.out.mono HB1.out.size))
              have HDB2 := Lib.hid (HDB.out.on HU.out)
              clear HU HO1 HB1 HDB
              have HT2 : Hid ((m.take (j + 1)).filter (keepA ⟨xk, xd, xn⟩) = (m.take j).filter (keepA ⟨xk, xd, xn⟩) ++ [⟨y0, y1, y2⟩]) := by show _ = _; rw [HT.out, if_pos HKP.out]
              have q0 := HDB2.out.c0
              have q1 := HDB2.out.c1
              have q2 := HDB2.out.c2
              clear HT
              obtain ⟨W6, hW6⟩ : ∃ z, z = uf_0.alloc (.cells #[.int .i64 y0, .int .i64 y1, .int .i64 y2] 29) := ⟨_, rfl⟩
              have hb6 : Below uf_0.heap.size uf_0 W6 := by rw [hW6]; exact (Below.refl _ _).alloc (Nat.le_refl _) _
              have HLIT : Hid (RowAt drK W6 (some ⟨uf_0.heap.size, 0, none⟩) 1 1 [⟨y0, y1, y2⟩]) := by
               show RowAt _ _ _ _ _ _
               rw [hW6]
               exact rowAt_lit drK_ok uf_0 [⟨y0, y1, y2⟩] (by simp) _ rfl 1 rfl
              have HO6 := Lib.hid (HO2.out.on hb6)
              have HB6 := Lib.hid (HB2.out.trans (hb6.mono HB2.out.size))
              have HW6 := Lib.hid hW6
              clear hb6 hW6
              go_wp2_with (at_builtin; rw [← HW6.out]; refine list_row (by rfl) drK_ok (.tmp 176) (.tmp 178) rfl wo2.heap.size ((m.take j).filter (keepA ⟨xk, xd, xn⟩)) [⟨y0, y1, y2⟩] u rfl HO6.out HB6.out.size (some ⟨uf_0.heap.size, 0, none⟩) 1 1 rfl HLIT.out (by have := HLEN.out; omega) ?_)
              intro v7 w7 hap
              have HO7 : Hid (OwnRow drK w7 wo2.heap.size v7 ((m.take (j + 1)).filter (keepA ⟨xk, xd, xn⟩))) := by
               show OwnRow _ _ _ _ _
               rw [HT2.out]
               exact hap.1
              have HB7 : Hid (Below wo2.heap.size wo2 w7) := appended_below hap HO6.out HB6.out (Nat.le_refl _) HB6.out.size
              clear hap HO6 HB6 HLIT HW6 HO2 HB2
              go_wp2
              go_roundw
              case rel => exact ⟨j + 1, v7, rfl, rfl, hjt, HO7.out, HB7.out⟩
              case measure => exact ab_meas hjt
         · have hdj : decide (j < pn) = false := decide_eq_false hjt
           have hjn : j = pn := by omega
           have HFIN : Hid (OwnRow drK wi wo2.heap.size u (m.filter (keepA ⟨xk, xd, xn⟩))) := by
            have h1 := HO.out
            rw [hjn, ← HML.out, List.take_length] at h1
            exact h1
           clear hjn hjt
           obtain ⟨m2, hm2⟩ : ∃ m2, m2 = m.filter (keepA ⟨xk, xd, xn⟩) := ⟨_, rfl⟩
           have HM2 := Lib.hid hm2
           rw [← hm2] at HFIN
           have HM2O : Hid (DrsOk m2) := by show DrsOk m2; rw [hm2]; exact HMO.out.filter _
           have hm2l : m2.length ≤ 60 := by
            have h1 := List.length_filter_le (keepA ⟨xk, xd, xn⟩) m
            have h2 := HMLL.out
            rw [hm2]; omega
           have HM2L : Hid (m2.length ≤ 1000000) := by show _ ≤ _; omega
           have HMX : Hid (m.length ≤ 1000000) := Nat.le_trans HMLL.out (by omega)
           have HPz := Lib.hid (HP.out.on HC.out HB.out)
           have HBOXz := Lib.hid (HBOX.out.on HB.out)
           obtain ⟨ad9, cap9, rfl, hr9, hfar9⟩ := OwnRow.at drK_ok HFIN.out
           obtain ⟨n9, hn9⟩ : ∃ n9, n9 = m2.length := ⟨_, rfl⟩
           rw [← hn9] at hr9 ⊢
           have HR9 := Lib.hid hr9
           have HFAR9 := Lib.hid hfar9
           have r0 := HBOXz.out.c0
           have f0 := HBOXz.out.free 0
           clear hr9 hfar9 hm2 hn9
           go_upto_region 26 with fail
           obtain ⟨W5, hW5⟩ : ∃ y, y = wi.setCell ⟨kp, 0, none⟩ (.slice ad9 n9 cap9) := ⟨_, rfl⟩
           have hg5 : wi.grownBy W5 (some kp) := by rw [hW5]; exact grow_set (grow_refl _ _) 0 _
           have hne : ∀ a, ad9 = some a → a.block ≠ kp := fun a ha e => by have h1 := (HFAR9.out a ha).1; have h2 := HP.out.p.lt; omega
           have hbx5 : LBox W5 kp (.slice ad9 n9 cap9) z := by rw [hW5]; exact HBOXz.out.s0 _
           have hr5 : RowAt drK W5 ad9 n9 cap9 m2 := by rw [hW5]; exact HR9.out.off hne _ _
           have hla5 : LAtP (fun b => ¬ F b ∧ w.heap.size ≤ b) W5 kp m2 z := ⟨ad9, n9, cap9, hbx5, hr5, fun a ha => ⟨hne a ha, HP.out.up HC.out _ (HFAR9.out a ha).1, Nat.lt_of_lt_of_le (HFAR9.out a ha).2 hg5.size⟩⟩
           have HP5 := Lib.hid (HPz.out.put HC.out hla5 hg5)
           have HBX5 := Lib.hid hbx5
           have HR5 := Lib.hid hr5
           (try rw [← hW5])
           clear hW5 hg5 hne hbx5 hr5 hla5 r0 f0 HPz HBOXz HR9 HB HO HFIN
           have HCELL : Hid (∀ V, Below w.heap.size w V → AkAt V bl (ol + i * 5) ⟨xk, xd, xn⟩) := fun V hV => HATW.out.on hV HBL.out
           have a0 := (HCELL.out _ HP5.out.below).c0
           have a4 := (HCELL.out _ HP5.out.below).c4
           simp only at a0 a4
           have hcs : xk = 5 ∨ xk = 6 ∨ (xk ≠ 5 ∧ xk ≠ 6) := by omega
           rcases hcs with hk | hk | ⟨hk, hk2⟩
           · as_aux_lemma =>
              obtain ⟨e5, e5d⟩ := ab_eq (hk)
              obtain ⟨e6, e6d⟩ := ab_ne ((ab_5 hk).1)
              go_wp2_with fail
              refine (HC.out.cut F W5 a m xn HP5.out.r HMO.out HMX.out).mono ?_
              rintro e w6 ⟨F6, rfl, hr, hkp, hfn⟩
              rw [← keepA_cut (x := ⟨xk, xd, xn⟩) hk, ← HM2.out] at hr
              have hbx6 := HBX5.out.kept hkp HP5.out.no
              have HP6 := Lib.hid (HP5.out.turn HC.out hr hkp hfn)
              have HBX6 := Lib.hid hbx6
              have hrow6 : RowAt drK w6 ad9 n9 cap9 m2 := hkp.row HR5.out (fun a ha => (HP5.out.up2 HBX5.out a ha))
              have HR6 := Lib.hid hrow6
              clear hr hkp hfn hbx6 hrow6 a0 a4 HP5 HBX5 HR5
              have a0 := (HCELL.out _ HP6.out.below).c0
              have a4 := (HCELL.out _ HP6.out.below).c4
              simp only at a0 a4
              have KS : Hid (∀ V, Below w6.heap.size w6 V → (fun (V : World) => V.cell? ⟨kp, 0, none⟩ = some (.slice ad9 n9 cap9)) V) := fun V hV => (HBX6.out.on hV).c0
              have hdrw : Below w6.heap.size w6 w6.drew := (Below.refl _ _).drew
              go_upto_region 30 with fail
              refine wp_region_noPanic ?_
              refine wp_region_z [] (fun (V : World) => V.cell? ⟨kp, 0, none⟩ = some (.slice ad9 n9 cap9)) (by kernel_rfl) ?_
              have hHeld := KS.out _ hdrw
              obtain ⟨ug_0, hu⟩ : ∃ u, u = w6.drew := ⟨_, rfl⟩
              rw [← hu] at hHeld hdrw
              rw [← hu]
              clear hu
              have HU := Lib.hid hdrw
              clear hdrw
              refine zt 0 ?_
              refine zt 2 ?_
              refine zt 3 ?_
              refine zt 4 ?_
              refine zt 5 ?_
              refine zr 1 (fun C hC => ?_)
              go_simp
              refine (HC.out.all _ ug_0 a m2 (HP6.out.on HC.out HU.out).r HM2O.out HM2L.out).mono ?_
              rintro e ug_1 ⟨qa, qn, qc, rfl, hr, hb⟩
              have HQ := Lib.hid hr
              replace HU := Lib.hid (HU.out.trans (hb.mono HU.out.size))
              clear hr hb
              have hHeld := KS.out _ HU.out
              refine zc hC hHeld ?_
              clear hC C
              refine zr 6 (fun C hC => ?_)
              go_simp
              refine (drSame2_any ug_1 qa ad9 qn n9 qc cap9 m2 HQ.out (HR6.out.keep HU.out) HM2L.out).mono ?_
              rintro e ug_2 ⟨rfl, hb⟩
              replace HU := Lib.hid (HU.out.trans (hb.mono HU.out.size))
              clear hb HQ
              have hHeld := KS.out _ HU.out
              refine zc hC hHeld ?_
              clear hC C
              refine zt 7 ?_
              refine wpAnyZ_done (by kernel_rfl) ?_ _
              refine NoPanic.normal ?_
              clear hHeld KS
              have HP7 := Lib.hid (HP6.out.on HC.out HU.out)
              clear HU
              go_wp2
              go_roundw
              case rel => exact ⟨i + 1, _, m2, z, rfl, by omega, by omega, hm2l, HM2O.out, HP7.out⟩
              case measure => simp [intOf]; omega
           · as_aux_lemma =>
              obtain ⟨e5, e5d⟩ := ab_ne ((ab_6 hk).1)
              obtain ⟨e6, e6d⟩ := ab_eq (hk)
              go_wp2_with fail
              refine (HC.out.start F W5 a m xn HP5.out.r HMO.out HMX.out).mono ?_
              rintro e w6 ⟨F6, rfl, hr, hkp, hfn⟩
              rw [← keepA_start (x := ⟨xk, xd, xn⟩) hk, ← HM2.out] at hr
              have hbx6 := HBX5.out.kept hkp HP5.out.no
              have HP6 := Lib.hid (HP5.out.turn HC.out hr hkp hfn)
              have HBX6 := Lib.hid hbx6
              have hrow6 : RowAt drK w6 ad9 n9 cap9 m2 := hkp.row HR5.out (fun a ha => (HP5.out.up2 HBX5.out a ha))
              have HR6 := Lib.hid hrow6
              clear hr hkp hfn hbx6 hrow6 a0 a4 HP5 HBX5 HR5
              have a0 := (HCELL.out _ HP6.out.below).c0
              have a4 := (HCELL.out _ HP6.out.below).c4
              simp only at a0 a4
              have KS : Hid (∀ V, Below w6.heap.size w6 V → (fun (V : World) => V.cell? ⟨kp, 0, none⟩ = some (.slice ad9 n9 cap9)) V) := fun V hV => (HBX6.out.on hV).c0
              have hdrw : Below w6.heap.size w6 w6.drew := (Below.refl _ _).drew
              go_upto_region 30 with fail
              refine wp_region_noPanic ?_
              refine wp_region_z [] (fun (V : World) => V.cell? ⟨kp, 0, none⟩ = some (.slice ad9 n9 cap9)) (by kernel_rfl) ?_
              have hHeld := KS.out _ hdrw
              obtain ⟨ug_0, hu⟩ : ∃ u, u = w6.drew := ⟨_, rfl⟩
              rw [← hu] at hHeld hdrw
              rw [← hu]
              clear hu
              have HU := Lib.hid hdrw
              clear hdrw
              refine zt 0 ?_
              refine zt 2 ?_
              refine zt 3 ?_
              refine zt 4 ?_
              refine zt 5 ?_
              refine zr 1 (fun C hC => ?_)
              go_simp
              refine (HC.out.all _ ug_0 a m2 (HP6.out.on HC.out HU.out).r HM2O.out HM2L.out).mono ?_
              rintro e ug_1 ⟨qa, qn, qc, rfl, hr, hb⟩
              have HQ := Lib.hid hr
              replace HU := Lib.hid (HU.out.trans (hb.mono HU.out.size))
              clear hr hb
              have hHeld := KS.out _ HU.out
              refine zc hC hHeld ?_
              clear hC C
              refine zr 6 (fun C hC => ?_)
              go_simp
              refine (drSame2_any ug_1 qa ad9 qn n9 qc cap9 m2 HQ.out (HR6.out.keep HU.out) HM2L.out).mono ?_
              rintro e ug_2 ⟨rfl, hb⟩
              replace HU := Lib.hid (HU.out.trans (hb.mono HU.out.size))
              clear hb HQ
              have hHeld := KS.out _ HU.out
              refine zc hC hHeld ?_
              clear hC C
              refine zt 7 ?_
              refine wpAnyZ_done (by kernel_rfl) ?_ _
              refine NoPanic.normal ?_
              clear hHeld KS
              have HP7 := Lib.hid (HP6.out.on HC.out HU.out)
              clear HU
              go_wp2
              go_roundw
              case rel => exact ⟨i + 1, _, m2, z, rfl, by omega, by omega, hm2l, HM2O.out, HP7.out⟩
              case measure => simp [intOf]; omega
           · as_aux_lemma =>
              obtain ⟨e5, e5d⟩ := ab_ne (hk)
              obtain ⟨e6, e6d⟩ := ab_ne (hk2)
              have hmm : m2 = m := by rw [HM2.out]; exact keepA_all hk hk2 m
              subst hmm
              have KS : Hid (∀ V, Below W5.heap.size W5 V → (fun (V : World) => V.cell? ⟨kp, 0, none⟩ = some (.slice ad9 n9 cap9)) V) := fun V hV => (HBX5.out.on hV).c0
              have hdrw : Below W5.heap.size W5 W5.drew := (Below.refl _ _).drew
              go_upto_region 30 with fail
              refine wp_region_noPanic ?_
              refine wp_region_z [] (fun (V : World) => V.cell? ⟨kp, 0, none⟩ = some (.slice ad9 n9 cap9)) (by kernel_rfl) ?_
              have hHeld := KS.out _ hdrw
              obtain ⟨ug_0, hu⟩ : ∃ u, u = W5.drew := ⟨_, rfl⟩
              rw [← hu] at hHeld hdrw
              rw [← hu]
              clear hu
              have HU := Lib.hid hdrw
              clear hdrw
              refine zt 0 ?_
              refine zt 2 ?_
              refine zt 3 ?_
              refine zt 4 ?_
              refine zt 5 ?_
              refine zr 1 (fun C hC => ?_)
              go_simp
              refine (HC.out.all _ ug_0 a m2 (HP5.out.on HC.out HU.out).r HM2O.out HM2L.out).mono ?_
              rintro e ug_1 ⟨qa, qn, qc, rfl, hr, hb⟩
              have HQ := Lib.hid hr
              replace HU := Lib.hid (HU.out.trans (hb.mono HU.out.size))
              clear hr hb
              have hHeld := KS.out _ HU.out
              refine zc hC hHeld ?_
              clear hC C
              refine zr 6 (fun C hC => ?_)
              go_simp
              refine (drSame2_any ug_1 qa ad9 qn n9 qc cap9 m2 HQ.out (HR5.out.keep HU.out) HM2L.out).mono ?_
              rintro e ug_2 ⟨rfl, hb⟩
              replace HU := Lib.hid (HU.out.trans (hb.mono HU.out.size))
              clear hb HQ
              have hHeld := KS.out _ HU.out
              refine zc hC hHeld ?_
              clear hC C
              refine zt 7 ?_
              refine wpAnyZ_done (by kernel_rfl) ?_ _
              refine NoPanic.normal ?_
              clear hHeld KS
              have HP7 := Lib.hid (HP5.out.on HC.out HU.out)
              clear HU
              go_wp2
              go_roundw
              case rel => exact ⟨i + 1, _, m2, z, rfl, by omega, by omega, hm2l, HM2O.out, HP7.out⟩
              case measure => simp [intOf]; omega
      · have hex : decide (i < len) = false ∨ (decide (i < len) = true ∧ decide (i < 60) = false ∧ decide ((i : Int) < 60) = false ∧ (60 : Int) ≤ (i : Int) ∧ (i : Int) < (len : Int)) := by
         by_cases h1 : i < len
         · exact .inr ⟨decide_eq_true h1, decide_eq_false (fun h2 => hlt ⟨h1, h2⟩), decide_eq_false (by omega), by omega, by omega⟩
         · exact .inl (decide_eq_false h1)
        clear hlt
        rcases hex with hd1 | ⟨hd1, hd2, hd3, hd4, hd5⟩
        all_goals
         go_wp2
         go_ret
         exact ⟨rfl, HP.out.below⟩
end Go.Proofs.Ytbejincejbnbaaa
namespace Go.Proofs.Ytbejincejbnbaaa
open Go.RowKit
open Go.AbMath
open Go.ProdMath
open Go.BatMath hiding AllB getD_lt take_all
set_option linter.unusedVariables false

def ka : Dr := ⟨1, 2, 5⟩
def kb : Dr := ⟨1, 6, 5⟩
def kc : Dr := ⟨2, 1, 9⟩
theorem k_add1 : addD [] ka = [ka] := by unfold addD; rw [if_pos (by decide)]; rfl
theorem k_add2 : addD [ka] kb = [ka] := by unfold addD; rw [if_neg (by decide)]
theorem k_add3 : addD [ka] kc = [ka, kc] := by unfold addD; rw [if_pos (by decide)]; rfl
theorem k_ok1 : DrsOk [ka] := by rw [← k_add1]; exact DrsOk.nil.add ka
theorem k_ok3 : DrsOk [ka, kc] := by rw [← k_add3]; exact k_ok1.add kc
theorem k_in2 : withinD [ka, kc] 5 6 = [ka, kc] := by
 unfold withinD
 rw [List.filter_cons_of_pos (by decide), List.filter_cons_of_pos (by decide)]
 rfl
theorem k_in0 : withinD [ka, kc] 5 5 = [] := by
 unfold withinD
 rw [List.filter_cons_of_neg (by decide), List.filter_cons_of_neg (by decide)]
 rfl
theorem k_cut : cutD [ka, kc] 9 = [ka] := by
 unfold cutD
 rw [List.filter_cons_of_pos (by decide), List.filter_cons_of_neg (by decide)]
 rfl
theorem k_prods : ∀ d ∈ [ka, kc], In64 d.prod := fun d hd => by
 simp only [List.mem_cons, List.not_mem_nil, or_false] at hd
 rcases hd with rfl | rfl
 · exact ⟨by decide, by decide⟩
 · exact ⟨by decide, by decide⟩
set_option maxRecDepth 100000 in
set_option maxHeartbeats 8000000 in
theorem known13_any {R : (Nat → Prop) → World → Addr → List Dr → Prop} (C : AbCode R) (w : World) : Calls Try.prog 15 #[] w (GivesBool w true) := by
 have HC := Lib.hid C
 clear C
 go_enter Try.func15, Try.ntmps15
 go_wp2_with fail
 refine (HC.out.new w).mono ?_
 rintro e w1 ⟨a, F1, rfl, hr, hf, hb1⟩
 have HR1 := Lib.hid hr
 have HF1 := Lib.hid hf
 have HB1 := Lib.hid hb1
 clear hr hf hb1
 go_wp2_with fail
 refine (HC.out.add F1 w1 a [] ka HR1.out DrsOk.nil (by decide)).mono ?_
 rintro e w2 ⟨F2, rfl, hr, hkp, hfn⟩
 rw [k_add1] at hr
 have HR2 := Lib.hid hr
 have HF2 : Hid (∀ k, F2 k → w.heap.size ≤ k) := fun k hk => by
  rcases hfn k hk with h | h
  · exact HF1.out k h
  · exact Nat.le_trans HB1.out.size h
 have HB2 : Hid (Below w.heap.size w w2) := HB1.out.trans (hkp.below HF1.out HB1.out.size)
 rw [show decide (okD (lastD []) ka) = true from by decide]
 clear hr hkp hfn HR1 HB1 HF1
 go_wp2_with fail
 refine (HC.out.add F2 w2 a [ka] kb HR2.out k_ok1 (by decide)).mono ?_
 rintro e w3 ⟨F3, rfl, hr, hkp, hfn⟩
 rw [k_add2] at hr
 have HR3 := Lib.hid hr
 have HF3 : Hid (∀ k, F3 k → w.heap.size ≤ k) := fun k hk => by
  rcases hfn k hk with h | h
  · exact HF2.out k h
  · exact Nat.le_trans HB2.out.size h
 have HB3 : Hid (Below w.heap.size w w3) := HB2.out.trans (hkp.below HF2.out HB2.out.size)
 rw [show decide (okD (lastD [ka]) kb) = false from by decide]
 clear hr hkp hfn HR2 HB2 HF2
 go_wp2_with fail
 refine (HC.out.add F3 w3 a [ka] kc HR3.out k_ok1 (by decide)).mono ?_
 rintro e w4 ⟨F4, rfl, hr, hkp, hfn⟩
 rw [k_add3] at hr
 have HR4 := Lib.hid hr
 have HF4 : Hid (∀ k, F4 k → w.heap.size ≤ k) := fun k hk => by
  rcases hfn k hk with h | h
  · exact HF3.out k h
  · exact Nat.le_trans HB3.out.size h
 have HB4 : Hid (Below w.heap.size w w4) := HB3.out.trans (hkp.below HF3.out HB3.out.size)
 rw [show decide (okD (lastD [ka]) kc) = true from by decide]
 clear hr hkp hfn HR3 HB3 HF3
 have HR5 := HR4
 go_wp2_with fail
 refine (HC.out.within F4 w4 a [ka, kc] 5 6 HR4.out k_ok3 (by decide)).mono ?_
 rintro e w5 ⟨xa, xn, xc, rfl, hx, hb5⟩
 rw [k_in2] at hx
 have hxn : xn = 2 := hx.length.symm
 subst hxn
 clear HR5
 have HR5 := Lib.hid (HC.out.keep HR4.out hb5)
 have HB5 := Lib.hid (HB4.out.trans (hb5.mono HB4.out.size))
 clear hx hb5 HR4 HB4
 go_wp2_with fail
 refine (HC.out.within F4 w5 a [ka, kc] 5 5 HR5.out k_ok3 (by decide)).mono ?_
 rintro e w6 ⟨ya, yn, yc, rfl, hy, hb6⟩
 rw [k_in0] at hy
 have hyn : yn = 0 := hy.length.symm
 subst hyn
 have HR6 := Lib.hid (HC.out.keep HR5.out hb6)
 have HB6 := Lib.hid (HB5.out.trans (hb6.mono HB5.out.size))
 clear hy hb6 HR5 HB5
 go_wp2_with fail
 refine (HC.out.bytes F4 w6 a [ka, kc] HR6.out k_ok3 (by decide) k_prods).mono ?_
 rintro e w7 ⟨v, rfl, g, cg, rfl, hcg, hg, hpre, hb7⟩
 have hin := k_ok3.isIn k_prods
 have hall : CrcMath.AllB (bytesA [ka, kc]) := CrcMath.sealB_all (bodyA_all hin (by decide))
 have hlen2 : (bytesA [ka, kc]).length ≤ 1048600 := by
  unfold bytesA bodyA
  have h1 := (drsS_len hin).2
  have h2 := (encL (SnapMath.in_nat (n := [ka, kc].length) (by decide))).2
  rw [CrcMath.length_sealB, List.length_append]
  simp only [List.length_cons, List.length_nil] at *
  omega
 have his : IsAb (bytesA [ka, kc]) [ka, kc] := ⟨k_ok3, k_prods, rfl⟩
 obtain ⟨q, hq⟩ : ∃ q, q = bytesA [ka, kc] := ⟨_, rfl⟩
 rw [← hq] at hpre hcg hall hlen2 his ⊢
 have hy := hpre.byt hall cg hcg
 obtain ⟨Lq, hLq⟩ : ∃ Lq, q.length = Lq := ⟨_, rfl⟩
 rw [hLq] at hy ⊢
 have HY := Lib.hid hy
 have HIS := Lib.hid his
 have HQL : Hid (q.length ≤ 1048600) := hlen2
 have HR7 := Lib.hid (HC.out.keep HR6.out hb7)
 have HB7 := Lib.hid (HB6.out.trans (hb7.mono HB6.out.size))
 clear hpre hcg hg hall hlen2 his hy hLq hq hb7 hin HR6 HB6
 go_wp2_with fail
 refine (HC.out.read w7 (some ⟨g, 0, none⟩) Lq cg q HY.out HQL.out).mono ?_
 rintro e w8 ⟨hb8, hc⟩
 rcases hc with ⟨ax, lx, Fx, rfl, hx, hfx, hsx⟩ | ⟨rfl, hno⟩
 case inr => exact absurd HIS.out (hno _)
 have hone := IsAb.one hsx HIS.out HQL.out
 subst hone
 have HX8 := Lib.hid hx
 have HFx : Hid (∀ k, Fx k → w7.heap.size ≤ k) := hfx
 have HS7 : Hid (∀ k, F4 k → k < w7.heap.size) := HC.out.lt _ _ _ _ HR7.out
 have HR8 := Lib.hid (HC.out.keep HR7.out hb8)
 have HB8 := Lib.hid (HB7.out.trans (hb8.mono HB7.out.size))
 clear hx hfx hsx hb8 HR7 HB7 HY HIS HQL
 go_wp2_with fail
 refine (HC.out.read w8 none 0 0 [] (Byt.nil w8) (by decide)).mono ?_
 rintro e w9 ⟨hb9, hc⟩
 rcases hc with ⟨a9, l9, F9, rfl, _, _, hs9⟩ | ⟨rfl, hno⟩
 · have h1 := hs9.2.2
   have h2 := congrArg List.length h1
   unfold bytesA at h2
   rw [CrcMath.length_sealB] at h2
   simp only [List.length_nil] at h2
   omega
 have HX9 := Lib.hid (HC.out.keep HX8.out hb9)
 have HR9 := Lib.hid (HC.out.keep HR8.out hb9)
 have HB9 := Lib.hid (HB8.out.trans (hb9.mono HB8.out.size))
 clear hno hb9 HX8 HR8 HB8
 go_wp2_with fail
 refine (HC.out.all F4 w9 a _ HR9.out k_ok3 (by decide)).mono ?_
 rintro e wa ⟨za, zn, zc, rfl, hz, hba⟩
 have hzn : zn = 2 := hz.length.symm
 subst hzn
 have HXa := Lib.hid (HC.out.keep HX9.out hba)
 have HRa := Lib.hid (HC.out.keep HR9.out hba)
 have HBa := Lib.hid (HB9.out.trans (hba.mono HB9.out.size))
 clear hz hba HX9 HR9 HB9
 go_wp2_with fail
 refine (HC.out.cut F4 wa a _ 9 HRa.out k_ok3 (by decide)).mono ?_
 rintro e wb ⟨F5, rfl, hr, hkp, hfn⟩
 rw [k_cut] at hr
 have HRb := Lib.hid hr
 have HXb := Lib.hid (HC.out.kept Fx F4 wa wb ax _ HXa.out hkp (fun k hk h => by have := HFx.out k hk; have := HS7.out k h; omega))
 have HBb : Hid (Below w.heap.size w wb) := HBa.out.trans (hkp.below HF4.out HBa.out.size)
 clear hr hkp hfn HXa HRa HBa
 go_wp2_with fail
 refine (HC.out.all Fx wb ax _ HXb.out k_ok3 (by decide)).mono ?_
 rintro e wc ⟨ua, un, uc, rfl, hu, hbc⟩
 have hun : un = 2 := hu.length.symm
 subst hun
 have HRc := Lib.hid (HC.out.keep HRb.out hbc)
 have HBc := Lib.hid (HBb.out.trans (hbc.mono HBb.out.size))
 clear hu hbc HXb HRb HBb
 go_wp2_with fail
 refine (HC.out.all F5 wc a [ka] HRc.out k_ok1 (by decide)).mono ?_
 rintro e wd ⟨va, vn, vc, rfl, hv, hbd⟩
 have hvn : vn = 1 := hv.length.symm
 subst hvn
 have HBd := Lib.hid (HBc.out.trans (hbd.mono HBc.out.size))
 clear hv hbd HRc HBc
 go_wp2_with fail
 refine (HC.out.of wd none 0 0 [] 0 ⟨rowAt_nil _, fun m hm => by cases hm⟩ (by decide) (fun b hb => by cases hb) RowD.nil (by decide) (by decide)).mono ?_
 rintro e we ⟨ao, Fo, rfl, ho, -, hbe⟩
 have HO := Lib.hid ho
 have HBe := Lib.hid (HBd.out.trans (hbe.mono HBd.out.size))
 clear ho hbe HBd
 go_wp2_with fail
 refine (HC.out.all Fo we ao _ HO.out DrsOk.nil (by decide)).mono ?_
 rintro e wf ⟨ta, tn, tc, rfl, ht, hbf⟩
 have htn : tn = 0 := ht.length.symm
 subst htn
 have HBf := Lib.hid (HBe.out.trans (hbf.mono HBe.out.size))
 clear ht hbf HBe HO
 go_wp2
 go_ret
 exact ⟨rfl, HBf.out⟩
end Go.Proofs.Ytbejincejbnbaaa
namespace Go.Proofs.Ytbejincejbnbaaa
open Go.RowKit
open Go.AbMath
open Go.ProdMath
open Go.BatMath hiding AllB getD_lt take_all In64
set_option linter.unusedVariables false

theorem nums_cell {w : World} {ad : Option Addr} {len : Nat} {zs : List Int} (h : Nums w ad len zs) {i : Nat} (hi : i < len) : ∃ b off z, ad = some ⟨b, off, none⟩ ∧ b < w.heap.size ∧ w.cell? ⟨b, off + i, none⟩ = some (.int .i64 z) ∧ In64 z := by
 rcases h.cells with h0 | ⟨b, off, e, hc⟩
 · omega
 · have h1 := hc i hi
   refine ⟨b, off, _, e, World.block_lt_of_cell? w _ h1, h1, h.all _ ?_⟩
   have hl : i < zs.length := by rw [h.length]; exact hi
   rw [List.getD_eq_getElem?_getD, List.getElem?_eq_getElem hl]
   exact List.getElem_mem hl
theorem wrap_in (n : Int) : In64 (wrap64 n) := ⟨by unfold wrap64; omega, by unfold wrap64; omega⟩
theorem in_zero : In64 0 := ⟨by decide, by decide⟩
theorem mask2 (a : Int) : bits .and .i64 a 3 = a % 4 := by
 have h1 : (BitVec.ofInt 64 3).toNat = 2 ^ 2 - 1 := by decide
 have key : (BitVec.ofInt 64 a &&& BitVec.ofInt 64 3).toNat = (a % ((2 ^ 64 : Nat) : Int)).toNat % 2 ^ 2 := by
  rw [BitVec.toNat_and, BitVec.toNat_ofInt, h1, Nat.and_two_pow_sub_one_eq_mod]
 show IntKind.i64.wrap ((BitVec.ofInt 64 a &&& BitVec.ofInt 64 3).toNat : Nat) = _
 rw [key, IntKind.wrap_i64]
 omega
theorem mask5 (a : Int) : bits .and .i64 a 31 = a % 32 := by
 have h1 : (BitVec.ofInt 64 31).toNat = 2 ^ 5 - 1 := by decide
 have key : (BitVec.ofInt 64 a &&& BitVec.ofInt 64 31).toNat = (a % ((2 ^ 64 : Nat) : Int)).toNat % 2 ^ 5 := by
  rw [BitVec.toNat_and, BitVec.toNat_ofInt, h1, Nat.and_two_pow_sub_one_eq_mod]
 show IntKind.i64.wrap ((BitVec.ofInt 64 a &&& BitVec.ofInt 64 31).toNat : Nat) = _
 rw [key, IntKind.wrap_i64]
 omega
set_option maxRecDepth 100000 in
set_option maxHeartbeats 16000000 in
theorem abTells_any {R : (Nat → Prop) → World → Addr → List Dr → Prop} (C : AbCode R) (K : ∀ W, Calls Try.prog 15 #[] W (GivesBool W true)) (w : World)
 (tad : Option Addr) (tlen tcap : Nat) (tz : List Int) (ht : Nums w tad tlen tz) (htl : tlen ≤ 140737488355328)
 (lad : Option Addr) (llen lcap : Nat) (ks : List Ak) (hks : RowAt akK w lad llen lcap ks) (hkl : llen ≤ 140737488355300) (hkin : ∀ x ∈ ks, In64 x.d.prod ∧ In64 x.n) (fr t0 : Int)
 (rad : Option Addr) (rlen rcap : Nat) (raw : List Nat) (hraw : Row w rad rlen rcap raw) (hrl : rlen ≤ 1048590)
 (nad : Option Addr) (nlen ncap : Nat) (zs : List Int) (hns : Nums w nad nlen zs) (hnl : nlen ≤ 1048576) :
 Calls Try.prog 4 #[.slice tad tlen tcap, .slice lad llen lcap, .int .i64 fr, .int .i64 t0, .slice rad rlen rcap, .slice nad nlen ncap] w (GivesBool w true) := by
 have HC := Lib.hid C
 have HK := Lib.hid K
 have HT := Lib.hid ht
 have HKS := Lib.hid hks
 have HKI := Lib.hid hkin
 have HRAW := Lib.hid hraw
 have HNS := Lib.hid hns
 have HM2 : Hid (∀ a, bits .and .i64 a 3 = a % 4) := mask2
 clear C K ht hks hkin hraw hns
 go_enter Try.func4, Try.ntmps4
 go_wp2
 go_loopw [13, 14, 18] (fun v13 v14 v18 wr => ∃ (i : Nat) (u : Value) (ls : List Ak) (a : Int), u = v13 ∧ v14 = .int .i64 a ∧ v18 = .int .i64 (i : Int) ∧ i ≤ nlen ∧ Hid (In64 a) ∧ Hid (OwnRow akK wr w.heap.size u ls) ∧ Hid (ls.length = i) ∧ Hid (∀ x ∈ ls, In64 x.d.prod ∧ In64 x.n) ∧ Hid (Below w.heap.size w wr)) (fun _ _ v18 _ => nlen - (intOf v18).toNat)
 case atStart => exact ⟨0, _, [], 0, rfl, rfl, rfl, Nat.zero_le _, ⟨by decide, by decide⟩, ownRow_nil _ _ _, rfl, (fun x hx => by cases hx), Below.refl _ _⟩
 case round =>
  obtain ⟨i, u, ls, a, rfl, rfl, rfl, hi, HA, HO, HL, HI, HB⟩ := hrel
  obtain ⟨wo, hwo⟩ : ∃ wo : World, wo = wr := ⟨_, rfl⟩
  subst hwo
  by_cases hlt : i < nlen
  · have hd : decide (i < nlen) = true := decide_eq_true hlt
    have hij : (i : Int) < (nlen : Int) := by omega
    obtain ⟨nb, no, z, el, hnb, hc0, hz⟩ := nums_cell HNS.out hlt
    have hc : wo.cell? ⟨nb, no + i, none⟩ = some (.int .i64 z) := (HB.out.cell (p := ⟨nb, no + i, none⟩) hnb).trans hc0
    clear hc0
    subst el
    obtain ⟨k7, hk7⟩ : ∃ x, bits .and .i64 z 7 = x := ⟨_, rfl⟩
    obtain ⟨p3, hp3⟩ : ∃ x, bits .and .i64 z 3 = x := ⟨_, rfl⟩
    go_upto_region 7 with fail
    obtain ⟨a2, ha2⟩ : ∃ x, x = wrap64 (a + k7) := ⟨_, rfl⟩
    rw [← ha2]
    have HA2 : Hid (In64 a2) := by show In64 a2; rw [ha2]; exact wrap_in _
    have HP3 : Hid (In64 p3) := by show In64 p3; rw [← hp3, mask2]; exact ⟨by omega, by omega⟩
    clear ha2 hk7
    have KS : Hid (∀ V, Below wo.heap.size wo V → (fun (V : World) => V.cell? ⟨nb, no + i, none⟩ = some (.int .i64 z)) V) := fun V hV => (hV.cell (p := ⟨nb, no + i, none⟩) (Nat.lt_of_lt_of_le hnb HB.out.size)).trans hc
    have hdrw : Below wo.heap.size wo wo.drew := (Below.refl _ wo).drew
    refine wp_region_noPanic ?_
    refine wp_region_z [] (fun (V : World) => V.cell? ⟨nb, no + i, none⟩ = some (.int .i64 z)) (by kernel_rfl) ?_
    have hHeld := KS.out _ hdrw
    obtain ⟨u0, hu⟩ : ∃ u, u = wo.drew := ⟨_, rfl⟩
    rw [← hu] at hHeld hdrw
    rw [← hu]
    clear hu
    have HU := Lib.hid hdrw
    clear hdrw
    refine zt 0 ?_
    refine zt 1 ?_
    refine zt 2 ?_
    refine zt 3 ?_
    refine zt 4 ?_
    refine zt 5 ?_
    refine zt 6 ?_
    refine zt 7 ?_
    refine zt 8 ?_
    refine zt 9 ?_
    refine zt 10 ?_
    refine zt 11 ?_
    refine zt 12 ?_
    refine zt 13 ?_
    refine zt 14 ?_
    refine zt 15 ?_
    refine zt 16 ?_
    refine zt 17 ?_
    refine zt 18 ?_
    refine zt 19 ?_
    refine zt 20 ?_
    refine zt 21 ?_
    refine zt 22 ?_
    refine zt 23 ?_
    refine zt 24 ?_
    refine zr 25 (fun C hC => ?_)
    go_simp
    obtain ⟨fi, hfi⟩ : ∃ x, x = (if IntKind.i64.wrap (a2 - bits .and .i64 (z / 16) 15) < 0 then 0 else IntKind.i64.wrap (a2 - bits .and .i64 (z / 16) 15)) := ⟨_, rfl⟩
    obtain ⟨kk, hkk⟩ : ∃ x, x = bits .and .i64 (z / 256) 3 := ⟨_, rfl⟩
    rw [← hfi, ← hkk]
    clear hfi hkk
    obtain ⟨u2, hu2⟩ : ∃ y, y = u0.alloc (.cells #[.int .i64 kk, .int .i64 p3, .int .i64 fi, .int .i64 a2, .int .i64 a2] 31) := ⟨_, rfl⟩
    obtain ⟨Qb, hQ⟩ : ∃ y, y = u0.heap.size := ⟨_, rfl⟩
    have hb2 : Below u0.heap.size u0 u2 := by rw [hu2]; exact (Below.refl _ _).alloc (Nat.le_refl _) _
    have HLIT : Hid (RowAt akK u2 (some ⟨Qb, 0, none⟩) 1 1 [⟨kk, ⟨p3, fi, a2⟩, a2⟩]) := by
     show RowAt _ _ _ _ _ _
     rw [hu2, hQ]
     exact rowAt_lit akK_ok u0 [⟨kk, ⟨p3, fi, a2⟩, a2⟩] (by simp) _ rfl 1 rfl
    replace HU := Lib.hid (HU.out.trans (hb2.mono HU.out.size))
    (try rw [← hu2, ← hQ])
    clear hu2 hQ hb2
    have hHeld := KS.out _ HU.out
    refine zc hC hHeld ?_
    clear hC C
    refine zr 26 (fun C hC => ?_)
    refine held_row (by rfl) akK_ok (.tmp 28) (.tmp 53) rfl w.heap.size ls [⟨kk, ⟨p3, fi, a2⟩, a2⟩] _ rfl (HO.out.on HU.out) (Nat.le_trans HB.out.size HU.out.size) (some ⟨Qb, 0, none⟩) 1 1 rfl HLIT.out (by have := HL.out; omega) ?_
    rintro v2 u3 hap
    have HO2 := Lib.hid hap.1
    have hu3 : ∀ q, u.ownBlock = some q → w.heap.size ≤ q := fun q hq => (HO.out.lt q hq).1
    have HB2 : Hid (Below w.heap.size w u3) := (HB.out.trans (HU.out.mono HB.out.size)).grown hap.2.1 (Nat.le_trans HB.out.size HU.out.size) hu3
    have HL2 : Hid ((ls ++ [(⟨kk, ⟨p3, fi, a2⟩, a2⟩ : Ak)]).length = i + 1) := by show _ = _; rw [List.length_append, HL.out]; rfl
    have HI2 : Hid (∀ x ∈ ls ++ [(⟨kk, ⟨p3, fi, a2⟩, a2⟩ : Ak)], In64 x.d.prod ∧ In64 x.n) := fun x hx => by
     rcases List.mem_append.1 hx with hx | hx
     · exact HI.out x hx
     · rw [List.mem_singleton.1 hx]; exact ⟨HP3.out, HA2.out⟩
    have hc3 : u3.cell? ⟨nb, no + i, none⟩ = some (.int .i64 z) := hap.2.1.cell (KS.out _ HU.out) (fun e => by have h1 := hu3 nb (show u.ownBlock = some nb from e.symm); omega)
    clear hap hu3 HLIT
    have hHeld : (fun (V : World) => V.cell? ⟨nb, no + i, none⟩ = some (.int .i64 z)) u3 := hc3
    refine zc hC hHeld ?_
    clear hC C hc3
    refine zt 27 ?_
    refine wpAnyZ_done (by kernel_rfl) ?_ _
    refine NoPanic.normal ?_
    clear hHeld KS HU HO HB HL HI hc
    go_wp2
    go_roundw
    case rel => exact ⟨i + 1, v2, ls ++ [(⟨kk, ⟨p3, fi, a2⟩, a2⟩ : Ak)], a2, rfl, rfl, rfl, hlt, HA2.out, HO2.out, HL2.out, HI2.out, HB2.out⟩
    case measure => exact ab_meas hlt
  · have hd : decide (i < nlen) = false := decide_eq_false hlt
    have hin : i = nlen := by omega
    have HLS : Hid (ls.length ≤ 1048576) := by show _ ≤ _; have := HL.out; omega
    obtain ⟨f7, hf7⟩ : ∃ x, bits .and .i64 fr 7 = x := ⟨_, rfl⟩
    obtain ⟨t31, ht31⟩ : ∃ x, bits .and .i64 t0 31 = x := ⟨_, rfl⟩
    clear hin
    obtain ⟨n5, hn5⟩ : ∃ x, wrap64 (a - f7) = x := ⟨_, rfl⟩
    obtain ⟨f63, hf63⟩ : ∃ x, bits .and .i64 fr 63 = x := ⟨_, rfl⟩
    obtain ⟨t63, ht63⟩ : ∃ x, bits .and .i64 t0 63 = x := ⟨_, rfl⟩
    have HN5 : Hid (In64 n5) := by show In64 n5; rw [← hn5]; exact wrap_in _
    have HT31 : Hid (In64 t31) := by show In64 t31; rw [← ht31, mask5]; exact ⟨by omega, by omega⟩
    obtain ⟨W6, hW6⟩ : ∃ y, y = wo.alloc (.cells #[.int .i64 5, .int .i64 0, .int .i64 0, .int .i64 0, .int .i64 n5, .int .i64 6, .int .i64 0, .int .i64 0, .int .i64 0, .int .i64 t31] 31) := ⟨_, rfl⟩
    have hb6 : Below wo.heap.size wo W6 := by rw [hW6]; exact (Below.refl _ _).alloc (Nat.le_refl _) _
    have HLIT : Hid (RowAt akK W6 (some ⟨wo.heap.size, 0, none⟩) 2 2 [⟨5, ⟨0, 0, 0⟩, n5⟩, ⟨6, ⟨0, 0, 0⟩, t31⟩]) := by
     show RowAt _ _ _ _ _ _
     rw [hW6]
     exact rowAt_lit akK_ok wo [⟨5, ⟨0, 0, 0⟩, n5⟩, ⟨6, ⟨0, 0, 0⟩, t31⟩] (by simp) _ rfl 2 rfl
    have HO6 := Lib.hid (HO.out.on hb6)
    have HB6 := Lib.hid (HB.out.trans (hb6.mono HB.out.size))
    have HW6 := Lib.hid hW6
    clear hb6 hW6
    go_wp2_with (at_builtin; rw [← HW6.out]; refine list_row (by rfl) akK_ok (.tmp 56) (.tmp 65) rfl w.heap.size ls [⟨5, ⟨0, 0, 0⟩, n5⟩, ⟨6, ⟨0, 0, 0⟩, t31⟩] u rfl HO6.out HB6.out.size (some ⟨wo.heap.size, 0, none⟩) 2 2 rfl HLIT.out (by have := HLS.out; omega) ?_)
    intro v7 w7 hap
    have HB7 : Hid (Below w.heap.size w w7) := appended_below hap HO6.out HB6.out (Nat.le_refl _) HB6.out.size
    have HI7 : Hid (∀ x ∈ ls ++ [(⟨5, ⟨0, 0, 0⟩, n5⟩ : Ak), ⟨6, ⟨0, 0, 0⟩, t31⟩], In64 x.d.prod ∧ In64 x.n) := fun x hx => by
     rcases List.mem_append.1 hx with hx | hx
     · exact HI.out x hx
     · rcases List.mem_cons.1 hx with rfl | hx
       · exact ⟨in_zero, HN5.out⟩
       · rw [List.mem_singleton.1 hx]; exact ⟨in_zero, HT31.out⟩
    obtain ⟨n9, hn9⟩ : ∃ n9, (ls ++ [(⟨5, ⟨0, 0, 0⟩, n5⟩ : Ak), ⟨6, ⟨0, 0, 0⟩, t31⟩]).length = n9 := ⟨_, rfl⟩
    obtain ⟨ad9, cap9, rfl, hr9, _⟩ := OwnRow.row akK_ok hap.1 hn9
    have HR9 := Lib.hid hr9
    have HN9 : Hid (n9 ≤ 140737488355300) := by
     show _ ≤ _
     have h1 := HLS.out
     rw [List.length_append] at hn9
     simp only [List.length_cons, List.length_nil] at hn9
     omega
    clear hap hr9 hn9 HO6 HB6 HLIT HW6 HO HB HI HL
    go_wp2_with fail
    refine (abPlay_any HC.out w7 ad9 n9 cap9 _ HR9.out HN9.out HI7.out f63 t63).mono ?_
    rintro e w8 ⟨rfl, hb⟩
    have HB8 := Lib.hid (HB7.out.trans (hb.mono HB7.out.size))
    clear hb
    go_wp2_with fail
    refine (abPlay_any HC.out w8 lad llen lcap ks (HKS.out.keep HB8.out) hkl HKI.out fr t0).mono ?_
    rintro e w9 ⟨rfl, hb⟩
    have HB9 := Lib.hid (HB8.out.trans (hb.mono HB8.out.size))
    clear hb
    go_wp2_with fail
    refine (abRow_any w9 tad tlen tcap tz (HT.out.keep HB9.out (Nat.le_refl _)) htl 40 (by decide)).mono ?_
    rintro e w10 ⟨rad2, rn2, rc2, ms, rfl, hba, hok, hrd, hlen, hb⟩
    have HBA := Lib.hid hba
    have HOK := Lib.hid hok
    have HRD := Lib.hid hrd
    have HB10 := Lib.hid (HB9.out.trans (hb.mono HB9.out.size))
    clear hba hok hrd hb
    go_wp2_with fail
    refine (abRows_any HC.out w10 rad2 rn2 rc2 ms HBA.out (by omega) HOK.out HRD.out).mono ?_
    rintro e w11 ⟨rfl, hb⟩
    have HB11 := Lib.hid (HB10.out.trans (hb.mono HB10.out.size))
    clear hb HBA HOK HRD
    go_wp2_with fail
    refine (HC.out.reads w11 rad rlen rcap raw (HRAW.out.1.keep HB11.out (Nat.le_refl _)) (by rw [HRAW.out.1.length]; omega)).mono ?_
    rintro e w12 ⟨rfl, hb⟩
    have HB12 := Lib.hid (HB11.out.trans (hb.mono HB11.out.size))
    clear hb
    go_wp2_with fail
    refine (sealed_any w12 rad rlen rcap raw (HRAW.out.1.keep HB12.out (Nat.le_refl _)) HRAW.out.2 (by omega)).mono ?_
    rintro e w13 ⟨v, rfl, g1, c1, rfl, hcg, hg, hpre, hb⟩
    have HB13 := Lib.hid (HB12.out.trans (hb.mono HB12.out.size))
    have hy := hpre.byt (CrcMath.sealB_all HRAW.out.1.all) c1 hcg
    have HSL : Hid ((CrcMath.sealB raw).length ≤ 1048600) := by show _ ≤ _; rw [CrcMath.length_sealB, HRAW.out.1.length]; omega
    obtain ⟨sn, hsn⟩ : ∃ sn, (CrcMath.sealB raw).length = sn := ⟨_, rfl⟩
    rw [hsn] at hy ⊢
    have HY := Lib.hid hy
    clear hcg hg hpre hb hy hsn
    go_wp2_with fail
    refine (HC.out.reads w13 (some ⟨g1, 0, none⟩) sn c1 _ HY.out HSL.out).mono ?_
    rintro e w14 ⟨rfl, hb⟩
    have HB14 := Lib.hid (HB13.out.trans (hb.mono HB13.out.size))
    clear hb
    go_wp2_with fail
    refine (HK.out w14).mono ?_
    rintro e w15 ⟨rfl, hb⟩
    have HB15 := Lib.hid (HB14.out.trans (hb.mono HB14.out.size))
    clear hb
    go_wp2
    go_ret
    exact ⟨rfl, HB15.out⟩
end Go.Proofs.Ytbejincejbnbaaa
