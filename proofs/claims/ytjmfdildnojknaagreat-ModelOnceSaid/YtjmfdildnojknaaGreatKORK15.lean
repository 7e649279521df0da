/- Parts of a proof. -/
import Derived.Deep.Slices
import Derived.Deep.Fields
import Derived.ChangeSame
import Derived.SizedLaws
import Derived.Test.YtjmfdildnojknaaGreatKORK14
set_option maxRecDepth 100000
set_option maxHeartbeats 16000000
set_option linter.unusedVariables false
namespace Go.Proofs.YtjmfdildnojknaaGreat
open Go.RowKit
open Go.FoMath
open Go.ProdMath
open Go.BatMath hiding AllB getD_lt take_all In64
def AmPast (q : Nat) (m : Am) : Prop := (0 < m.b.recs.length → ∀ a, m.bad = some a → a.block ≠ q) ∧ (0 < m.ylen → ∀ a, m.yad = some a → a.block ≠ q)
theorem Byt.kept0 {W W' : World} {G : Nat → Prop} {ad : Option Addr} {len cap : Nat} {bs : List Nat} (h : Byt W ad len cap bs) (hk : Kept W W' G) (hg : 0 < len → ∀ a, ad = some a → ¬ G a.block) : Byt W' ad len cap bs := by
 refine ⟨h.length, h.fits, h.all, ?_⟩
 rcases h.cells with h0 | ⟨b, off, e, hc⟩
 · exact .inl h0
 by_cases h0 : len = 0
 · exact .inl h0
 refine .inr ⟨b, off, e, fun i hi => ?_⟩
 have h1 := hc i hi
 have hlt : b < W.heap.size := World.block_lt_of_cell? _ _ h1
 have e1 := hk.block b hlt (hg (by omega) _ e)
 unfold World.cell? at h1 ⊢
 simp only [e1]
 exact h1
theorem Byt.bound {W : World} {ad : Option Addr} {len cap : Nat} {bs : List Nat} (h : Byt W ad len cap bs) (h0 : 0 < len) {a : Addr} (ha : ad = some a) : a.block < W.heap.size := by
 rcases h.cells with h1 | ⟨b, off, e, hc⟩
 · omega
 rw [e] at ha
 cases ha
 exact World.block_lt_of_cell? _ _ (hc 0 h0)
theorem AmIn.kept {W W' : World} {G : Nat → Prop} {m : Am} (h : AmIn W m) (hk : Kept W W' G) (hg : ∀ k, G k → AmPast k m) : AmIn W' m :=
 ⟨h.recs.kept0 hk (fun h0 a ha hga => (hg _ hga).1 h0 a ha rfl), h.texts, h.few, h.prod, h.byt.kept0 hk (fun h0 a ha hga => (hg _ hga).2 h0 a ha rfl), h.long⟩
theorem AmIn.past {W : World} {m : Am} (h : AmIn W m) {q : Nat} (hq : W.heap.size ≤ q) : AmPast q m :=
 ⟨fun h0 a ha e => by have := h.recs.bound h0 ha; omega, fun h0 a ha e => by have := h.byt.bound h0 ha; omega⟩
theorem AmNew.past {B q : Nat} {m : Am} (h : AmNew B m) (hq : q < B) : AmPast q m :=
 ⟨fun h0 a ha e => by have := h.1 a ha; omega, fun h0 a ha e => by have := h.2 a ha; omega⟩
theorem MW.move {N N' G : Nat → Prop} {w w' : World} {km most : Nat} {mc : Int} (h : MW N w km most mc) (hk : Kept w w' G) (hkm : ¬ G km) (hG : ∀ k, k < w.heap.size → N k → ¬ G k) (hN : ∀ k, k < w.heap.size → N k → N' k) (hu : ∀ k, w'.heap.size ≤ k → N' k) : MW N' w' km most mc := by
 obtain ⟨s, ad, len, cap, ms, h1, h2⟩ := h
 exact ⟨s, ad, len, cap, ms, h1.move hk hkm hG hN hu, h2⟩
def valLen : Value → Nat
 | .slice _ n _ => n
 | _ => 0
theorem OwnRow.valLen {α : Type} {K : Kind α} {bytes : Nat} {w : World} (hK : K.Ok bytes) {base : Nat} {v : Value} {l : List α} (h : OwnRow K w base v l) : valLen v = l.length := by
 obtain ⟨ad, cap, e, _⟩ := OwnRow.at hK h
 rw [e]
 rfl
structure OwnAms (W : World) (base : Nat) (u : Value) (l : List Am) : Prop where
 row : OwnRow amK W base u l
 ins : ∀ m ∈ l, AmIn W m
 new : ∀ m ∈ l, AmNew base m
 past : ∀ q m, u.ownBlock = some q → m ∈ l → AmPast q m
def GivesActs (w : World) (most : Nat) (e : Ending) (w' : World) : Prop :=
 ∃ u l, e = .returned u ∧ OwnAms w' w.heap.size u l ∧ l.length ≤ most + 2 ∧ Below w.heap.size w w'
theorem acts_any (w : World) (tad : Option Addr) (tlen tcap : Nat) (zs : List Int) (h : Nums w tad tlen zs) (hL : tlen ≤ 140737488355328) (most : Nat) (hmost : most ≤ 1000) :
 Calls Tryz.prog 9 #[.slice tad tlen tcap, .int .i64 (most : Int)] w (GivesActs w most) := by
 have HNUM := qh (numsIn_of h hL)
 clear h
 go_enter Tryz.func9, Tryz.ntmps9
 go_upto_region 3 with fail
 obtain ⟨W1, hW1⟩ := exq (w.alloc (.cells #[.slice tad tlen tcap, .int .i64 0] 47))
 obtain ⟨kt, hkt⟩ := exq w.heap.size
 obtain ⟨W2, hW2⟩ := exq (W1.alloc (.cells #[.int .i64 1073741824, .int .i64 0, .slice none 0 0] 44))
 obtain ⟨km, hkm⟩ := exq W1.heap.size
 have hb1 := wbq hW1
 have hb2 := wbq hW2
 have hkk1 : km = kt + 1 := by rw [hkm, hW1, hkt]; simp
 have HB2 : Hid (Below w.heap.size w W2) := hb1.trans (hb2.mono hb1.size)
 have HS2 : Hid (km + 1 = W2.heap.size) := by show _ = _; rw [hW2, hkm]; simp
 have HKT : Hid (w.heap.size = kt ∧ kt + 1 = km) := ⟨hkt.symm, hkk1.symm⟩
 have HT2 : Hid (TapeT W2 kt tad tlen tcap) := ⟨0, numsIn_tape HNUM.out HB2.out (by omega) (by
  have h4 : W1.heap[kt]? = some (.cells #[.slice tad tlen tcap, .int .i64 ((0 : Nat) : Int)] 47 (0, 0)) := by rw [hW1, hkt]; exact heap_alloc_new w _
  exact (hb2.block kt (lt_of_block h4)).trans h4)⟩
 have HM2 : Hid (MW (fun k => k ≠ kt ∧ ∀ q, (Value.slice none 0 0).ownBlock = some q → k ≠ q) W2 km 0 1073741824) := by
  refine ⟨0, none, 0, 0, [], ⟨?_, ⟨rowAt_nil _, (fun m hm => by cases hm)⟩, (fun a ha => by cases ha), (fun m hm => by cases hm), ⟨(fun a ha => by cases ha), fun m hm => by cases hm⟩, fun k hk => ⟨by have := HS2.out; omega, fun q hq => by cases hq⟩⟩, RowW.nil, by decide, by show (0 : Int) ≤ _; omega, Nat.le_refl _⟩
  show W2.heap[km]? = _
  rw [hW2, hkm]
  exact heap_alloc_new W1 _
 (try rw [← hW1])
 (try rw [← hkt])
 (try rw [← hkk1])
 (try rw [← hW2])
 have hkk : kt < km := by omega
 clear hW1 hkt hW2 hkm hb1 hb2 hkk1
 go_wp2
 go_loopw [7] (fun v7 wr => ∃ (u : Value) (l : List Am) (c : Nat), u = v7 ∧ Hid (OwnAms wr (km + 1) u l) ∧ l.length ≤ most + 2 ∧ c ≤ l.length ∧ Hid (TapeT wr kt tad tlen tcap) ∧ Hid (MW (fun k => k ≠ kt ∧ ∀ q, u.ownBlock = some q → k ≠ q) wr km c 1073741824) ∧ Hid (km + 1 ≤ wr.heap.size) ∧ Hid (Below w.heap.size w wr)) (fun v7 _ => most - valLen v7)
 case atStart => exact ⟨_, [], 0, rfl, ⟨ownRow_nil _ _ _, (fun m hm => by cases hm), (fun m hm => by cases hm), fun q m hq => by cases hq⟩, Nat.zero_le _, Nat.zero_le _, HT2.out, HM2.out, by show _ ≤ _; have := HS2.out; omega, HB2.out⟩
 obtain ⟨u, l, c, rfl, HO, hl2, hcl, HT, HM, HSZ, HB⟩ := hrel
 clear HT2 HM2 HB2 HS2
 obtain ⟨wo, hwo⟩ := exq wr
 subst hwo
 obtain ⟨it, hta⟩ := HT.out
 obtain ⟨oa, oc, hu, hro, -⟩ := OwnRow.at amK_ok HO.out.row
 obtain ⟨ln, hln⟩ := exq l.length
 rw [← hln] at hu hl2 hcl
 subst hu
 have HLN := qh hln
 have HTA := qh hta
 have x1 := hta.c1
 clear hro hln hta
 by_cases hlt : ln < most
 rotate_left
 · have hd : decide (ln < most) = false := decide_eq_false hlt
   have hdi : decide ((ln : Int) < (most : Int)) = false := decide_eq_false (by omega)
   clear hlt
   go_wp2
   go_ret
   exact ⟨_, l, rfl, ⟨by have h1 := HO.out.row; exact ⟨h1.1, h1.2.imp id (fun ⟨g, cap, cur, e, h2, h3⟩ => ⟨g, cap, cur, e, by have := HKT.out; omega, h3⟩)⟩, HO.out.ins, fun m hm => ⟨fun a ha => by have := (HO.out.new m hm).1 a ha; have := HKT.out; omega, fun a ha => by have := (HO.out.new m hm).2 a ha; have := HKT.out; omega⟩, HO.out.past⟩, by rw [← HLN.out]; exact hl2, HB.out⟩
 have hd : decide (ln < most) = true := decide_eq_true hlt
 have hdi : decide ((ln : Int) < (most : Int)) = true := decide_eq_true (by omega)
 by_cases hit : it < tlen
 rotate_left
 · have hd2 : decide (it < tlen) = false := decide_eq_false hit
   have hd2i : decide ((it : Int) < (tlen : Int)) = false := decide_eq_false (by omega)
   clear hit
   go_wp2
   go_ret
   exact ⟨_, l, rfl, ⟨by have h1 := HO.out.row; exact ⟨h1.1, h1.2.imp id (fun ⟨g, cap, cur, e, h2, h3⟩ => ⟨g, cap, cur, e, by have := HKT.out; omega, h3⟩)⟩, HO.out.ins, fun m hm => ⟨fun a ha => by have := (HO.out.new m hm).1 a ha; have := HKT.out; omega, fun a ha => by have := (HO.out.new m hm).2 a ha; have := HKT.out; omega⟩, HO.out.past⟩, by rw [← HLN.out]; exact hl2, HB.out⟩
 have hd2 : decide (it < tlen) = true := decide_eq_true hit
 have hd2i : decide ((it : Int) < (tlen : Int)) = true := decide_eq_true (by omega)
 clear hit
 go_wp2_with fail
 clear x1
 refine (act_any wo kt tad tlen tcap km c 1073741824 HT.out HM.out hkk (fun k hk => hk.1) (by omega)).mono ?_
 rintro e w2 ⟨ad, len, cap, l2, rfl, hams, hadn, hnew, h1, h3, ht2, hm2, hk2⟩
 have HAMS := qh hams.out
 have HADN := qh hadn.out
 have HNEW := qh hnew.out
 have HT2 := qh ht2.out
 have HM2 := qh hm2.out
 have HK2 := qh hk2.out
 have HOWN : Hid (∀ q, (Value.slice oa ln oc).ownBlock = some q → km + 1 ≤ q ∧ q < wo.heap.size) := fun q hq => HO.out.row.lt q hq
 have HO2 : Hid (OwnRow amK w2 (km + 1) (.slice oa ln oc) l) := HO.out.row.same (fun q hq => HK2.out.block q (HOWN.out q hq).2 (fun h => by have := HOWN.out q hq; omega))
 have HI2 : Hid (∀ m ∈ l, AmIn w2 m) := fun m hm => (HO.out.ins m hm).kept HK2.out (fun k hk => (HO.out.new m hm).past (by omega))
 have HB2 : Hid (Below w.heap.size w w2) := HB.out.trans (HK2.out.below (fun k hk => by have := HKT.out; omega) HB.out.size)
 have HLE : Hid (l2.length = len) := HAMS.out.row.length
 clear hams hadn hnew ht2 hm2 hk2 HT HM HB HTA
 go_wp2_with (at_builtin; refine list_row (by rfl) amK_ok (.tmp 26) (.tmp 29) rfl (km + 1) l l2 (.slice oa ln oc) rfl HO2.out (by have h7 := HSZ.out; have h8 := HK2.out.size; omega) ad len cap rfl HAMS.out.row (by have h7 := HLN.out; omega) ?_)
 intro v3 w3 hap
 have hkp : Kept w2 w3 (fun k => (Value.slice oa ln oc).ownBlock = some k) := Kept.of_own hap.2.1 (fun k hk => .inl hk)
 have hown3 : ∀ q, v3.ownBlock = some q → (Value.slice oa ln oc).ownBlock = some q ∨ w2.heap.size ≤ q := fun q hq => hap.2.2.2 q hq
 have hlt3 := hap.1.lt
 have HOA : Hid (OwnAms w3 (km + 1) v3 (l ++ l2)) := by
  refine ⟨hap.1, fun m hm => ?_, fun m hm => ?_, fun q m hq hm => ?_⟩
  · rcases List.mem_append.1 hm with h4 | h4
    · exact (HI2.out m h4).kept hkp (fun k hk => HO.out.past k m hk h4)
    exact (HAMS.out.ins m h4).kept hkp (fun k hk => (HNEW.out m h4).past (HOWN.out k hk).2)
  · rcases List.mem_append.1 hm with h4 | h4
    · exact HO.out.new m h4
    have h5 := HNEW.out m h4
    have h7 := HSZ.out
    exact ⟨fun a ha => Nat.le_trans h7 (h5.1 a ha), fun a ha => Nat.le_trans h7 (h5.2 a ha)⟩
  rcases hown3 q hq with h6 | h6
  · rcases List.mem_append.1 hm with h4 | h4
    · exact HO.out.past q m h6 h4
    exact (HNEW.out m h4).past (HOWN.out q h6).2
  rcases List.mem_append.1 hm with h4 | h4
  · exact (HI2.out m h4).past h6
  exact (HAMS.out.ins m h4).past h6
 have HT3 : Hid (TapeT w3 kt tad tlen tcap) := by
  obtain ⟨i2, h2⟩ := HT2.out
  refine ⟨i2, h2.grow hap.2.1 (fun k hk => ?_)⟩
  have := HOWN.out k hk
  omega
 have HM3 : Hid (MW (fun k => k ≠ kt ∧ ∀ q, v3.ownBlock = some q → k ≠ q) w3 km (c + 1) 1073741824) := HM2.out.move hkp (fun h => by have := HOWN.out km h; omega) (fun k _ hn hk => hn.2 k hk rfl) (fun k hk hn => ⟨hn.1, fun q hq => by
  rcases hown3 q hq with h6 | h6
  · exact hn.2 q h6
  omega⟩) (fun k hk => ⟨by have h7 := HSZ.out; have h8 := HK2.out.size; have h9 := hkp.size; omega, fun q hq => by have := (hlt3 q hq).2; omega⟩)
 have HS3 : Hid (km + 1 ≤ w3.heap.size) := by show _ ≤ _; have h7 := HSZ.out; have h8 := HK2.out.size; have h9 := hkp.size; omega
 have HB3 : Hid (Below w.heap.size w w3) := HB2.out.trans (hkp.below (fun k hk => by have := HOWN.out k hk; have := HKT.out; omega) HB2.out.size)
 have hvl : valLen v3 = l.length + l2.length := by rw [OwnRow.valLen amK_ok hap.1, List.length_append]
 have hl3 : (l ++ l2).length = ln + len := by rw [List.length_append, ← HLN.out, HLE.out]
 have HVL : Hid (valLen v3 = ln + len) := by show _ = _; rw [hvl, ← HLN.out, HLE.out]
 have HL3 := qh hl3
 clear hap hkp hown3 hlt3 hvl hl3 HO HO2 HI2 HT2 HM2 HB2 HAMS HNEW HADN
 go_wp2
 go_roundw
 case rel => exact ⟨v3, l ++ l2, c + 1, rfl, HOA.out, by rw [HL3.out]; omega, by rw [HL3.out]; omega, HT3.out, HM3.out, HS3.out, HB3.out⟩
 have h5 := HVL.out; have h6 : valLen (Value.slice oa ln oc) = ln := rfl; (try simp only [h6]); omega
end Go.Proofs.YtjmfdildnojknaaGreat
namespace Go.ProdMath
open Go.SeqMath
open Go.BatMath
open Go.FoMath
theorem first_in : ∀ {l : List Bat}, firstOpen l = -1 ∨ ∃ b ∈ l, b.base = firstOpen l
 | [] => .inl rfl
 | b :: l => by
   show (if opensB b l = true then b.base else firstOpen l) = -1 ∨ ∃ c ∈ b :: l, c.base = (if opensB b l = true then b.base else firstOpen l)
   split
   · exact .inr ⟨b, List.mem_cons_self, rfl⟩
   rcases first_in (l := l) with h | ⟨c, hc, e⟩
   · exact .inl h
   exact .inr ⟨c, List.mem_cons_of_mem _ hc, e⟩
theorem stableW {s : Int} {bs : List Bat} (h : RowW s bs) : s ≤ stableD s bs := by
 have hb := rowW_bases h
 unfold stableD
 split
 · exact hb.2.2
 rename_i h1
 rcases first_in (l := bs) with h2 | ⟨b, hm, e⟩
 · exact absurd h2 h1
 rw [← e]; exact (hb.2.1 b hm).1
theorem keepAt_is (start top : Int) (bs : List Bat) : ∀ k, keepAt start top bs k = 0 ∨ baseD start bs (keepAt start top bs k) ≤ top
 | 0 => .inl rfl
 | k + 1 => by
   show (if baseD start bs (k + 1) ≤ top then k + 1 else keepAt start top bs k) = 0 ∨ baseD start bs (if baseD start bs (k + 1) ≤ top then k + 1 else keepAt start top bs k) ≤ top
   split
   · rename_i h; exact .inr h
   exact keepAt_is start top bs k
theorem keep_law {s fr : Int} {bs : List Bat} (h : RowW s bs) : s ≤ (keepD s fr bs).1 ∧ (keepD s fr bs).1 ≤ max fr s ∧ (keepD s fr bs).1 ≤ stableD s bs ∧ ∃ k, k ≤ bs.length ∧ (keepD s fr bs).2 = bs.drop k ∧ ∀ b, (keepD s fr bs).2[0]? = some b → b.base = (keepD s fr bs).1 := by
 have hst := stableW h
 have hk : keepN s fr bs ≤ bs.length := keepAt_le _ _ _ _
 have h0 : baseD s bs 0 = s := by rw [baseD_is h 0 (Nat.zero_le _), List.take_zero]; rfl
 unfold keepD
 split
 rotate_left
 · refine ⟨Int.le_refl _, by show s ≤ max fr s; omega, hst, 0, Nat.zero_le _, rfl, fun b hb => ?_⟩
   have h5 : bs[0]? = some b := hb
   show b.base = s
   rw [← h0]
   unfold baseD
   rw [h5]
 rename_i h1
 have h2 := keepAt_is s (min fr (stableD s bs)) bs bs.length
 have h3 : baseD s bs (keepN s fr bs) ≤ min fr (stableD s bs) := by
  rcases h2 with h2 | h2
  · exfalso
    have h4 : keepN s fr bs = 0 := h2
    rw [h4, h0] at h1
    omega
  exact h2
 refine ⟨Int.le_of_lt h1, by show baseD s bs (keepN s fr bs) ≤ max fr s; omega, by show baseD s bs (keepN s fr bs) ≤ _; omega, keepN s fr bs, hk, rfl, fun b hb => ?_⟩
 have h5 : bs[keepN s fr bs]? = some b := by
  have h6 : (bs.drop (keepN s fr bs))[0]? = some b := hb
  rw [List.getElem?_drop] at h6
  exact h6
 show b.base = baseD s bs (keepN s fr bs)
 unfold baseD
 rw [h5]
end Go.ProdMath
namespace Go.Proofs.YtjmfdildnojknaaGreat
open Go.RowKit
open Go.FoMath
open Go.ProdMath
open Go.BatMath hiding AllB getD_lt take_all In64
def madeX (a b k : Nat) : Prop := a ≤ k ∧ k < b
theorem mdKeeps_any {R : LogP} (C : MdCode R) (w : World) (tad : Option Addr) (tlen tcap : Nat) (zs : List Int) (h : Nums w tad tlen zs) (hL : tlen ≤ 140737488355328) (fad : Option Addr) (flen fcap : Nat) (hf : NumsIn w fad flen) :
 Calls Tryz.prog 7 #[.slice tad tlen tcap, .slice fad flen fcap] w (GivesBool w true) := by
 have HC := qh C
 have HNF := qh hf
 have hfl := hf.1
 clear C hf
 go_enter Tryz.func7, Tryz.ntmps7
 go_wp2_with fail
 refine (HC.out.new w 0 0 0 1073741824 (by decide) (by decide)).mono ?_
 rintro e w1 hp
 obtain ⟨a, rfl, hl1, hb1⟩ := LogAt.made (B := w.heap.size) (X := fun _ => False) HC.out hp ⟨RowW.nil, by decide, by decide, Nat.zero_le _⟩ (Nat.le_refl _) (fun k h => h.elim)
 have HL1 := qh hl1
 have HB1 := qh hb1
 clear hp hl1 hb1
 have HTN : Hid (∃ zs, Nums w1 tad tlen zs) := ⟨zs, h.keep HB1.out (Nat.le_refl _)⟩
 clear h
 go_wp2_with fail
 obtain ⟨zs1, hz1⟩ := HTN.out
 refine (acts_any w1 tad tlen tcap zs1 hz1 hL 60 (by decide)).mono ?_
 rintro e w2 ⟨u, l, rfl, ho, hl, hb⟩
 obtain ⟨ad, cap, hu, hr, hown⟩ := ho.row.at amK_ok
 obtain ⟨ln, hln⟩ := exq l.length
 rw [← hln] at hu hr hl
 subst hu
 have HAM : Hid (AmsAt w2 ad ln cap l) := ⟨hr, ho.ins⟩
 have HAD : Hid (∀ b, ad = some b → madeX w1.heap.size w2.heap.size b.block) := fun b hb => hown b hb
 have HPAST : Hid (∀ m ∈ l, ∀ k, ¬ madeX w1.heap.size w2.heap.size k → AmPast k m) := fun m hm k hk => by
  refine ⟨fun h0 b hb e => hk ?_, fun h0 b hb e => hk ?_⟩
  · rw [← e]; exact ⟨(ho.new m hm).1 b hb, (ho.ins m hm).recs.bound h0 hb⟩
  rw [← e]; exact ⟨(ho.new m hm).2 b hb, (ho.ins m hm).byt.bound h0 hb⟩
 have HB2 : Hid (Below w.heap.size w w2) := HB1.out.trans (hb.mono HB1.out.size)
 have HSZ : Hid (w.heap.size ≤ w1.heap.size ∧ w1.heap.size ≤ w2.heap.size) := ⟨HB1.out.size, hb.size⟩
 have HL2 : Hid (LogAt R w.heap.size (madeX w1.heap.size w2.heap.size) w2 a 1073741824 0 []) := (HL1.out.more HC.out (X' := madeX w1.heap.size w2.heap.size) (fun k hk => .inr hk.1)).on HC.out hb
 have HK2 : Hid (Kept w2 w2 (fun k => w.heap.size ≤ k ∧ ¬ madeX w1.heap.size w2.heap.size k)) := Kept.of_below (F := fun k => w.heap.size ≤ k ∧ ¬ madeX w1.heap.size w2.heap.size k) (Below.refl _ _)
 have hln2 : ln ≤ 62 := hl
 obtain ⟨X0, hX0⟩ := exq (madeX w1.heap.size w2.heap.size)
 rw [← hX0] at HL2 HK2 HPAST HAD
 have HXB : Hid (∀ k, X0 k → w.heap.size ≤ k ∧ k < w2.heap.size) := fun k hk => by
  rw [hX0] at hk
  exact ⟨Nat.le_trans HSZ.out.1 hk.1, hk.2⟩
 clear ho hl hb hr hown hln HB1 HL1 hX0 hz1 HTN HSZ
 go_wp2
 go_loopw [21] (fun v21 wr => ∃ (i : Nat) (s : Int) (bs : List Bat), v21 = .int .i64 (i : Int) ∧ i ≤ ln ∧ Hid (bs.length ≤ i) ∧ Hid (endD s bs ≤ 16 * (i : Int)) ∧ Hid (LogAt R w.heap.size X0 wr a 1073741824 s bs) ∧ Hid (Kept w2 wr (fun k => w.heap.size ≤ k ∧ ¬ X0 k))) (fun v21 _ => ln - (intOf v21).toNat)
 case atStart => exact ⟨0, 0, [], rfl, Nat.zero_le _, Nat.le_refl _, by show (0 : Int) ≤ _; decide, HL2.out, HK2.out⟩
 obtain ⟨i, s, bs, rfl, hi, HBL, HEL, HL, HK⟩ := hrel
 clear HL2 HK2
 obtain ⟨wo, hwo⟩ := exq wr
 subst hwo
 by_cases hlt : i < ln
 rotate_left
 · have hd : decide (i < ln) = false := decide_eq_false hlt
   have hdi : decide ((i : Int) < (ln : Int)) = false := decide_eq_false (by omega)
   clear hlt
   have HBE : Hid (Below w.heap.size w wo) := HB2.out.trans (HK.out.below (fun k h => h.1) HB2.out.size)
   go_wp2_with fail
   refine (mdKnown_any HC.out wo).mono ?_
   rintro e w8 ⟨rfl, hb⟩
   have HB8 := qh (HBE.out.trans (hb.mono HBE.out.size))
   clear hb HBE
   go_wp2_with fail
   go_ret
   exact ⟨rfl, HB8.out⟩
 have hd : decide (i < ln) = true := decide_eq_true hlt
 have hdi : decide ((i : Int) < (ln : Int)) = true := decide_eq_true (by omega)
 have hil : (i : Int) < (ln : Int) := by omega
 have hAo : AmsAt wo ad ln cap l := ⟨HK.out.row HAM.out.row (fun b hb h => h.2 (HAD.out b hb)), fun m hm => (HAM.out.ins m hm).kept HK.out (fun k hk => HPAST.out m hm k hk.2)⟩
 obtain ⟨bk, off, m, el, hbk, hm, hai, hcl⟩ := hAo.get hlt
 have HAI : Hid (AmIn wo m) := hai
 have HLT := qh hlt
 obtain ⟨c0, c1, c2, c3, c4, c5, c6, c7, c8, c9, c10, c11, c12, c13⟩ := hcl
 subst el
 clear hm hai hlt hAo
 go_upto_region 7 with fail
 obtain ⟨W3, hW3⟩ := exq (wo.alloc (.cells #[.int .i64 m.kind, .int .i64 m.b.base, .int .i64 m.b.prod, .int .i64 m.b.epoch, .int .i64 m.b.seq, .bool m.b.txn, .int .i64 m.b.marker, .slice m.bad m.b.recs.length m.bcap, .slice m.yad m.ylen m.ycap, .int .i64 m.fr, .int .i64 m.n, .bool m.only, .slice m.kad m.klen m.kcap, .slice m.gad m.glen m.gcap] 33))
 obtain ⟨P, hP⟩ := exq wo.heap.size
 have hb3 := wbq hW3
 have HX3 : Hid (ABox W3 P m) := by rw [hW3, hP]; exact abox_new wo m
 have HAI3 : Hid (AmIn W3 m) := HAI.out.keep hb3
 have HK3 : Hid (Kept w2 W3 (fun k => w.heap.size ≤ k ∧ ¬ X0 k)) := HK.out.trans (Kept.of_below (F := fun _ => False) hb3) (fun i hi => hi.elim)
 have HL3 : Hid (LogAt R w.heap.size X0 W3 a 1073741824 s bs) := HL.out.on HC.out hb3
 have HWS : Hid (w.heap.size ≤ w2.heap.size) := HB2.out.size
 rw [← hW3, ← hP]
 clear hW3 hP hb3 HL HK HAI c0 c1 c2 c3 c4 c5 c6 c7 c8 c9 c10 c11 c12 c13
 have p0 := HX3.out.cells.c0
 go_upto_block 2 with fail
 go_cut [] from 28 to 46 (fun wx => ∃ (bs' : List Bat), Hid (bs'.length ≤ i + 1) ∧ Hid (endD s bs' ≤ 16 * ((i : Int) + 1)) ∧ Hid (LogAt R w.heap.size X0 wx a 1073741824 s bs') ∧ Hid (Kept w2 wx (fun k => w.heap.size ≤ k ∧ ¬ X0 k)))
 case first =>
  by_cases k1 : m.kind = 1
  · have e1 : (m.kind == 1) = true := by rw [k1]; rfl
    have p1 := HX3.out.cells.c1
    have p2 := HX3.out.cells.c2
    have p3 := HX3.out.cells.c3
    have p4 := HX3.out.cells.c4
    have p5 := HX3.out.cells.c5
    have p6 := HX3.out.cells.c6
    have p7 := HX3.out.cells.c7
    simp only [Nat.zero_add] at p1 p2 p3 p4 p5 p6 p7
    clear k1
    have HGR : Hid (GrowsW s bs (produceD 1073741824 s bs m.b)) := produceW_grows HL3.out.row.row HAI3.out.prod
    have HRL : Hid (LogRow s (produceD 1073741824 s bs m.b).2) := by have h1 := HBL.out; exact HL3.out.row.grows HGR.out (by omega)
    go_wp2_with fail
    obtain ⟨F, hF, hFB, hFX⟩ := HL3.out.is
    refine (HC.out.produce F W3 a 1073741824 s bs m.b m.bad m.bcap hF HL3.out.row HAI3.out.recs HAI3.out.texts HAI3.out.few HAI3.out.prod).mono ?_
    rintro e w4 hp
    obtain ⟨rfl, hl4, hk4⟩ := LogAt.turn (B := w.heap.size) (X := X0) hp HRL.out hFB hFX (by have h1 := HWS.out; have h2 := HK3.out.size; omega) (fun k hk => by have h1 := (HXB.out k hk).2; have h2 := HK3.out.size; omega)
    have HL4 := qh hl4
    have HK4 : Hid (Kept w2 w4 (fun k => w.heap.size ≤ k ∧ ¬ X0 k)) := HK3.out.trans hk4 (fun k hk => .inl hk)
    clear hF hFB hFX hp hl4 hk4 p0
    go_wp2
    go_meet
    case rel => exact ⟨_, by have h1 := HGR.out.2.1; have h2 := HBL.out; show _ ≤ _; omega, by have h1 := HGR.out.2.2; have h2 := HEL.out; show _ ≤ _; omega, HL4.out, HK4.out⟩
  have e1 : (m.kind == 1) = false := by simpa using k1
  by_cases k3 : m.kind = 3
  rotate_left
  · have e3 : (m.kind == 3) = false := by simpa using k3
    clear k1 k3
    go_wp2
    go_meet
    case rel => exact ⟨bs, Nat.le_succ_of_le HBL.out, by have := HEL.out; show _ ≤ _; omega, HL3.out, HK3.out⟩
  have e3 : (m.kind == 3) = true := by rw [k3]; rfl
  have p2 := HX3.out.cells.c2
  have p3 := HX3.out.cells.c3
  have p6 := HX3.out.cells.c6
  simp only [Nat.zero_add] at p2 p3 p6
  clear k1 k3
  have HGR : Hid (GrowsW s bs (markD 1073741824 s bs m.b.prod m.b.epoch m.b.marker)) := markW_grows HL3.out.row.row HAI3.out.prod
  have HRL : Hid (LogRow s (markD 1073741824 s bs m.b.prod m.b.epoch m.b.marker).2) := by have h1 := HBL.out; exact HL3.out.row.grows HGR.out (by omega)
  go_wp2_with fail
  obtain ⟨F, hF, hFB, hFX⟩ := HL3.out.is
  refine (HC.out.mark F W3 a 1073741824 s bs m.b.prod m.b.epoch m.b.marker hF HL3.out.row HAI3.out.prod).mono ?_
  rintro e w4 hp
  obtain ⟨rfl, hl4, hk4⟩ := LogAt.turn (B := w.heap.size) (X := X0) hp HRL.out hFB hFX (by have h1 := HWS.out; have h2 := HK3.out.size; omega) (fun k hk => by have h1 := (HXB.out k hk).2; have h2 := HK3.out.size; omega)
  have HL4 := qh hl4
  have HK4 : Hid (Kept w2 w4 (fun k => w.heap.size ≤ k ∧ ¬ X0 k)) := HK3.out.trans hk4 (fun k hk => .inl hk)
  clear hF hFB hFX hp hl4 hk4 p0
  go_wp2
  go_meet
  case rel => exact ⟨_, by have h1 := HGR.out.2.1; have h2 := HBL.out; show _ ≤ _; omega, by have h1 := HGR.out.2.2; have h2 := HEL.out; show _ ≤ _; omega, HL4.out, HK4.out⟩
 case rest =>
  obtain ⟨bs', HBL', HEL', HL', HK'⟩ := hcut
  clear HL3 HK3 HX3 HAI3 p0 HBL HEL
  obtain ⟨j, hj⟩ := exq (i / 5)
  have hq : ((i : Int).tdiv 5) = (j : Int) := by rw [hj, Int.tdiv_eq_ediv_of_nonneg (by omega)]; omega
  have hwj : wrap64 (j : Int) = (j : Int) := by have := HLT.out; unfold wrap64; omega
  clear hj
  by_cases h5 : i % 5 = 4
  rotate_left
  · have hn5 : ((i : Int) % 5 != 4) = true := by simp; omega
    clear h5
    go_wp2
    go_roundw
    case rel => exact ⟨i + 1, s, bs', rfl, HLT.out, HBL'.out, by have := HEL'.out; show _ ≤ _; push_cast; omega, HL'.out, HK'.out⟩
    simp [intOf]; have := HLT.out; omega
  have hn5 : ((i : Int) % 5 != 4) = false := by simp; omega
  clear h5
  by_cases hjf : flen ≤ j
  · have hge : decide ((flen : Int) ≤ (j : Int)) = true := decide_eq_true (by omega)
    have hgn : decide (flen ≤ j) = true := decide_eq_true hjf
    clear hjf
    go_wp2
    go_roundw
    case rel => exact ⟨i + 1, s, bs', rfl, HLT.out, HBL'.out, by have := HEL'.out; show _ ≤ _; push_cast; omega, HL'.out, HK'.out⟩
    simp [intOf]; have := HLT.out; omega
  have hge : decide ((flen : Int) ≤ (j : Int)) = false := decide_eq_false (by omega)
  have hgn : decide (flen ≤ j) = false := decide_eq_false hjf
  have hjl : j < flen := by omega
  have hjli : (j : Int) < (flen : Int) := by omega
  clear hjf
  obtain ⟨fb, fo, fn, hfe, hfb, hfc, -⟩ := HNF.out.2 j hjl
  have HFC : Hid (∀ V, Below w.heap.size w V → V.cell? ⟨fb, fo + j, none⟩ = some (.int .i64 fn)) := fun V hV => (hV.cell hfb).trans hfc
  subst hfe
  obtain ⟨fr, hfr⟩ : ∃ x, bits .and .i64 fn 127 = x := ⟨_, rfl⟩
  obtain ⟨⟨s2, b2⟩, hkd⟩ : ∃ r, keepD s fr bs' = r := ⟨_, rfl⟩
  have hlaw := keep_law (s := s) (fr := fr) HL'.out.row.row
  have hrk := HL'.out.row.keepD (fr := fr)
  rw [hkd] at hlaw hrk
  obtain ⟨g1, g2, g3, kc, g4, g5, g6⟩ := hlaw
  simp only at g1 g2 g3 g5 g6
  have HRK : Hid (LogRow s2 b2 ∧ b2.length ≤ bs'.length ∧ endD s2 b2 = endD s bs') := hrk
  have HKD := qh hkd
  have HG1 : Hid (s ≤ s2) := g1
  have HG2 : Hid (s2 ≤ max fr s) := g2
  have HG3 : Hid (s2 ≤ stableD s bs') := g3
  have HG5 : Hid (kc ≤ bs'.length ∧ b2 = bs'.drop kc ∧ ∀ b, b2[0]? = some b → b.base = s2) := ⟨g4, g5, g6⟩
  clear hfb hfc g1 g2 g3 g4 g5 g6 hrk hkd
  have HWS : Hid (w.heap.size ≤ w2.heap.size) := HB2.out.size
  have HROW : Hid (LogRow s bs') := HL'.out.row
  go_wp2_with fail
  obtain ⟨F, hF, hFB, hFX, hcl⟩ := HL'.out.claim
  refine (HC.out.batches F wc a 1073741824 s bs' hF HL'.out.row).mono ?_
  rintro e v1 ⟨ba, bn, bc, bm, rfl, hbt, hbs, hba, hbi, hb⟩
  have hxw : ∀ k, btX ba bm k → ¬ F k ∧ k < v1.heap.size := fun k hk => by
   rcases hk with ⟨a1, h1, h2⟩ | ⟨m1, hm1, a1, h1, h2⟩
   · rw [h2]; exact hba a1 h1
   rw [h2]; exact hbi m1 hm1 a1 h1
  have HL1 : Hid (LogAt R w.heap.size (fun k => X0 k ∨ btX ba bm k) v1 a 1073741824 s bs') := (hcl (fun k => X0 k ∨ btX ba bm k) (fun k hf hk => by
   rcases hk with hk | hk
   · exact hFX k hf hk
   exact (hxw k hk).1 hf)).on HC.out hb
  have HXW : Hid (∀ k, btX ba bm k → k < v1.heap.size) := fun k hk => (hxw k hk).2
  have HBT1 := qh hbt
  have HBS := qh hbs
  have HBN : Hid (bn = bs'.length) := by
   show _ = _
   have h1 := hbt.row.length
   rw [← hbs]
   unfold bats
   rw [List.length_map, h1]
  have HK1 : Hid (Kept w2 v1 (fun k => w.heap.size ≤ k ∧ ¬ X0 k)) := HK'.out.trans (Kept.of_below (F := fun _ => False) hb) (fun i hi => hi.elim)
  clear hF hFB hFX hcl hbt hbs hba hbi hb hxw HL' HK'
  go_wp2_with fail
  obtain ⟨F, hF, -, -⟩ := HL1.out.is
  refine (HC.out.start F v1 a 1073741824 s bs' hF HL1.out.row).mono ?_
  rintro e v2 ⟨rfl, hb⟩
  have HL2 := qh (HL1.out.on HC.out hb)
  have HBT2 := qh (HBT1.out.keep hb)
  have HK2 : Hid (Kept w2 v2 (fun k => w.heap.size ≤ k ∧ ¬ X0 k)) := HK1.out.trans (Kept.of_below (F := fun _ => False) hb) (fun i hi => hi.elim)
  have HS2 : Hid (v1.heap.size ≤ v2.heap.size) := hb.size
  clear hF hb HL1 HBT1 HK1
  obtain ⟨en, hen⟩ := exq (endD s bs')
  have HEN := qh hen
  clear hen
  go_wp2_with fail
  obtain ⟨F, hF, -, -⟩ := HL2.out.is
  refine (HC.out.end_ F v2 a 1073741824 s bs' hF HL2.out.row).mono ?_
  rintro e v3 ⟨rfl, hb⟩
  rw [← HEN.out]
  have HL3 := qh (HL2.out.on HC.out hb)
  have HBT3 := qh (HBT2.out.keep hb)
  have HK3 : Hid (Kept w2 v3 (fun k => w.heap.size ≤ k ∧ ¬ X0 k)) := HK2.out.trans (Kept.of_below (F := fun _ => False) hb) (fun i hi => hi.elim)
  have HS3 : Hid (v1.heap.size ≤ v3.heap.size) := Nat.le_trans HS2.out hb.size
  have HB3 : Hid (Below w.heap.size w v3) := HB2.out.trans (HK3.out.below (fun k h => h.1) HB2.out.size)
  have hc := HFC.out v3 HB3.out
  clear hF hb HL2 HBT2 HK2 HS2
  go_wp2_with fail
  (try rw [hfr])
  obtain ⟨F, hF, hFB, hFX⟩ := HL3.out.is
  refine (HC.out.keep F v3 a 1073741824 s bs' fr hF HL3.out.row).mono ?_
  rintro e v4 hp
  rw [HKD.out] at hp
  obtain ⟨rfl, hl4, hk4⟩ := LogAt.turn (B := w.heap.size) (X := fun k => X0 k ∨ btX ba bm k) hp HRK.out.1 hFB hFX (by have h1 := HWS.out; have h2 := HK3.out.size; omega) (fun k hk => by
   rcases hk with hk | hk
   · have h1 := (HXB.out k hk).2; have h2 := HK3.out.size; omega
   have h1 := HXW.out k hk; have h2 := HS3.out; omega)
  have HL4 := qh hl4
  have HBT4 : Hid (BatsAt v4 ba bn bc bm) := HBT3.out.kept hk4 (fun a1 h1 h2 => h2.2 (.inr (.inl ⟨a1, h1, rfl⟩))) (fun m1 hm1 a1 h1 h2 => h2.2 (.inr (.inr ⟨m1, hm1, a1, h1, rfl⟩)))
  have HK4 : Hid (Kept w2 v4 (fun k => w.heap.size ≤ k ∧ ¬ X0 k)) := HK3.out.trans hk4 (fun k hk => .inl ⟨hk.1, fun h => hk.2 (.inl h)⟩)
  clear hF hFB hFX hp hl4 hk4 HL3 HBT3 HK3 HS3 HXW hc HB3
  go_wp2_with fail
  obtain ⟨F, hF, -, -⟩ := HL4.out.is
  refine (HC.out.batches F v4 a 1073741824 s2 b2 hF HL4.out.row).mono ?_
  rintro e v5 ⟨na, nn, nc, nm, rfl, hnt, hns, -, -, hb⟩
  have HNT5 := qh hnt
  have HNS := qh hns
  have HNN : Hid (nn = b2.length) := by
   show _ = _
   have h1 := hnt.row.length
   rw [← hns]
   unfold bats
   rw [List.length_map, h1]
  have HL5 := qh (HL4.out.on HC.out hb)
  have HBT5 := qh (HBT4.out.keep hb)
  have HK5 : Hid (Kept w2 v5 (fun k => w.heap.size ≤ k ∧ ¬ X0 k)) := HK4.out.trans (Kept.of_below (F := fun _ => False) hb) (fun i hi => hi.elim)
  have HB5 : Hid (Below w.heap.size w v5) := HB2.out.trans (HK5.out.below (fun k h => h.1) HB2.out.size)
  clear hF hnt hns hb HL4 HBT4 HK4
  have hkw : wrap64 ((bn : Int) - (nn : Int)) = (kc : Int) := by
   have h1 := HBN.out
   have h2 := HNN.out
   have h3 := HG5.out.1
   have h4 : b2.length = bs'.length - kc := by rw [HG5.out.2.1, List.length_drop]
   have h5 := HBL'.out
   have h6 := HLT.out
   unfold wrap64
   omega
  have hkbn : kc ≤ bn := by have h1 := HBN.out; have h3 := HG5.out.1; omega
  have hk0 : decide ((kc : Int) < 0) = false := decide_eq_false (by omega)
  have hs0 : decide (s2 < s) = false := decide_eq_false (by have := HG1.out; omega)
  have HEE : Hid (endD s2 b2 = en) := by show _ = _; rw [HEN.out]; exact HRK.out.2.2
  have hst : decide (stableD s bs' < s2) = false := decide_eq_false (by have := HG3.out; omega)
  have hc := HFC.out v5 HB5.out
  have hss : (s2 != s2) = false := by simp
  have hee : (en != en) = false := by simp
  obtain ⟨ad', cap', hsl0, hrw, -⟩ := row_from batK_ok HBT5.out.row kc hkbn
  have hsl : ∀ V, (Instr.slice 42 (.slice ba bn bc) (some (.int .i64 (kc : Int))) none none).run Tryz.prog V = .ok (.slice ad' (bn - kc) cap') V := hsl0
  clear hsl0
  have HRW := qh hrw
  clear hrw
  have hx : (fr < s ∧ s2 ≤ s) ∨ (s ≤ fr ∧ s2 ≤ fr) := by have := HG2.out; omega
  rcases hx with ⟨hx1, hx2⟩ | ⟨hx1, hx2⟩
  · have hy2 : decide (s < s2) = false := decide_eq_false (by omega)
    have hy1 : decide (fr < s) = true := decide_eq_true hx1
    have hmx : max fr s = s := by omega
    go_wp2_with fail
    obtain ⟨F, hF, -, -⟩ := HL5.out.is
    refine (HC.out.start F v5 a 1073741824 s2 b2 hF HL5.out.row).mono ?_
    rintro e v6 ⟨rfl, hb⟩
    have HL6 := qh (HL5.out.on HC.out hb)
    have HBT6 := qh (HBT5.out.keep hb)
    have HNT6 := qh (HNT5.out.keep hb)
    have HRW6 := qh (HRW.out.keep hb)
    have HK6 : Hid (Kept w2 v6 (fun k => w.heap.size ≤ k ∧ ¬ X0 k)) := HK5.out.trans (Kept.of_below (F := fun _ => False) hb) (fun i hi => hi.elim)
    clear hF hb HL5 HBT5 HNT5 HRW HK5 HB5
    go_wp2_with fail
    obtain ⟨F, hF, -, -⟩ := HL6.out.is
    refine (HC.out.end_ F v6 a 1073741824 s2 b2 hF HL6.out.row).mono ?_
    rintro e v7 ⟨rfl, hb⟩
    rw [HEE.out]
    have HL7 := qh (HL6.out.on HC.out hb)
    have HBT7 := qh (HBT6.out.keep hb)
    have HNT7 := qh (HNT6.out.keep hb)
    have HRW7 := qh (HRW6.out.keep hb)
    have HK7 : Hid (Kept w2 v7 (fun k => w.heap.size ≤ k ∧ ¬ X0 k)) := HK6.out.trans (Kept.of_below (F := fun _ => False) hb) (fun i hi => hi.elim)
    clear hF hb HL6 HBT6 HNT6 HRW6 HK6
    go_wp2_with fail
    have hdr : bats (bm.drop kc) = bs'.drop kc := by have h1 := HBS.out; unfold bats at h1 ⊢; rw [List.map_drop, h1]
    refine (refRows2_any v7 na ad' nn (bn - kc) nc cap' nm (bm.drop kc) HNT7.out ⟨HRW7.out, fun m1 hm1 => HBT7.out.ins m1 (List.mem_of_mem_drop hm1)⟩ (by rw [HNS.out, hdr]; exact HG5.out.2.1) (by have h1 := HNN.out; have h2 := HRK.out.1.few; omega) (batsOk_of (by rw [HNS.out]; exact HRK.out.1.ok))).mono ?_
    rintro e v8 ⟨rfl, hb⟩
    have HL8 := qh (HL7.out.on HC.out hb)
    have HBT8 := qh (HBT7.out.keep hb)
    have HNT8 := qh (HNT7.out.keep hb)
    have HK8 : Hid (Kept w2 v8 (fun k => w.heap.size ≤ k ∧ ¬ X0 k)) := HK7.out.trans (Kept.of_below (F := fun _ => False) hb) (fun i hi => hi.elim)
    clear hb HL7 HBT7 HNT7 HRW7 HK7 hdr hsl
    by_cases hn : 0 < nn
    rotate_left
    · have hn1 : decide (0 < nn) = false := decide_eq_false hn
      have hn1i : decide ((0 : Int) < (nn : Int)) = false := decide_eq_false (by omega)
      go_wp2_with fail
      refine (refStable_any v8 s ba bn bc bm HBT8.out (by have h1 := HBN.out; have h2 := HROW.out.few; omega) (by rw [HBS.out]; exact HROW.out.fo)).mono ?_
      rintro e v9 ⟨rfl, hb⟩
      rw [HBS.out]
      have HL9 := qh (HL8.out.on HC.out hb)
      have HK9 : Hid (Kept w2 v9 (fun k => w.heap.size ≤ k ∧ ¬ X0 k)) := HK8.out.trans (Kept.of_below (F := fun _ => False) hb) (fun i hi => hi.elim)
      clear hb HL8 HBT8 HNT8 HK8
      go_wp2
      go_roundw
      case rel => exact ⟨i + 1, s2, b2, rfl, HLT.out, Nat.le_trans HRK.out.2.1 HBL'.out, by have h1 := HEL'.out; have h2 := HRK.out.2.2; show _ ≤ _; push_cast; omega, HL9.out.less (fun k hk => .inl hk), HK9.out⟩
      simp [intOf]; have := HLT.out; omega
    have hn1 : decide (0 < nn) = true := decide_eq_true hn
    have hn1i : decide ((0 : Int) < (nn : Int)) = true := decide_eq_true (by omega)
    have hnl : (0 : Int) < (nn : Int) := by omega
    obtain ⟨b8, o8, m8, el, hb8, hm8, -, d0, -⟩ := HNT8.out.get hn
    have hbase : m8.b.base = s2 := HG5.out.2.2 m8.b (by rw [← HNS.out]; unfold bats; rw [List.getElem?_map, hm8]; rfl)
    rw [hbase] at d0
    simp only [Nat.zero_mul, Nat.add_zero] at d0
    subst el
    clear hm8 hbase
    go_wp2_with fail
    refine (refStable_any v8 s ba bn bc bm HBT8.out (by have h1 := HBN.out; have h2 := HROW.out.few; omega) (by rw [HBS.out]; exact HROW.out.fo)).mono ?_
    rintro e v9 ⟨rfl, hb⟩
    rw [HBS.out]
    have HL9 := qh (HL8.out.on HC.out hb)
    have HK9 : Hid (Kept w2 v9 (fun k => w.heap.size ≤ k ∧ ¬ X0 k)) := HK8.out.trans (Kept.of_below (F := fun _ => False) hb) (fun i hi => hi.elim)
    clear hb HL8 HBT8 HNT8 HK8
    go_wp2
    go_roundw
    case rel => exact ⟨i + 1, s2, b2, rfl, HLT.out, Nat.le_trans HRK.out.2.1 HBL'.out, by have h1 := HEL'.out; have h2 := HRK.out.2.2; show _ ≤ _; push_cast; omega, HL9.out.less (fun k hk => .inl hk), HK9.out⟩
    simp [intOf]; have := HLT.out; omega
  have hy2 : decide (fr < s2) = false := decide_eq_false (by omega)
  have hy1 : decide (fr < s) = false := decide_eq_false (by omega)
  have hmx : max fr s = fr := by omega
  go_wp2_with fail
  obtain ⟨F, hF, -, -⟩ := HL5.out.is
  refine (HC.out.start F v5 a 1073741824 s2 b2 hF HL5.out.row).mono ?_
  rintro e v6 ⟨rfl, hb⟩
  have HL6 := qh (HL5.out.on HC.out hb)
  have HBT6 := qh (HBT5.out.keep hb)
  have HNT6 := qh (HNT5.out.keep hb)
  have HRW6 := qh (HRW.out.keep hb)
  have HK6 : Hid (Kept w2 v6 (fun k => w.heap.size ≤ k ∧ ¬ X0 k)) := HK5.out.trans (Kept.of_below (F := fun _ => False) hb) (fun i hi => hi.elim)
  clear hF hb HL5 HBT5 HNT5 HRW HK5 HB5
  go_wp2_with fail
  obtain ⟨F, hF, -, -⟩ := HL6.out.is
  refine (HC.out.end_ F v6 a 1073741824 s2 b2 hF HL6.out.row).mono ?_
  rintro e v7 ⟨rfl, hb⟩
  rw [HEE.out]
  have HL7 := qh (HL6.out.on HC.out hb)
  have HBT7 := qh (HBT6.out.keep hb)
  have HNT7 := qh (HNT6.out.keep hb)
  have HRW7 := qh (HRW6.out.keep hb)
  have HK7 : Hid (Kept w2 v7 (fun k => w.heap.size ≤ k ∧ ¬ X0 k)) := HK6.out.trans (Kept.of_below (F := fun _ => False) hb) (fun i hi => hi.elim)
  clear hF hb HL6 HBT6 HNT6 HRW6 HK6
  go_wp2_with fail
  have hdr : bats (bm.drop kc) = bs'.drop kc := by have h1 := HBS.out; unfold bats at h1 ⊢; rw [List.map_drop, h1]
  refine (refRows2_any v7 na ad' nn (bn - kc) nc cap' nm (bm.drop kc) HNT7.out ⟨HRW7.out, fun m1 hm1 => HBT7.out.ins m1 (List.mem_of_mem_drop hm1)⟩ (by rw [HNS.out, hdr]; exact HG5.out.2.1) (by have h1 := HNN.out; have h2 := HRK.out.1.few; omega) (batsOk_of (by rw [HNS.out]; exact HRK.out.1.ok))).mono ?_
  rintro e v8 ⟨rfl, hb⟩
  have HL8 := qh (HL7.out.on HC.out hb)
  have HBT8 := qh (HBT7.out.keep hb)
  have HNT8 := qh (HNT7.out.keep hb)
  have HK8 : Hid (Kept w2 v8 (fun k => w.heap.size ≤ k ∧ ¬ X0 k)) := HK7.out.trans (Kept.of_below (F := fun _ => False) hb) (fun i hi => hi.elim)
  clear hb HL7 HBT7 HNT7 HRW7 HK7 hdr hsl
  by_cases hn : 0 < nn
  rotate_left
  · have hn1 : decide (0 < nn) = false := decide_eq_false hn
    have hn1i : decide ((0 : Int) < (nn : Int)) = false := decide_eq_false (by omega)
    go_wp2_with fail
    refine (refStable_any v8 s ba bn bc bm HBT8.out (by have h1 := HBN.out; have h2 := HROW.out.few; omega) (by rw [HBS.out]; exact HROW.out.fo)).mono ?_
    rintro e v9 ⟨rfl, hb⟩
    rw [HBS.out]
    have HL9 := qh (HL8.out.on HC.out hb)
    have HK9 : Hid (Kept w2 v9 (fun k => w.heap.size ≤ k ∧ ¬ X0 k)) := HK8.out.trans (Kept.of_below (F := fun _ => False) hb) (fun i hi => hi.elim)
    clear hb HL8 HBT8 HNT8 HK8
    go_wp2
    go_roundw
    case rel => exact ⟨i + 1, s2, b2, rfl, HLT.out, Nat.le_trans HRK.out.2.1 HBL'.out, by have h1 := HEL'.out; have h2 := HRK.out.2.2; show _ ≤ _; push_cast; omega, HL9.out.less (fun k hk => .inl hk), HK9.out⟩
    simp [intOf]; have := HLT.out; omega
  have hn1 : decide (0 < nn) = true := decide_eq_true hn
  have hn1i : decide ((0 : Int) < (nn : Int)) = true := decide_eq_true (by omega)
  have hnl : (0 : Int) < (nn : Int) := by omega
  obtain ⟨b8, o8, m8, el, hb8, hm8, -, d0, -⟩ := HNT8.out.get hn
  have hbase : m8.b.base = s2 := HG5.out.2.2 m8.b (by rw [← HNS.out]; unfold bats; rw [List.getElem?_map, hm8]; rfl)
  rw [hbase] at d0
  simp only [Nat.zero_mul, Nat.add_zero] at d0
  subst el
  clear hm8 hbase
  go_wp2_with fail
  refine (refStable_any v8 s ba bn bc bm HBT8.out (by have h1 := HBN.out; have h2 := HROW.out.few; omega) (by rw [HBS.out]; exact HROW.out.fo)).mono ?_
  rintro e v9 ⟨rfl, hb⟩
  rw [HBS.out]
  have HL9 := qh (HL8.out.on HC.out hb)
  have HK9 : Hid (Kept w2 v9 (fun k => w.heap.size ≤ k ∧ ¬ X0 k)) := HK8.out.trans (Kept.of_below (F := fun _ => False) hb) (fun i hi => hi.elim)
  clear hb HL8 HBT8 HNT8 HK8
  go_wp2
  go_roundw
  case rel => exact ⟨i + 1, s2, b2, rfl, HLT.out, Nat.le_trans HRK.out.2.1 HBL'.out, by have h1 := HEL'.out; have h2 := HRK.out.2.2; show _ ≤ _; push_cast; omega, HL9.out.less (fun k hk => .inl hk), HK9.out⟩
  simp [intOf]; have := HLT.out; omega
end Go.Proofs.YtjmfdildnojknaaGreat
namespace Go.Proofs.YtjmfdildnojknaaGreat
open Go.ChangeShapes Go.WideShapes Go.Deep Go.RowKit
open Go.BatMath hiding AllB getD_lt take_all
theorem weights_all {H : Type} {P : Program} {e : TypeId} : ∀ {l : List (DataW H)} {d : DataW H}, d ∈ l → ∀ n ∈ d.weights P e, n ∈ DataW.weightsAll P e l
 | x :: l, d, h, n, hn => by
   unfold DataW.weightsAll
   rw [List.mem_append]
   rcases List.mem_cons.1 h with rfl | h
   · exact .inl hn
   exact .inr (weights_all h n hn)
theorem weights_field {H : Type} {P : Program} {t : TypeId} {fs : Array Field} {parts : List (DataW H)} {j : Nat} {f : Field} {d : DataW H} (ht : P.underlying t = some (.struct fs)) (hf : fs[j]? = some f) (hd : parts[j]? = some d) : ∀ n ∈ d.weights P f.type, n ∈ DataW.weights P t (.agg parts) := by
 intro n hn
 simp only [DataW.weights, ht]
 exact DataW.weights_mem_each (j := j) (t := f.type) (by simp [hf]) hd n hn
theorem weights_elem {H : Type} {P : Program} {t e : TypeId} {elems spare : List (DataW H)} {d : DataW H} (ht : P.underlying t = some (.slice e)) (hd : d ∈ elems) : ∀ n ∈ d.weights P e, n ∈ DataW.weights P t (.slice elems spare) := by
 intro n hn
 simp only [DataW.weights, ht]
 exact List.mem_cons_of_mem _ (List.mem_append.2 (.inl (weights_all hd n hn)))
theorem weights_slice {H : Type} {P : Program} {t e : TypeId} {elems spare : List (DataW H)} (ht : P.underlying t = some (.slice e)) : (elems.length + spare.length) * P.bytesOf e ∈ DataW.weights P t (DataW.slice (H := H) elems spare) := by
 simp only [DataW.weights, ht]
 exact List.mem_cons_self
theorem wf_in {n : Int} (h : (Lit.int .i64 n).wf = true) : In64 n := by
 have := bounds_i64 h
 exact ⟨by omega, by omega⟩
section
variable {H : Type} {enc : TypeId × Value → H} {w : World}
theorem open_recs {fuel len cap : Nat} {ad : Option Addr} {x : DataW H × List MemPlace} (h : DataW.trod enc Tryz.prog w 0 (fun _ => true) true fuel 27 [.slice ad len cap] = some x) (hs : ∀ n ∈ x.1.weights Tryz.prog 27, n ≤ reachBytes) :
 ∃ l, RecsAt w ad len cap l ∧ TextsOk l ∧ len ≤ 140737488355328 := by
 have hB : Tryz.prog.bytesOf 84 = 32 := by kernel_rfl
 have hC : Tryz.prog.cellsOf 84 = 2 := by kernel_rfl
 have hS : Tryz.prog.cellsOf 9 = 1 := by kernel_rfl
 rcases open_slice Tryz.underlying27 h with ⟨hcs, _⟩ | ⟨a, l, c, m, n, D, Pl, hcs, _, hl, hm, hmm, hx, hi⟩
 · simp at hcs
   obtain ⟨rfl, rfl, rfl⟩ := hcs
   exact ⟨[], recsAt_nil w, fun r hr => (by cases hr), Nat.zero_le _⟩
 simp at hcs
 obtain ⟨rfl, rfl, rfl⟩ := hcs
 obtain rfl : m = cap := by simpa using hmm
 have hx1 : x.1 = .slice ((List.range len).map D) ((List.range (m - len)).map fun j => D (len + j)) := congrArg Prod.fst hx
 rw [hx1] at hs
 have hlen : len ≤ 140737488355328 := by
  have := hs _ (weights_slice (P := Tryz.prog) (e := 84) Tryz.underlying27)
  rw [hB] at this
  simp only [List.length_map, List.length_range, reachBytes] at this
  omega
 have key : ∀ i, i < len → ∃ r : Rc, w.cell? (a.add (i * 2)) = some (.string r.key) ∧ w.cell? (a.add (i * 2 + 1)) = some (.string r.val) ∧ r.key.size ≤ 140737488355328 ∧ r.val.size ≤ 140737488355328 := by
  intro i hil
  obtain ⟨cs', hc, ht⟩ := hi i (by omega)
  rw [hC] at hc
  obtain ⟨_, hcl, hat⟩ := World.cells?_some hc
  obtain ⟨ys, n', _, hy, _, hyl, hf⟩ := DataW.trod_struct Tryz.underlying84 ht
  have h0 : DataW.trod enc Tryz.prog w 0 (fun _ => true) true n' 9 ((cs'.drop 0).take (Tryz.prog.cellsOf 9)) = ys[0]? := hf 0 _ rfl
  have h1 : DataW.trod enc Tryz.prog w 0 (fun _ => true) true n' 9 ((cs'.drop 1).take (Tryz.prog.cellsOf 9)) = ys[1]? := hf 1 _ rfl
  rw [hS] at h0 h1
  have hyl2 : ys.length = 2 := hyl
  obtain ⟨c0, c1, rfl⟩ : ∃ c0 c1, cs' = [c0, c1] := by
   match cs', hcl with
   | [c0, c1], _ => exact ⟨c0, c1, rfl⟩
  obtain ⟨y0, y1, rfl⟩ : ∃ y0 y1, ys = [y0, y1] := by
   match ys, hyl2 with
   | [y0, y1], _ => exact ⟨y0, y1, rfl⟩
  obtain ⟨s0, e0, hy0, _⟩ := DataW.trod_string Tryz.underlying9 (h0.trans rfl)
  obtain ⟨s1, e1, hy1, _⟩ := DataW.trod_string Tryz.underlying9 (h1.trans rfl)
  simp at e0 e1
  subst e0 e1
  have hDi : D i = .agg [y0.1, y1.1] := congrArg Prod.fst hy
  have hmem : D i ∈ (List.range len).map D := List.mem_map.2 ⟨i, List.mem_range.2 hil, rfl⟩
  have hbig : ∀ (fs : Array Field) (j : Nat) (f : Field) (d : DataW H) (s : ByteArray), Tryz.prog.underlying 84 = some (.struct fs) → fs[j]? = some f → [y0.1, y1.1][j]? = some d → d = .lit (.string s.data.toList) → s.size ≤ 140737488355328 := by
   intro fs j f d s hu hfj hdj hds
   have h1 : s.data.toList.length ∈ d.weights Tryz.prog f.type := by rw [hds]; simp [DataW.weights]
   have h2 := weights_field (P := Tryz.prog) hu hfj hdj _ h1
   rw [← hDi] at h2
   have h3 := hs _ (weights_elem (P := Tryz.prog) Tryz.underlying27 hmem _ h2)
   simp only [reachBytes, Array.length_toList] at h3
   show s.data.size ≤ _
   omega
  refine ⟨⟨s0, s1⟩, ?_, ?_, hbig _ 0 _ _ s0 Tryz.underlying84 rfl rfl (congrArg Prod.fst hy0), hbig _ 1 _ _ s1 Tryz.underlying84 rfl rfl (congrArg Prod.fst hy1)⟩
  · have := hat 0 (by omega)
    rw [Go.Deep.add_add, Nat.add_zero] at this
    exact this
  have := hat 1 (by omega)
  rw [Go.Deep.add_add] at this
  exact this
 have hch : ∃ f : Nat → Rc, ∀ i, i < len → w.cell? (a.add (i * 2)) = some (.string (f i).key) ∧ w.cell? (a.add (i * 2 + 1)) = some (.string (f i).val) ∧ (f i).key.size ≤ 140737488355328 ∧ (f i).val.size ≤ 140737488355328 := by
  refine Classical.axiomOfChoice (r := fun i (r : Rc) => i < len → w.cell? (a.add (i * 2)) = some (.string r.key) ∧ w.cell? (a.add (i * 2 + 1)) = some (.string r.val) ∧ r.key.size ≤ 140737488355328 ∧ r.val.size ≤ 140737488355328) fun i => ?_
  by_cases h : i < len
  · obtain ⟨r, hr⟩ := key i h
    exact ⟨r, fun _ => hr⟩
  exact ⟨⟨⟨#[]⟩, ⟨#[]⟩⟩, fun h' => absurd h' h⟩
 obtain ⟨f, hf⟩ := hch
 refine ⟨(List.range len).map f, ⟨by simp, hl, (fun e => by cases e), ?_⟩, ?_, hlen⟩
 · by_cases h0 : len = 0
   · exact .inl h0
   obtain ⟨b, off, spot⟩ := a
   have h1 := (hf 0 (by omega)).1
   have hsp : spot = none := by simpa [Addr.add] using World.cell?_spot h1
   subst hsp
   refine .inr ⟨b, off, rfl, ?_, fun i r hi => ?_⟩
   · rw [Go.WideShapes.add_plain] at h1
     exact World.block_lt_of_cell? w _ h1
   obtain ⟨hlt, e⟩ := List.getElem?_eq_some_iff.1 hi
   have hil : i < len := by simpa using hlt
   have e : f i = r := by simpa using e
   subst e
   have h2 := hf i hil
   rw [Go.WideShapes.add_plain, Go.WideShapes.add_plain, ← Nat.add_assoc] at h2
   exact ⟨h2.1, h2.2.1⟩
 intro r hr
 obtain ⟨i, hi, rfl⟩ := List.mem_map.1 hr
 exact (hf i (List.mem_range.1 hi)).2.2
end
theorem weights_slice2 {H : Type} {P : Program} {t e : TypeId} {elems spare : List (DataW H)} (ht : P.underlying t = some (.slice e)) : (elems.length + spare.length) * P.bytesOf e ∈ DataW.weights P t (DataW.slice (H := H) elems spare) := by
 simp only [DataW.weights, ht]
 exact List.mem_cons_self
end Go.Proofs.YtjmfdildnojknaaGreat
