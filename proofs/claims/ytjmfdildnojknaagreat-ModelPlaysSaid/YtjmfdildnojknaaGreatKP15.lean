/- Parts of a proof. -/
import Derived.Deep.Slices
import Derived.Deep.Fields
import Derived.ChangeSame
import Derived.SizedLaws
import Derived.Test.YtjmfdildnojknaaGreatKP14
set_option maxRecDepth 100000
set_option maxHeartbeats 16000000
set_option linter.unusedVariables false
namespace Go.Proofs.YtjmfdildnojknaaGreat
open Go.RowKit
open Go.FoMath
open Go.ProdMath
open Go.BatMath hiding AllB getD_lt take_all In64
def AmPast (q : Nat) (m : Am) : Prop := (0 < m.b.recs.length → ∀ a, m.bad = some a → a.block ≠ q) ∧ (0 < m.ylen → ∀ a, m.yad = some a → a.block ≠ q)
theorem Byt.kept0 {W W' : World} {G : Nat → Prop} {ad : Option Addr} {len cap : Nat} {bs : List Nat} (h : Byt W ad len cap bs) (hk : Kept W W' G) (hg : 0 < len → ∀ a, ad = some a → ¬ G a.block) : Byt W' ad len cap bs := by
 refine ⟨h.length, h.fits, h.all, ?_⟩
 rcases h.cells with h0 | ⟨b, off, e, hc⟩
 · exact .inl h0
 by_cases h0 : len = 0
 · exact .inl h0
 refine .inr ⟨b, off, e, fun i hi => ?_⟩
 have h1 := hc i hi
 have hlt : b < W.heap.size := World.block_lt_of_cell? _ _ h1
 have e1 := hk.block b hlt (hg (by omega) _ e)
 unfold World.cell? at h1 ⊢
 simp only [e1]
 exact h1
theorem Byt.bound {W : World} {ad : Option Addr} {len cap : Nat} {bs : List Nat} (h : Byt W ad len cap bs) (h0 : 0 < len) {a : Addr} (ha : ad = some a) : a.block < W.heap.size := by
 rcases h.cells with h1 | ⟨b, off, e, hc⟩
 · omega
 rw [e] at ha
 cases ha
 exact World.block_lt_of_cell? _ _ (hc 0 h0)
theorem AmIn.kept {W W' : World} {G : Nat → Prop} {m : Am} (h : AmIn W m) (hk : Kept W W' G) (hg : ∀ k, G k → AmPast k m) : AmIn W' m :=
 ⟨h.recs.kept0 hk (fun h0 a ha hga => (hg _ hga).1 h0 a ha rfl), h.texts, h.few, h.prod, h.byt.kept0 hk (fun h0 a ha hga => (hg _ hga).2 h0 a ha rfl), h.long⟩
theorem AmIn.past {W : World} {m : Am} (h : AmIn W m) {q : Nat} (hq : W.heap.size ≤ q) : AmPast q m :=
 ⟨fun h0 a ha e => by have := h.recs.bound h0 ha; omega, fun h0 a ha e => by have := h.byt.bound h0 ha; omega⟩
theorem AmNew.past {B q : Nat} {m : Am} (h : AmNew B m) (hq : q < B) : AmPast q m :=
 ⟨fun h0 a ha e => by have := h.1 a ha; omega, fun h0 a ha e => by have := h.2 a ha; omega⟩
theorem MW.move {N N' G : Nat → Prop} {w w' : World} {km most : Nat} {mc : Int} (h : MW N w km most mc) (hk : Kept w w' G) (hkm : ¬ G km) (hG : ∀ k, k < w.heap.size → N k → ¬ G k) (hN : ∀ k, k < w.heap.size → N k → N' k) (hu : ∀ k, w'.heap.size ≤ k → N' k) : MW N' w' km most mc := by
 obtain ⟨s, ad, len, cap, ms, h1, h2⟩ := h
 exact ⟨s, ad, len, cap, ms, h1.move hk hkm hG hN hu, h2⟩
def valLen : Value → Nat
 | .slice _ n _ => n
 | _ => 0
theorem OwnRow.valLen {α : Type} {K : Kind α} {bytes : Nat} {w : World} (hK : K.Ok bytes) {base : Nat} {v : Value} {l : List α} (h : OwnRow K w base v l) : valLen v = l.length := by
 obtain ⟨ad, cap, e, _⟩ := OwnRow.at hK h
 rw [e]
 rfl
structure OwnAms (W : World) (base : Nat) (u : Value) (l : List Am) : Prop where
 row : OwnRow amK W base u l
 ins : ∀ m ∈ l, AmIn W m
 new : ∀ m ∈ l, AmNew base m
 past : ∀ q m, u.ownBlock = some q → m ∈ l → AmPast q m
def GivesActs (w : World) (most : Nat) (e : Ending) (w' : World) : Prop :=
 ∃ u l, e = .returned u ∧ OwnAms w' w.heap.size u l ∧ l.length ≤ most + 2 ∧ Below w.heap.size w w'
theorem acts_any (w : World) (tad : Option Addr) (tlen tcap : Nat) (zs : List Int) (h : Nums w tad tlen zs) (hL : tlen ≤ 140737488355328) (most : Nat) (hmost : most ≤ 1000) :
 Calls Tryz.prog 9 #[.slice tad tlen tcap, .int .i64 (most : Int)] w (GivesActs w most) := by
 have HNUM := qh (numsIn_of h hL)
 clear h
 go_enter Tryz.func9, Tryz.ntmps9
 go_upto_region 3 with fail
 obtain ⟨W1, hW1⟩ := exq (w.alloc (.cells #[.slice tad tlen tcap, .int .i64 0] 47))
 obtain ⟨kt, hkt⟩ := exq w.heap.size
 obtain ⟨W2, hW2⟩ := exq (W1.alloc (.cells #[.int .i64 1073741824, .int .i64 0, .slice none 0 0] 44))
 obtain ⟨km, hkm⟩ := exq W1.heap.size
 have hb1 := wbq hW1
 have hb2 := wbq hW2
 have hkk1 : km = kt + 1 := by rw [hkm, hW1, hkt]; simp
 have HB2 : Hid (Below w.heap.size w W2) := hb1.trans (hb2.mono hb1.size)
 have HS2 : Hid (km + 1 = W2.heap.size) := by show _ = _; rw [hW2, hkm]; simp
 have HKT : Hid (w.heap.size = kt ∧ kt + 1 = km) := ⟨hkt.symm, hkk1.symm⟩
 have HT2 : Hid (TapeT W2 kt tad tlen tcap) := ⟨0, numsIn_tape HNUM.out HB2.out (by omega) (by
  have h4 : W1.heap[kt]? = some (.cells #[.slice tad tlen tcap, .int .i64 ((0 : Nat) : Int)] 47 (0, 0)) := by rw [hW1, hkt]; exact heap_alloc_new w _
  exact (hb2.block kt (lt_of_block h4)).trans h4)⟩
 have HM2 : Hid (MW (fun k => k ≠ kt ∧ ∀ q, (Value.slice none 0 0).ownBlock = some q → k ≠ q) W2 km 0 1073741824) := by
  refine ⟨0, none, 0, 0, [], ⟨?_, ⟨rowAt_nil _, (fun m hm => by cases hm)⟩, (fun a ha => by cases ha), (fun m hm => by cases hm), ⟨(fun a ha => by cases ha), fun m hm => by cases hm⟩, fun k hk => ⟨by have := HS2.out; omega, fun q hq => by cases hq⟩⟩, RowW.nil, by decide, by show (0 : Int) ≤ _; omega, Nat.le_refl _⟩
  show W2.heap[km]? = _
  rw [hW2, hkm]
  exact heap_alloc_new W1 _
 (try rw [← hW1])
 (try rw [← hkt])
 (try rw [← hkk1])
 (try rw [← hW2])
 have hkk : kt < km := by omega
 clear hW1 hkt hW2 hkm hb1 hb2 hkk1
 go_wp2
 go_loopw [7] (fun v7 wr => ∃ (u : Value) (l : List Am) (c : Nat), u = v7 ∧ Hid (OwnAms wr (km + 1) u l) ∧ l.length ≤ most + 2 ∧ c ≤ l.length ∧ Hid (TapeT wr kt tad tlen tcap) ∧ Hid (MW (fun k => k ≠ kt ∧ ∀ q, u.ownBlock = some q → k ≠ q) wr km c 1073741824) ∧ Hid (km + 1 ≤ wr.heap.size) ∧ Hid (Below w.heap.size w wr)) (fun v7 _ => most - valLen v7)
 case atStart => exact ⟨_, [], 0, rfl, ⟨ownRow_nil _ _ _, (fun m hm => by cases hm), (fun m hm => by cases hm), fun q m hq => by cases hq⟩, Nat.zero_le _, Nat.zero_le _, HT2.out, HM2.out, by show _ ≤ _; have := HS2.out; omega, HB2.out⟩
 obtain ⟨u, l, c, rfl, HO, hl2, hcl, HT, HM, HSZ, HB⟩ := hrel
 clear HT2 HM2 HB2 HS2
 obtain ⟨wo, hwo⟩ := exq wr
 subst hwo
 obtain ⟨it, hta⟩ := HT.out
 obtain ⟨oa, oc, hu, hro, -⟩ := OwnRow.at amK_ok HO.out.row
 obtain ⟨ln, hln⟩ := exq l.length
 rw [← hln] at hu hl2 hcl
 subst hu
 have HLN := qh hln
 have HTA := qh hta
 have x1 := hta.c1
 clear hro hln hta
 by_cases hlt : ln < most
 rotate_left
 · have hd : decide (ln < most) = false := decide_eq_false hlt
   have hdi : decide ((ln : Int) < (most : Int)) = false := decide_eq_false (by omega)
   clear hlt
   go_wp2
   go_ret
   exact ⟨_, l, rfl, ⟨by have h1 := HO.out.row; exact ⟨h1.1, h1.2.imp id (fun ⟨g, cap, cur, e, h2, h3⟩ => ⟨g, cap, cur, e, by have := HKT.out; omega, h3⟩)⟩, HO.out.ins, fun m hm => ⟨fun a ha => by have := (HO.out.new m hm).1 a ha; have := HKT.out; omega, fun a ha => by have := (HO.out.new m hm).2 a ha; have := HKT.out; omega⟩, HO.out.past⟩, by rw [← HLN.out]; exact hl2, HB.out⟩
 have hd : decide (ln < most) = true := decide_eq_true hlt
 have hdi : decide ((ln : Int) < (most : Int)) = true := decide_eq_true (by omega)
 by_cases hit : it < tlen
 rotate_left
 · have hd2 : decide (it < tlen) = false := decide_eq_false hit
   have hd2i : decide ((it : Int) < (tlen : Int)) = false := decide_eq_false (by omega)
   clear hit
   go_wp2
   go_ret
   exact ⟨_, l, rfl, ⟨by have h1 := HO.out.row; exact ⟨h1.1, h1.2.imp id (fun ⟨g, cap, cur, e, h2, h3⟩ => ⟨g, cap, cur, e, by have := HKT.out; omega, h3⟩)⟩, HO.out.ins, fun m hm => ⟨fun a ha => by have := (HO.out.new m hm).1 a ha; have := HKT.out; omega, fun a ha => by have := (HO.out.new m hm).2 a ha; have := HKT.out; omega⟩, HO.out.past⟩, by rw [← HLN.out]; exact hl2, HB.out⟩
 have hd2 : decide (it < tlen) = true := decide_eq_true hit
 have hd2i : decide ((it : Int) < (tlen : Int)) = true := decide_eq_true (by omega)
 clear hit
 go_wp2_with fail
 clear x1
 refine (act_any wo kt tad tlen tcap km c 1073741824 HT.out HM.out hkk (fun k hk => hk.1) (by omega)).mono ?_
 rintro e w2 ⟨ad, len, cap, l2, rfl, hams, hadn, hnew, h1, h3, ht2, hm2, hk2⟩
 have HAMS := qh hams.out
 have HADN := qh hadn.out
 have HNEW := qh hnew.out
 have HT2 := qh ht2.out
 have HM2 := qh hm2.out
 have HK2 := qh hk2.out
 have HOWN : Hid (∀ q, (Value.slice oa ln oc).ownBlock = some q → km + 1 ≤ q ∧ q < wo.heap.size) := fun q hq => HO.out.row.lt q hq
 have HO2 : Hid (OwnRow amK w2 (km + 1) (.slice oa ln oc) l) := HO.out.row.same (fun q hq => HK2.out.block q (HOWN.out q hq).2 (fun h => by have := HOWN.out q hq; omega))
 have HI2 : Hid (∀ m ∈ l, AmIn w2 m) := fun m hm => (HO.out.ins m hm).kept HK2.out (fun k hk => (HO.out.new m hm).past (by omega))
 have HB2 : Hid (Below w.heap.size w w2) := HB.out.trans (HK2.out.below (fun k hk => by have := HKT.out; omega) HB.out.size)
 have HLE : Hid (l2.length = len) := HAMS.out.row.length
 clear hams hadn hnew ht2 hm2 hk2 HT HM HB HTA
 go_wp2_with (at_builtin; refine list_row (by rfl) amK_ok (.tmp 26) (.tmp 29) rfl (km + 1) l l2 (.slice oa ln oc) rfl HO2.out (by have h7 := HSZ.out; have h8 := HK2.out.size; omega) ad len cap rfl HAMS.out.row (by have h7 := HLN.out; omega) ?_)
 intro v3 w3 hap
 have hkp : Kept w2 w3 (fun k => (Value.slice oa ln oc).ownBlock = some k) := Kept.of_own hap.2.1 (fun k hk => .inl hk)
 have hown3 : ∀ q, v3.ownBlock = some q → (Value.slice oa ln oc).ownBlock = some q ∨ w2.heap.size ≤ q := fun q hq => hap.2.2.2 q hq
 have hlt3 := hap.1.lt
 have HOA : Hid (OwnAms w3 (km + 1) v3 (l ++ l2)) := by
  refine ⟨hap.1, fun m hm => ?_, fun m hm => ?_, fun q m hq hm => ?_⟩
  · rcases List.mem_append.1 hm with h4 | h4
    · exact (HI2.out m h4).kept hkp (fun k hk => HO.out.past k m hk h4)
    exact (HAMS.out.ins m h4).kept hkp (fun k hk => (HNEW.out m h4).past (HOWN.out k hk).2)
  · rcases List.mem_append.1 hm with h4 | h4
    · exact HO.out.new m h4
    have h5 := HNEW.out m h4
    have h7 := HSZ.out
    exact ⟨fun a ha => Nat.le_trans h7 (h5.1 a ha), fun a ha => Nat.le_trans h7 (h5.2 a ha)⟩
  rcases hown3 q hq with h6 | h6
  · rcases List.mem_append.1 hm with h4 | h4
    · exact HO.out.past q m h6 h4
    exact (HNEW.out m h4).past (HOWN.out q h6).2
  rcases List.mem_append.1 hm with h4 | h4
  · exact (HI2.out m h4).past h6
  exact (HAMS.out.ins m h4).past h6
 have HT3 : Hid (TapeT w3 kt tad tlen tcap) := by
  obtain ⟨i2, h2⟩ := HT2.out
  refine ⟨i2, h2.grow hap.2.1 (fun k hk => ?_)⟩
  have := HOWN.out k hk
  omega
 have HM3 : Hid (MW (fun k => k ≠ kt ∧ ∀ q, v3.ownBlock = some q → k ≠ q) w3 km (c + 1) 1073741824) := HM2.out.move hkp (fun h => by have := HOWN.out km h; omega) (fun k _ hn hk => hn.2 k hk rfl) (fun k hk hn => ⟨hn.1, fun q hq => by
  rcases hown3 q hq with h6 | h6
  · exact hn.2 q h6
  omega⟩) (fun k hk => ⟨by have h7 := HSZ.out; have h8 := HK2.out.size; have h9 := hkp.size; omega, fun q hq => by have := (hlt3 q hq).2; omega⟩)
 have HS3 : Hid (km + 1 ≤ w3.heap.size) := by show _ ≤ _; have h7 := HSZ.out; have h8 := HK2.out.size; have h9 := hkp.size; omega
 have HB3 : Hid (Below w.heap.size w w3) := HB2.out.trans (hkp.below (fun k hk => by have := HOWN.out k hk; have := HKT.out; omega) HB2.out.size)
 have hvl : valLen v3 = l.length + l2.length := by rw [OwnRow.valLen amK_ok hap.1, List.length_append]
 have hl3 : (l ++ l2).length = ln + len := by rw [List.length_append, ← HLN.out, HLE.out]
 have HVL : Hid (valLen v3 = ln + len) := by show _ = _; rw [hvl, ← HLN.out, HLE.out]
 have HL3 := qh hl3
 clear hap hkp hown3 hlt3 hvl hl3 HO HO2 HI2 HT2 HM2 HB2 HAMS HNEW HADN
 go_wp2
 go_roundw
 case rel => exact ⟨v3, l ++ l2, c + 1, rfl, HOA.out, by rw [HL3.out]; omega, by rw [HL3.out]; omega, HT3.out, HM3.out, HS3.out, HB3.out⟩
 have h5 := HVL.out; have h6 : valLen (Value.slice oa ln oc) = ln := rfl; (try simp only [h6]); omega
end Go.Proofs.YtjmfdildnojknaaGreat
namespace Go.Proofs.YtjmfdildnojknaaGreat
open Go.FoMath
open Go.ProdMath
open Go.BatMath hiding AllB getD_lt take_all In64
def kR : Rc := ⟨⟨#[107]⟩, ⟨#[]⟩⟩
def kB1 : Bat := ⟨0, 1, 0, 5, false, 0, [kR]⟩
def kBig (z : ByteArray) : Bat := ⟨0, 1, 0, 6, false, 0, List.replicate 16 ⟨⟨#[]⟩, z⟩⟩
def kP1 : Pd := ⟨1, 0, [⟨5, 5, 0⟩], -1⟩
theorem k_short : ¬ longRec kR := by unfold longRec kR; decide
theorem k_right1 : rightE kB1 = 0 := by
 unfold rightE
 rw [if_neg (by decide), if_neg (by decide), if_pos ⟨.inr (by decide), by unfold kB1; simp⟩, if_neg ?_]
 rintro (h | ⟨r, h1, h2⟩)
 · revert h; decide
 rw [List.mem_singleton.1 h1] at h2
 exact k_short h2
theorem k_right1a : rightE (kB1.at 1) = 0 := right_at k_right1 (by decide) (by decide)
theorem k_big_short {z : ByteArray} (hz : z.size = 60) : ¬ longRec ⟨⟨#[]⟩, z⟩ := by
 unfold longRec
 simp only [hz]
 decide
theorem k_rightBig {z : ByteArray} (hz : z.size = 60) : rightE ((kBig z).at 1) = 0 := by
 have hl : (kBig z).recs.length = 16 := List.length_replicate
 have h1 : noneB ((kBig z).at 1) = true ∨ headB ((kBig z).at 1) = true ∧ SeqMath.rightB ((kBig z).at 1).seq = true := .inr ⟨rfl, rfl⟩
 have h2 : ((kBig z).at 1).recs ≠ [] := by
  intro h
  have h2 : (kBig z).recs = [] := h
  rw [h2] at hl
  cases hl
 unfold rightE
 rw [if_neg (by show ¬ ((1 : Int) < 0 ∨ 1099511627776 < (1 : Int)); decide), if_neg (by show ¬ ((0 : Int) ≠ 0); decide), if_pos ⟨h1, h2⟩, if_neg ?_]
 rintro (h | ⟨r, h1, h2⟩)
 · have h3 : 16 < (kBig z).recs.length := h
   omega
 rw [List.eq_of_mem_replicate h1] at h2
 exact k_big_short hz h2
theorem k_fold : foldP [] [kB1] = [kP1] := by
 show tapplyD [] kB1 = _
 rw [tapply_ins asc_nil kB1 k_right1 (by decide)]
 rfl
theorem k_size1 : sizeB kB1 ≤ 184 ∧ 36 ≤ sizeB kB1 := by
 unfold sizeB
 rw [if_pos k_right1, bytes_len]
 have h : (recsB kB1.recs).length ≤ 148 * 1 := (recs_len (l := [kR]) (by
  intro r hr
  rw [List.mem_singleton.1 hr]
  decide)).2
 omega
theorem k_prod1 : produceD 200 0 [] kB1 = ((0, 0), [kB1]) := by
 have e : kB1.at (endD 0 []) = kB1 := rfl
 have hs := k_size1
 unfold produceD
 rw [e, k_right1, if_neg (by decide), if_neg (by decide)]
 unfold putD
 have ht : tcheckD (foldP [] []) kB1 = (-1, 0) := by unfold tcheckD; rw [k_right1, if_neg (by decide), if_neg (by decide)]; rfl
 rw [ht, if_neg (by decide), if_neg (by decide), if_neg (by show ¬ 200 < 0 + sizeB kB1; omega), if_neg (by decide)]
 rfl
theorem k_prod2 : produceD 200 0 [kB1] kB1 = ((0, 0), [kB1]) := by
 have e : kB1.at (endD 0 [kB1]) = kB1.at 1 := rfl
 unfold produceD
 rw [e, k_right1a, if_neg (by decide), if_neg (by decide)]
 unfold putD
 have ht : tcheckD (foldP [] [kB1]) (kB1.at 1) = (0, 0) := by rw [k_fold]; unfold tcheckD; rw [k_right1a, if_neg (by decide), if_neg (by decide)]; rfl
 rw [ht, if_neg (by decide), if_pos (by decide)]
theorem k_mark : markD 200 0 [kB1] 1 0 1 = ((-1, 16), [kB1]) := by
 have hr : rightE ⟨endD 0 [kB1], 1, 0, -1, true, 1, []⟩ = 0 := by
  unfold rightE
  rw [if_neg (by decide), if_pos (by decide), if_pos ⟨.inl rfl, by decide, rfl, rfl, rfl⟩]
 unfold markD
 rw [if_neg (by decide)]
 unfold putD
 have ht : tcheckD (foldP [] [kB1]) ⟨endD 0 [kB1], 1, 0, -1, true, 1, []⟩ = (-1, 16) := by rw [k_fold]; unfold tcheckD; rw [hr, if_neg (by decide), if_neg (by decide)]; rfl
 rw [ht, if_pos (by decide)]
theorem k_raw : rawD 200 0 [kB1] [] = ((-1, 12), [kB1]) := by
 have h : readD [] = ⟨Bat.zero, 0, 12⟩ := by unfold readD; rw [if_pos (by decide)]
 unfold rawD
 rw [h, if_pos (by decide)]
theorem k_big {z : ByteArray} (hz : z.size = 60) : produceD 200 0 [kB1] (kBig z) = ((-1, 17), [kB1]) := by
 have e : (kBig z).at (endD 0 [kB1]) = (kBig z).at 1 := rfl
 have hr := k_rightBig hz
 have hs : 976 ≤ sizeB ((kBig z).at 1) := by
  unfold sizeB
  rw [if_pos hr, bytes_len]
  have h1 : ∀ n, 61 * n ≤ (recsB (List.replicate n (⟨⟨#[]⟩, z⟩ : Rc))).length := fun n => by
   induction n with
   | zero => exact Nat.zero_le _
   | succ n ih =>
     rw [List.replicate_succ, recsB_cons, List.length_append]
     have h2 : 61 ≤ (recB (⟨⟨#[]⟩, z⟩ : Rc)).length := by
      have hb : (bl z).length = 60 := by rw [bl_len]; exact hz
      have := (BatMath.text_len (s := bl z) (by omega)).1
      unfold recB
      rw [List.length_append]
      show 61 ≤ (VarMath.textB (bl ⟨#[]⟩)).length + (VarMath.textB (bl z)).length
      omega
     omega
  have h2 := h1 16
  have h3 : ((kBig z).at 1).recs = List.replicate 16 ⟨⟨#[]⟩, z⟩ := rfl
  rw [h3]
  omega
 unfold produceD
 rw [e, hr, if_neg (by decide), if_neg (by show ¬ ((0 : Int) ≠ 0); decide)]
 unfold putD
 have ht : tcheckD (foldP [] [kB1]) ((kBig z).at 1) = (-1, 0) := by
  rw [k_fold]
  unfold tcheckD
  rw [hr, if_neg (by decide), if_neg (by show ¬ ((1 : Int) < 0); decide)]
  have h1 : dupL [⟨5, 5, 0⟩] 6 ((kBig z).at 1).recs.length = none := dup_miss rfl
  show (match dupL [⟨5, 5, 0⟩] 6 ((kBig z).at 1).recs.length with
   | some n => (n, (0 : Int))
   | none => if [(⟨5, 5, 0⟩ : Tr)] ≠ [] ∧ SeqMath.followsB (lastSeq [⟨5, 5, 0⟩]) 6 = false then (-1, 15) else if (0 : Int) ≤ -1 ∧ false = false then (-1, 16) else (-1, 0)) = _
  rw [h1]
  decide
 rw [ht, if_neg (by decide), if_neg (by decide), if_pos]
 have := size_bd kB1
 show 200 < sizeB kB1 + 0 + sizeB ((kBig z).at 1)
 omega
theorem k_end : endD 0 [kB1] = 1 := rfl
theorem k_open : firstOpen [kB1] = -1 := by decide
theorem k_keep0 : keepD 0 (-1) [kB1] = (0, [kB1]) := by
 have h : keepN 0 (-1) [kB1] = 0 := by
  unfold keepN
  show (if baseD 0 [kB1] 1 ≤ min (-1) (stableD 0 [kB1]) then 1 else 0) = 0
  rw [if_neg]
  show ¬ ((1 : Int) ≤ min (-1) (stableD 0 [kB1]))
  omega
 unfold keepD
 rw [h, if_neg (by decide)]
theorem k_keep9 : keepD 0 9 [kB1] = (1, []) := by
 have hst : stableD 0 [kB1] = 1 := by unfold stableD; rw [k_open]; rfl
 have h : keepN 0 9 [kB1] = 1 := by
  unfold keepN
  rw [hst]
  show (if baseD 0 [kB1] 1 ≤ min 9 1 then 1 else 0) = 1
  rw [if_pos (by decide)]
 unfold keepD
 rw [h, if_pos (by decide)]
 rfl
theorem k_row1 : RowW 0 [kB1] := by
 have h1 : RowW 0 ([] ++ [kB1]) := RowW.snoc RowW.nil rfl ⟨⟨by decide, by decide⟩, ⟨by decide, by decide⟩, ⟨by decide, by decide⟩, ⟨by decide, by decide⟩, ⟨by decide, by decide⟩⟩ k_right1 (by decide)
 exact h1
end Go.Proofs.YtjmfdildnojknaaGreat
namespace Go.Proofs.YtjmfdildnojknaaGreat
open Go.RowKit
open Go.FoMath
open Go.ProdMath
open Go.BatMath hiding AllB getD_lt take_all In64
def kReps (z : ByteArray) (i : Nat) : List Rc := List.replicate i ⟨⟨#[]⟩, z⟩ ++ List.replicate (16 - i) ⟨⟨#[]⟩, ⟨#[]⟩⟩
theorem kReps_all (z : ByteArray) : kReps z 16 = List.replicate 16 ⟨⟨#[]⟩, z⟩ := by unfold kReps; simp
def KRep (w : World) (g : Nat) (z : ByteArray) (i : Nat) : Prop := w.heap[g]? = some (.cells (recK.all (kReps z i)).toArray 84 (0, 0))
theorem k_make : ∀ W, (Instr.makeSlice 27 (.int .i64 16) (.int .i64 16)).run Tryz.prog W = .ok (.slice (some ⟨W.heap.size, 0, none⟩) 16 16) (W.alloc (.cells (recK.all (kReps ⟨#[]⟩ 0)).toArray 84)) := by
 obtain ⟨i, hi, hz, hs, hb⟩ := info_parts infoRec
 intro W
 have hr := run_make (P := Tryz.prog) W 27 84 i _ Tryz.underlying27 hi hz .i64 .i64 16 16 (by omega) (by omega) (by rw [hb]; omega) (by omega)
 rw [hs] at hr
 have e : madeCells (Value.agg #[Value.string ⟨#[]⟩, Value.string ⟨#[]⟩]).cells (Int.toNat 16 * 2) = (recK.all (kReps ⟨#[]⟩ 0)).toArray := by kernel_rfl
 rw [e] at hr
 exact hr
theorem kRep_set {w : World} {g i : Nat} {z : ByteArray} (h : KRep w g z i) (hi : i < 16) : KRep (w.setCell ⟨g, i * 2 + 1, none⟩ (.string z)) g z (i + 1) := by
 have h1 := box_set h (i * 2 + 1) (.string z)
 unfold KRep
 rw [h1]
 congr 2
 have hc : i = 0 ∨ i = 1 ∨ i = 2 ∨ i = 3 ∨ i = 4 ∨ i = 5 ∨ i = 6 ∨ i = 7 ∨ i = 8 ∨ i = 9 ∨ i = 10 ∨ i = 11 ∨ i = 12 ∨ i = 13 ∨ i = 14 ∨ i = 15 := by omega
 rcases hc with rfl | rfl | rfl | rfl | rfl | rfl | rfl | rfl | rfl | rfl | rfl | rfl | rfl | rfl | rfl | rfl <;> rfl
theorem kRep_cell {w : World} {g i : Nat} {z : ByteArray} (h : KRep w g z i) (hi : i < 16) : w.cell? ⟨g, i * 2 + 1, none⟩ = some (.string ⟨#[]⟩) := by
 unfold KRep at h
 rw [cell_of_row _ _ _ _ _ _ h, List.getElem?_toArray]
 have hc : i = 0 ∨ i = 1 ∨ i = 2 ∨ i = 3 ∨ i = 4 ∨ i = 5 ∨ i = 6 ∨ i = 7 ∨ i = 8 ∨ i = 9 ∨ i = 10 ∨ i = 11 ∨ i = 12 ∨ i = 13 ∨ i = 14 ∨ i = 15 := by omega
 rcases hc with rfl | rfl | rfl | rfl | rfl | rfl | rfl | rfl | rfl | rfl | rfl | rfl | rfl | rfl | rfl | rfl <;> rfl
theorem KRep.recs {w : World} {g : Nat} {z : ByteArray} (h : KRep w g z 16) : RecsAt w (some ⟨g, 0, none⟩) 16 16 (List.replicate 16 ⟨⟨#[]⟩, z⟩) := by
 unfold KRep at h
 rw [kReps_all] at h
 refine recsAt_row.2 ⟨by rw [List.length_replicate], Nat.le_refl _, (fun e => by cases e), .inr ⟨g, 0, rfl, lt_of_block h, fun i x hi j u hj => ?_⟩⟩
 rw [cell_of_row _ _ _ _ _ _ h, Nat.zero_add, List.getElem?_toArray]
 have hjs : j < recK.size := by have := (List.getElem?_eq_some_iff.1 hj).1; rwa [recK_ok.len] at this
 have h1 := recK_ok.all_at _ i x hi j hjs
 rw [hj] at h1
 exact h1
theorem kConv_zero {u : World} {gz : Nat} {L : List Nat} {sk : ByteArray} (h : Own u gz L) (hL : L = List.replicate 60 0) (hs : sk = str L) : (convert 30 9 (.slice (some ⟨gz, 0, none⟩) 60 60)).run Tryz.prog u = .ok (.string sk) u := by
 have hb := h.byt (fun x hx => by rw [hL] at hx; have := (List.mem_replicate.1 hx).2; omega) 60 (by rw [hL]; simp)
 rw [show L.length = 60 by rw [hL, List.length_replicate]] at hb
 exact run_str_at hb hs
theorem mdKnown_any {R : LogP} (C : MdCode R) (w : World) :
 Calls Tryz.prog 11 #[] w (GivesBool w true) := by
 have HC := qh C
 clear C
 go_enter Tryz.func11, Tryz.ntmps11
 go_wp2_with fail
 refine (HC.out.new w 0 0 0 200 (by decide) (by decide)).mono ?_
 rintro e w1 hp
 obtain ⟨a, rfl, hl, hb⟩ := LogAt.made (B := w.heap.size) (X := fun _ => False) HC.out hp ⟨RowW.nil, by decide, by decide, Nat.zero_le _⟩ (Nat.le_refl _) (fun k h => h.elim)
 have HB1 := qh hb
 have HL1 := qh hl
 clear hp hl hb
 go_upto_region 5 with fail
 obtain ⟨W2, hW2⟩ := exq (w1.alloc (.cells #[.string ⟨#[107]⟩, .string ⟨#[]⟩] 84))
 obtain ⟨g, hg⟩ := exq w1.heap.size
 have hbb := wbq hW2
 have HG2 : Hid (W2.heap[g]? = some (.cells #[.string ⟨#[107]⟩, .string ⟨#[]⟩] 84 (0, 0))) := by show _ = _; rw [hW2, hg]; exact heap_alloc_new w1 _
 obtain ⟨W3, hW3⟩ := exq (W2.alloc (.cells #[.int .i64 0, .int .i64 1, .int .i64 0, .int .i64 5, .bool false, .int .i64 0, .slice (some ⟨g, 0, none⟩) 1 1] 29))
 obtain ⟨P, hP⟩ := exq W2.heap.size
 have hbc := wbq hW3
 have HBX := bxq hW3 hP
 have HRC : Hid (RecsAt W3 (some ⟨g, 0, none⟩) 1 1 [kR]) := by
  have h1 : RecsAt W2 (some ⟨g, 0, none⟩) 1 1 [kR] := by
   rw [hW2, hg]
   exact recsAt_row.2 (rowAt_lit recK_ok w1 [kR] (by decide) _ rfl 1 rfl)
  exact h1.keep hbc
 have HBE : Hid (Below w.heap.size w W3) := (HB1.out.trans (hbb.mono HB1.out.size)).trans (hbc.mono (HB1.out.trans (hbb.mono HB1.out.size)).size)
 have HGP : Hid (g < W3.heap.size ∧ P < W3.heap.size ∧ w.heap.size ≤ g ∧ w.heap.size ≤ P ∧ g ≠ P) := by
  have h1 := lt_of_block HG2.out
  have h2 := HBX.out.lt
  have h3 := hbc.size
  have h4 := HB1.out.size
  have h5 := hbb.size
  show _ ∧ _
  refine ⟨by omega, by omega, by omega, by omega, by omega⟩
 have HL3 : Hid (LogAt R w.heap.size (fun k => k = g ∨ k = P) W3 a 200 0 []) := (((HL1.out.more HC.out (X' := fun k => k = g ∨ k = P) (fun k hk => .inr (by
  have h5 := hbb.size
  rcases hk with rfl | rfl
  · omega
  omega))).on HC.out hbb).on HC.out hbc)
 have hPg : P = g + 1 := by rw [hP, hW2, hg]; simp
 (try rw [← hW2])
 (try rw [← hg])
 (try rw [← hPg])
 (try rw [← hW3])
 clear hPg hW2 hg hbb HG2 hW3 hP hbc HB1 HL1
 obtain ⟨p0, p1, p2, p3, p4, p5, p6⟩ := HBX.out.cs
 go_wp2_with fail
 clear p0 p1 p2 p3 p4 p5 p6
 obtain ⟨F, hF, hFB, hFX⟩ := HL3.out.is
 refine (HC.out.produce F W3 a 200 0 [] ⟨0, 1, 0, 5, false, 0, [kR]⟩ (some ⟨g, 0, none⟩) 1 hF HL3.out.row HRC.out (by intro r hr; rw [List.mem_singleton.1 hr]; decide) (by decide) (by decide)).mono ?_
 rintro e W4 hp
 rw [show produceD 200 0 [] ⟨0, 1, 0, 5, false, 0, [kR]⟩ = ((0, 0), [kB1]) from k_prod1] at hp
 obtain ⟨rfl, hl, hk⟩ := LogAt.turn (B := w.heap.size) (X := (fun k => k = g ∨ k = P)) hp ⟨k_row1, by decide, by decide, by decide⟩ hFB hFX (by have := HGP.out; omega) (by have := HGP.out; intro k hk; rcases hk with rfl | rfl <;> omega)
 have HL4 := qh hl
 replace HBX : Hid (BoxAt W4 P 0 1 0 5 false 0 (.slice (some ⟨g, 0, none⟩) 1 1)) := hk.box HBX.out (fun h => h.2 (.inr rfl))
 replace HRC : Hid (RecsAt W4 (some ⟨g, 0, none⟩) 1 1 [kR]) := RecsAt.kept hk HRC.out (fun a ha h => h.2 (.inl (by cases ha; rfl)))
 replace HBE : Hid (Below w.heap.size w W4) := HBE.out.trans (hk.below (fun k h => h.1) HBE.out.size)
 replace HGP : Hid (g < W4.heap.size ∧ P < W4.heap.size ∧ w.heap.size ≤ g ∧ w.heap.size ≤ P ∧ g ≠ P) := by have h1 := HGP.out; have h2 := hk.size; show _ ∧ _; exact ⟨by omega, by omega, by omega, by omega, by omega⟩
 clear hF hFB hFX hp hl hk HL3
 obtain ⟨p0, p1, p2, p3, p4, p5, p6⟩ := HBX.out.cs
 go_wp2_with fail
 clear p0 p1 p2 p3 p4 p5 p6
 obtain ⟨F, hF, hFB, hFX⟩ := HL4.out.is
 refine (HC.out.produce F W4 a 200 0 [kB1] ⟨0, 1, 0, 5, false, 0, [kR]⟩ (some ⟨g, 0, none⟩) 1 hF HL4.out.row HRC.out (by intro r hr; rw [List.mem_singleton.1 hr]; decide) (by decide) (by decide)).mono ?_
 rintro e W5 hp
 rw [show produceD 200 0 [kB1] ⟨0, 1, 0, 5, false, 0, [kR]⟩ = ((0, 0), [kB1]) from k_prod2] at hp
 obtain ⟨rfl, hl, hk⟩ := LogAt.turn (B := w.heap.size) (X := (fun k => k = g ∨ k = P)) hp ⟨k_row1, by decide, by decide, by decide⟩ hFB hFX (by have := HGP.out; omega) (by have := HGP.out; intro k hk; rcases hk with rfl | rfl <;> omega)
 have HL5 := qh hl
 replace HBX : Hid (BoxAt W5 P 0 1 0 5 false 0 (.slice (some ⟨g, 0, none⟩) 1 1)) := hk.box HBX.out (fun h => h.2 (.inr rfl))
 replace HRC : Hid (RecsAt W5 (some ⟨g, 0, none⟩) 1 1 [kR]) := RecsAt.kept hk HRC.out (fun a ha h => h.2 (.inl (by cases ha; rfl)))
 replace HBE : Hid (Below w.heap.size w W5) := HBE.out.trans (hk.below (fun k h => h.1) HBE.out.size)
 replace HGP : Hid (g < W5.heap.size ∧ P < W5.heap.size ∧ w.heap.size ≤ g ∧ w.heap.size ≤ P ∧ g ≠ P) := by have h1 := HGP.out; have h2 := hk.size; show _ ∧ _; exact ⟨by omega, by omega, by omega, by omega, by omega⟩
 clear hF hFB hFX hp hl hk HL4
 go_wp2_with fail
 obtain ⟨F, hF, hFB, hFX⟩ := HL5.out.is
 refine (HC.out.mark F W5 a 200 0 [kB1] 1 0 1 hF HL5.out.row (by decide)).mono ?_
 rintro e W6 hp
 rw [k_mark] at hp
 obtain ⟨rfl, hl, hk⟩ := LogAt.turn (B := w.heap.size) (X := (fun k => k = g ∨ k = P)) hp ⟨k_row1, by decide, by decide, by decide⟩ hFB hFX (by have := HGP.out; omega) (by have := HGP.out; intro k hk; rcases hk with rfl | rfl <;> omega)
 have HL6 := qh hl
 replace HBX : Hid (BoxAt W6 P 0 1 0 5 false 0 (.slice (some ⟨g, 0, none⟩) 1 1)) := hk.box HBX.out (fun h => h.2 (.inr rfl))
 replace HRC : Hid (RecsAt W6 (some ⟨g, 0, none⟩) 1 1 [kR]) := RecsAt.kept hk HRC.out (fun a ha h => h.2 (.inl (by cases ha; rfl)))
 replace HBE : Hid (Below w.heap.size w W6) := HBE.out.trans (hk.below (fun k h => h.1) HBE.out.size)
 replace HGP : Hid (g < W6.heap.size ∧ P < W6.heap.size ∧ w.heap.size ≤ g ∧ w.heap.size ≤ P ∧ g ≠ P) := by have h1 := HGP.out; have h2 := hk.size; show _ ∧ _; exact ⟨by omega, by omega, by omega, by omega, by omega⟩
 clear hF hFB hFX hp hl hk HL5
 go_wp2_with fail
 obtain ⟨F, hF, hFB, hFX⟩ := HL6.out.is
 refine (HC.out.raw F W6 a 200 0 [kB1] none 0 0 [] hF HL6.out.row (Byt.nil _) (by decide)).mono ?_
 rintro e W7 hp
 rw [k_raw] at hp
 obtain ⟨rfl, hl, hk⟩ := LogAt.turn (B := w.heap.size) (X := (fun k => k = g ∨ k = P)) hp ⟨k_row1, by decide, by decide, by decide⟩ hFB hFX (by have := HGP.out; omega) (by have := HGP.out; intro k hk; rcases hk with rfl | rfl <;> omega)
 have HL7 := qh hl
 replace HBX : Hid (BoxAt W7 P 0 1 0 5 false 0 (.slice (some ⟨g, 0, none⟩) 1 1)) := hk.box HBX.out (fun h => h.2 (.inr rfl))
 replace HRC : Hid (RecsAt W7 (some ⟨g, 0, none⟩) 1 1 [kR]) := RecsAt.kept hk HRC.out (fun a ha h => h.2 (.inl (by cases ha; rfl)))
 replace HBE : Hid (Below w.heap.size w W7) := HBE.out.trans (hk.below (fun k h => h.1) HBE.out.size)
 replace HGP : Hid (g < W7.heap.size ∧ P < W7.heap.size ∧ w.heap.size ≤ g ∧ w.heap.size ≤ P ∧ g ≠ P) := by have h1 := HGP.out; have h2 := hk.size; show _ ∧ _; exact ⟨by omega, by omega, by omega, by omega, by omega⟩
 clear hF hFB hFX hp hl hk HL6
 go_upto_region 9 with fail
 have hdr : Below W7.heap.size W7 W7.drew := (Below.refl _ W7).drew
 refine wp_region_noPanic ?_
 refine wp_region_z [] (fun (V : World) => True) (by kernel_rfl) ?_
 have hHeld : (fun (V : World) => True) W7.drew := trivial
 obtain ⟨u0, hu0⟩ := exq W7.drew
 rw [← hu0] at hHeld hdr
 rw [← hu0]
 clear hu0
 replace HBX := qh (HBX.out.on hdr)
 replace HBE := qh (HBE.out.trans (hdr.mono HBE.out.size))
 have HL7a := qh (HL7.out.on HC.out hdr)
 have HUS : Hid (W7.heap.size ≤ u0.heap.size) := hdr.size
 clear hdr HL7 HRC
 obtain ⟨g2, hg2⟩ := exq u0.heap.size
 have HGW : Hid (w.heap.size ≤ g2) := by show _ ≤ _; have h1 := HBE.out.size; omega
 have HGN : Hid (g2 ≠ P) := by show _ ≠ _; have h1 := HBX.out.lt; omega
 have HPW : Hid (w.heap.size ≤ P) := HGP.out.2.2.2.1
 have HLM := qh (HL7a.out.more HC.out (X' := (fun k => k = P ∨ k = g2)) (fun k hk => hk.elim (fun e => .inl (.inr e)) (fun e => .inr (by omega))))
 have HG2 := qh hg2
 clear hg2 HL7a HGP
 have f3 := HBX.out.free 3
 have f6 := HBX.out.free 6
 have q3 := HBX.out.c3
 have q6 := HBX.out.c6
 have hmk0 := k_make
 refine zt 1 ?_
 refine wpAnyZ_ready (rs := [0, 2]) (by kernel_rfl) (by simp) ?_
 refine AllReadyZ.cons (o := ⟨_, _, _, _, _, _⟩) rfl (fun C hC => ?_) (AllReadyZ.cons (o := ⟨_, _, _, _, _, _⟩) rfl (fun C hC => ?_) AllReadyZ.nil)
 · go_simp
   obtain ⟨v0, hv0⟩ := exq (u0.alloc (.cells (recK.all (kReps ⟨#[]⟩ 0)).toArray 84))
   have hbA := wbq hv0
   have HKA : Hid (KRep v0 g2 ⟨#[]⟩ 0) := by rw [hv0, HG2.out]; exact heap_alloc_new u0 _
   have HXA := qh (HBX.out.on hbA)
   have HLA := qh (HLM.out.on HC.out hbA)
   have HBA := qh (HBE.out.trans (hbA.mono HBE.out.size))
   rw [← hv0, ← HG2.out]
   clear hv0 hbA f3 f6 q3 q6
   refine hC.out _ _ (fun _ => trivial) (fun _ => ?_)
   clear hC C
   (try simp only [Act.put, List.setIfInBounds_toArray, List.set_cons_zero, List.set_cons_succ])
   have f3 := HXA.out.free 3
   have q3 := HXA.out.c3
   refine zr 2 (fun C hC => ?_)
   go_simp
   obtain ⟨v1, hv1⟩ := exq (v0.setCell ⟨P, 3, none⟩ (.int .i64 6))
   have HXB : Hid (BoxAt v1 P 0 1 0 6 false 0 (.slice (some ⟨g, 0, none⟩) 1 1)) := by rw [hv1]; exact HXA.out.s3 6
   have hg1 : v0.grownBy v1 (some P) := by rw [hv1]; exact grow_one v0 P _ _
   have HKB : Hid (KRep v1 g2 ⟨#[]⟩ 0) := (hg1.block g2 (lt_of_block HKA.out) (fun e => HGN.out (Option.some.inj e))).trans HKA.out
   have HLB := qh (HLA.out.other HC.out (Kept.of_grown (F := fun k => k = P) hg1 (.inl rfl)) (fun k hk => .inl (.inl hk)))
   have HBB : Hid (Below w.heap.size w v1) := by rw [hv1]; exact HBA.out.setCell HPW.out _
   rw [← hv1]
   clear hv1 hg1 f3 q3
   refine hC.out _ _ (fun _ => trivial) (fun _ => ?_)
   clear hC C
   (try simp only [Act.put, List.setIfInBounds_toArray, List.set_cons_zero, List.set_cons_succ])
   refine zt 3 ?_
   have f6 := HXB.out.free 6
   have q6 := HXB.out.c6
   refine zr 4 (fun C hC => ?_)
   go_simp
   refine hC.out _ _ (fun _ => trivial) (fun _ => ?_)
   clear hC C
   (try simp only [Act.put, List.setIfInBounds_toArray, List.set_cons_zero, List.set_cons_succ])
   obtain ⟨U, hU⟩ := exq (v1.setCell ⟨P, 6, none⟩ (.slice (some ⟨g2, 0, none⟩) 16 16))
   have HBXn : Hid (BoxAt U P 0 1 0 6 false 0 (.slice (some ⟨g2, 0, none⟩) 16 16)) := by rw [hU]; exact HXB.out.s6 _
   have hg2 : v1.grownBy U (some P) := by rw [hU]; exact grow_one v1 P _ _
   have HKR0 : Hid (KRep U g2 ⟨#[]⟩ 0) := (hg2.block g2 (lt_of_block HKB.out) (fun e => HGN.out (Option.some.inj e))).trans HKB.out
   have HLU := qh (HLB.out.other HC.out (Kept.of_grown (F := fun k => k = P) hg2 (.inl rfl)) (fun k hk => .inl (.inl hk)))
   have HBn : Hid (Below w.heap.size w U) := by rw [hU]; exact HBB.out.setCell HPW.out _
   have HUU : Hid (True) := trivial
   rw [← hU]
   clear hU hg2 f6 q6 hmk0
   replace HBX := HBXn
   replace HBE := HBn
   clear HBXn HBn HLM HG2 HXB HKB HLB HBB HXA HLA HBA
   refine zd ?_
   obtain ⟨LZ, hLZ⟩ : ∃ l : List Nat, l = List.replicate 60 0 := ⟨_, rfl⟩
   obtain ⟨z, hz⟩ := exq (str LZ)
   have HZZ := qh hz
   have HZS : Hid (z.size = 60) := by show _ = _; rw [hz, hLZ]; rfl
   have HLZ := qh hLZ
   clear hz hLZ
   (try clear hHeld)
   have HKR : Hid (KRep U g2 z 0) := HKR0.out
   have x6 := HBX.out.c6
   go_wp2
   clear x6
   have hmk : ∀ V, (Instr.makeSlice 30 (.int .i64 60) (.int .i64 60)).run Tryz.prog V = .ok (.slice (some ⟨V.heap.size, 0, none⟩) 60 60) (V.alloc (.cells (vals LZ).toArray 5)) := fun V => by rw [HLZ.out]; exact run_make_part V 60 60 (Nat.le_refl _) (by omega)
   go_loopw [11, 49] (fun v11 v49 wr => ∃ (i : Nat) (q : Value), q = v11 ∧ v49 = .int .i64 (i : Int) ∧ i ≤ 16 ∧ Hid (BoxAt wr P 0 1 0 6 false 0 (.slice (some ⟨g2, 0, none⟩) 16 16)) ∧ Hid (KRep wr g2 z i) ∧ Hid (LogAt R w.heap.size (fun k => k = P ∨ k = g2) wr a 200 0 [kB1]) ∧ Hid (Below w.heap.size w wr)) (fun _ v49 _ => 16 - (intOf v49).toNat)
   case atStart => exact ⟨0, _, rfl, rfl, Nat.zero_le _, HBX.out, HKR.out, HLU.out, HBE.out⟩
   obtain ⟨i, q, rfl, rfl, hi, HBXr, HKRr, HLr, HBr⟩ := hrel
   clear HBX HKR HKR0 HLU HBE HUU
   obtain ⟨wo, hwo⟩ := exq wr
   subst hwo
   have hGU : g2 < wo.heap.size := lt_of_block HKRr.out
   by_cases hlt : i < 16
   · have hd : decide (i < 16) = true := decide_eq_true hlt
     have hil : (i : Int) < 16 := by omega
     go_upto_region 13 with fail
     have hdr : Below wo.heap.size wo wo.drew := (Below.refl _ wo).drew
     refine wp_region_noPanic ?_
     refine wp_region_z [7] (fun (V : World) => V.cell? ⟨P, 6, none⟩ = some (.slice (some ⟨g2, 0, none⟩) 16 16)) (by kernel_rfl) ?_
     have hHeld : (fun (V : World) => V.cell? ⟨P, 6, none⟩ = some (.slice (some ⟨g2, 0, none⟩) 16 16)) _ := (HBXr.out.on hdr).c6
     obtain ⟨u1, hu1⟩ := exq wo.drew
     rw [← hu1] at hHeld hdr
     rw [← hu1]
     clear hu1
     have HU := qh hdr
     clear hdr
     refine zt 0 ?_
     refine zt 1 ?_
     refine zt 2 ?_
     refine zr 3 (fun C hC => ?_)
     go_simp
     obtain ⟨u2, hu2⟩ := exq (u1.alloc (.cells (vals LZ).toArray 5))
     obtain ⟨gz, hgz⟩ := exq u1.heap.size
     have hA2 := wbq hu2
     have HZO : Hid (Own u2 gz LZ) := by rw [hu2, hgz]; exact own_new _ _
     have HU2 : Hid (Below wo.heap.size wo u2) := HU.out.trans (hA2.mono HU.out.size)
     (try rw [← hu2])
     (try rw [← hgz])
     clear hu2 hgz hA2
     have hHeld : (fun (V : World) => V.cell? ⟨P, 6, none⟩ = some (.slice (some ⟨g2, 0, none⟩) 16 16)) u2 := (HBXr.out.on HU2.out).c6
     refine zc hC hHeld ?_
     clear hC C
     have hcv := kConv_zero HZO.out HLZ.out HZZ.out
     refine zr 4 (fun C hC => ?_)
     go_simp
     refine zc hC hHeld ?_
     clear hC C hcv
     refine zt 5 ?_
     refine zt 6 ?_
     have HK2 : Hid (KRep u2 g2 z i) := by show KRep _ _ _ _; unfold KRep; rw [HU2.out.block g2 hGU]; exact HKRr.out
     have hfz : u2.frozen? ⟨g2, i * 2 + 1, none⟩ = false := frozen_of_row u2 g2 _ _ _ HK2.out
     have hoc : u2.cell? ⟨g2, i * 2 + 1, none⟩ = some (.string ⟨#[]⟩) := kRep_cell HK2.out hlt
     refine zr 7 (fun C hC => ?_)
     go_simp
     refine zl hC ?_
     clear hC C
     refine zd ?_
     clear hHeld hfz hoc
     obtain ⟨u3, hu3⟩ := exq (u2.setCell ⟨g2, i * 2 + 1, none⟩ (.string z))
     have hg3 : u2.grownBy u3 (some g2) := by rw [hu3]; exact grow_one u2 g2 _ _
     have HK3 : Hid (KRep u3 g2 z (i + 1)) := by rw [hu3]; exact kRep_set HK2.out hlt
     have HX3 : Hid (BoxAt u3 P 0 1 0 6 false 0 (.slice (some ⟨g2, 0, none⟩) 16 16)) := by rw [hu3]; exact (HBXr.out.on HU2.out).off (fun e => HGN.out e) _
     have HL3b : Hid (LogAt R w.heap.size (fun k => k = P ∨ k = g2) u3 a 200 0 [kB1]) := (HLr.out.on HC.out HU2.out).other HC.out (Kept.of_grown (F := fun k => k = g2) hg3 (.inl rfl)) (fun k hk => .inl (.inr hk))
     have HB3b : Hid (Below w.heap.size w u3) := by
      show Below _ _ _
      have h1 := HBr.out.trans (HU2.out.mono HBr.out.size)
      rw [hu3]
      exact h1.setCell HGW.out _
     rw [← hu3]
     clear hu3 hg3 HK2
     go_wp2
     go_roundw
     case rel => exact ⟨i + 1, _, rfl, rfl, hlt, HX3.out, HK3.out, HL3b.out, HB3b.out⟩
     simp [intOf]; omega
   have hd : decide (i < 16) = false := decide_eq_false hlt
   have hi16 : i = 16 := by omega
   subst hi16
   have HRC : Hid (RecsAt wo (some ⟨g2, 0, none⟩) 16 16 (List.replicate 16 ⟨⟨#[]⟩, z⟩)) := HKRr.out.recs
   clear hlt hi hmk hGU
   obtain ⟨p0, p1, p2, p3, p4, p5, p6⟩ := HBXr.out.cs
   go_wp2_with fail
   clear p0 p1 p2 p3 p4 p5 p6 hd
   obtain ⟨F, hF, hFB, hFX⟩ := HLr.out.is
   refine (HC.out.produce F wo a 200 0 [kB1] ⟨0, 1, 0, 6, false, 0, List.replicate 16 ⟨⟨#[]⟩, z⟩⟩ (some ⟨g2, 0, none⟩) 16 hF HLr.out.row HRC.out (by intro r hr; rw [List.eq_of_mem_replicate hr]; exact ⟨Nat.zero_le _, by show z.size ≤ _; rw [HZS.out]; decide⟩) (by show (List.replicate 16 _).length ≤ _; rw [List.length_replicate]; decide) (by show (1 : Int) ≤ _; decide)).mono ?_
   rintro e v1 hp
   rw [show produceD 200 0 [kB1] ⟨0, 1, 0, 6, false, 0, List.replicate 16 ⟨⟨#[]⟩, z⟩⟩ = ((-1, 17), [kB1]) from k_big HZS.out] at hp
   obtain ⟨rfl, hl, hk⟩ := LogAt.turn (B := w.heap.size) (X := fun _ => False) hp ⟨k_row1, by decide, by decide, by decide⟩ hFB (fun k _ h => h) HBr.out.size (fun k h => h.elim)
   have HLa := qh hl
   have HBa : Hid (Below w.heap.size w v1) := HBr.out.trans (hk.below (fun k h => h.1) HBr.out.size)
   clear hF hFB hFX hp hl hk HLr HBr HRC HBXr HKRr
   go_wp2_with fail
   obtain ⟨F, hF, hFB, hFX⟩ := HLa.out.is
   refine (HC.out.end_ F v1 a 200 0 [kB1] hF HLa.out.row).mono ?_
   rintro e v2 ⟨rfl, hb⟩
   rw [k_end]
   have HLb := qh (HLa.out.on HC.out hb)
   have HBb := qh (HBa.out.trans (hb.mono HBa.out.size))
   clear hF hFB hFX hb HLa HBa
   go_wp2_with fail
   obtain ⟨F, hF, hFB, hFX⟩ := HLb.out.is
   refine (HC.out.batches F v2 a 200 0 [kB1] hF HLb.out.row).mono ?_
   rintro e v3 ⟨ba, bn, bc, bm, rfl, hbt, hms, -, -, hb⟩
   obtain rfl : bn = 1 := by
    have h1 := hbt.row.length
    have h2 := congrArg List.length hms
    unfold bats at h2
    rw [List.length_map, h1] at h2
    exact h2
   have HLc := qh (HLb.out.on HC.out hb)
   have HBc := qh (HBb.out.trans (hb.mono HBb.out.size))
   clear hF hFB hFX hb hbt hms HLb HBb
   go_wp2_with fail
   obtain ⟨F, hF, hFB, hFX⟩ := HLc.out.is
   refine (HC.out.keep F v3 a 200 0 [kB1] (-1) hF HLc.out.row).mono ?_
   rintro e v4 hp
   rw [k_keep0] at hp
   obtain ⟨rfl, hl, hk⟩ := LogAt.turn (B := w.heap.size) (X := fun _ => False) hp ⟨k_row1, by decide, by decide, by decide⟩ hFB (fun k _ h => h) HBc.out.size (fun k h => h.elim)
   have HLd := qh hl
   have HBd : Hid (Below w.heap.size w v4) := HBc.out.trans (hk.below (fun k h => h.1) HBc.out.size)
   clear hF hFB hFX hp hl hk HLc HBc
   go_wp2_with fail
   obtain ⟨F, hF, hFB, hFX⟩ := HLd.out.is
   refine (HC.out.keep F v4 a 200 0 [kB1] 9 hF HLd.out.row).mono ?_
   rintro e v5 hp
   rw [k_keep9] at hp
   obtain ⟨rfl, hl, hk⟩ := LogAt.turn (B := w.heap.size) (X := fun _ => False) hp ⟨RowW.nil, by decide, by decide, Nat.zero_le _⟩ hFB (fun k _ h => h) HBd.out.size (fun k h => h.elim)
   have HLe := qh hl
   have HBe : Hid (Below w.heap.size w v5) := HBd.out.trans (hk.below (fun k h => h.1) HBd.out.size)
   clear hF hFB hFX hp hl hk HLd HBd
   go_wp2_with fail
   obtain ⟨F, hF, hFB, hFX⟩ := HLe.out.is
   refine (HC.out.start F v5 a 200 1 [] hF HLe.out.row).mono ?_
   rintro e v6 ⟨rfl, hb⟩
   have HLf := qh (HLe.out.on HC.out hb)
   have HBf := qh (HBe.out.trans (hb.mono HBe.out.size))
   clear hF hFB hFX hb HLe HBe
   go_wp2_with fail
   obtain ⟨F, hF, hFB, hFX⟩ := HLf.out.is
   refine (HC.out.producers F v6 a 200 1 [] hF HLf.out.row).mono ?_
   rintro e v7 ⟨pa, pn, pc, pm, rfl, hpt, hps, -, -, hb⟩
   obtain rfl : pn = 0 := by
    have h1 := hpt.row.length
    have h2 := congrArg List.length hps
    unfold pds at h2
    rw [List.length_map, h1] at h2
    exact h2
   have HBg := qh (HBf.out.trans (hb.mono HBf.out.size))
   clear hF hFB hFX hb hpt hps HLf HBf
   go_wp2
   go_ret
   exact ⟨rfl, HBg.out⟩
 go_simp
 obtain ⟨v0, hv0⟩ := exq (u0.setCell ⟨P, 3, none⟩ (.int .i64 6))
 have HXA : Hid (BoxAt v0 P 0 1 0 6 false 0 (.slice (some ⟨g, 0, none⟩) 1 1)) := by rw [hv0]; exact HBX.out.s3 6
 have hg1 : u0.grownBy v0 (some P) := by rw [hv0]; exact grow_one u0 P _ _
 have HLA := qh (HLM.out.other HC.out (Kept.of_grown (F := fun k => k = P) hg1 (.inl rfl)) (fun k hk => .inl (.inl hk)))
 have HBA : Hid (Below w.heap.size w v0) := by rw [hv0]; exact HBE.out.setCell HPW.out _
 have HSZ : Hid (v0.heap.size = g2) := by show _ = _; rw [hv0, HG2.out, size_set]
 rw [← hv0]
 clear hv0 hg1 f3 f6 q3 q6
 refine hC.out _ _ (fun _ => trivial) (fun _ => ?_)
 clear hC C
 (try simp only [Act.put, List.setIfInBounds_toArray, List.set_cons_zero, List.set_cons_succ])
 refine zr 0 (fun C hC => ?_)
 go_simp
 obtain ⟨v1, hv1⟩ := exq (v0.alloc (.cells (recK.all (kReps ⟨#[]⟩ 0)).toArray 84))
 have hbA := wbq hv1
 have HKB : Hid (KRep v1 g2 ⟨#[]⟩ 0) := by rw [hv1, ← HSZ.out]; exact heap_alloc_new v0 _
 have HXB := qh (HXA.out.on hbA)
 have HLB := qh (HLA.out.on HC.out hbA)
 have HBB := qh (HBA.out.trans (hbA.mono HBA.out.size))
 rw [← hv1, HSZ.out]
 clear hv1 hbA
 refine hC.out _ _ (fun _ => trivial) (fun _ => ?_)
 clear hC C
 (try simp only [Act.put, List.setIfInBounds_toArray, List.set_cons_zero, List.set_cons_succ])
 refine zt 3 ?_
 have f6 := HXB.out.free 6
 have q6 := HXB.out.c6
 refine zr 4 (fun C hC => ?_)
 go_simp
 refine hC.out _ _ (fun _ => trivial) (fun _ => ?_)
 clear hC C
 (try simp only [Act.put, List.setIfInBounds_toArray, List.set_cons_zero, List.set_cons_succ])
 obtain ⟨U, hU⟩ := exq (v1.setCell ⟨P, 6, none⟩ (.slice (some ⟨g2, 0, none⟩) 16 16))
 have HBXn : Hid (BoxAt U P 0 1 0 6 false 0 (.slice (some ⟨g2, 0, none⟩) 16 16)) := by rw [hU]; exact HXB.out.s6 _
 have hg2 : v1.grownBy U (some P) := by rw [hU]; exact grow_one v1 P _ _
 have HKR0 : Hid (KRep U g2 ⟨#[]⟩ 0) := (hg2.block g2 (lt_of_block HKB.out) (fun e => HGN.out (Option.some.inj e))).trans HKB.out
 have HLU := qh (HLB.out.other HC.out (Kept.of_grown (F := fun k => k = P) hg2 (.inl rfl)) (fun k hk => .inl (.inl hk)))
 have HBn : Hid (Below w.heap.size w U) := by rw [hU]; exact HBB.out.setCell HPW.out _
 have HUU : Hid (True) := trivial
 rw [← hU]
 clear hU hg2 f6 q6 hmk0
 replace HBX := HBXn
 replace HBE := HBn
 clear HBXn HBn HLM HG2 HXB HKB HLB HBB HXA HLA HBA
 refine zd ?_
 obtain ⟨LZ, hLZ⟩ : ∃ l : List Nat, l = List.replicate 60 0 := ⟨_, rfl⟩
 obtain ⟨z, hz⟩ := exq (str LZ)
 have HZZ := qh hz
 have HZS : Hid (z.size = 60) := by show _ = _; rw [hz, hLZ]; rfl
 have HLZ := qh hLZ
 clear hz hLZ
 (try clear hHeld)
 have HKR : Hid (KRep U g2 z 0) := HKR0.out
 have x6 := HBX.out.c6
 go_wp2
 clear x6
 have hmk : ∀ V, (Instr.makeSlice 30 (.int .i64 60) (.int .i64 60)).run Tryz.prog V = .ok (.slice (some ⟨V.heap.size, 0, none⟩) 60 60) (V.alloc (.cells (vals LZ).toArray 5)) := fun V => by rw [HLZ.out]; exact run_make_part V 60 60 (Nat.le_refl _) (by omega)
 go_loopw [11, 49] (fun v11 v49 wr => ∃ (i : Nat) (q : Value), q = v11 ∧ v49 = .int .i64 (i : Int) ∧ i ≤ 16 ∧ Hid (BoxAt wr P 0 1 0 6 false 0 (.slice (some ⟨g2, 0, none⟩) 16 16)) ∧ Hid (KRep wr g2 z i) ∧ Hid (LogAt R w.heap.size (fun k => k = P ∨ k = g2) wr a 200 0 [kB1]) ∧ Hid (Below w.heap.size w wr)) (fun _ v49 _ => 16 - (intOf v49).toNat)
 case atStart => exact ⟨0, _, rfl, rfl, Nat.zero_le _, HBX.out, HKR.out, HLU.out, HBE.out⟩
 obtain ⟨i, q, rfl, rfl, hi, HBXr, HKRr, HLr, HBr⟩ := hrel
 clear HBX HKR HKR0 HLU HBE HUU
 obtain ⟨wo, hwo⟩ := exq wr
 subst hwo
 have hGU : g2 < wo.heap.size := lt_of_block HKRr.out
 by_cases hlt : i < 16
 · have hd : decide (i < 16) = true := decide_eq_true hlt
   have hil : (i : Int) < 16 := by omega
   go_upto_region 13 with fail
   have hdr : Below wo.heap.size wo wo.drew := (Below.refl _ wo).drew
   refine wp_region_noPanic ?_
   refine wp_region_z [7] (fun (V : World) => V.cell? ⟨P, 6, none⟩ = some (.slice (some ⟨g2, 0, none⟩) 16 16)) (by kernel_rfl) ?_
   have hHeld : (fun (V : World) => V.cell? ⟨P, 6, none⟩ = some (.slice (some ⟨g2, 0, none⟩) 16 16)) _ := (HBXr.out.on hdr).c6
   obtain ⟨u1, hu1⟩ := exq wo.drew
   rw [← hu1] at hHeld hdr
   rw [← hu1]
   clear hu1
   have HU := qh hdr
   clear hdr
   refine zt 0 ?_
   refine zt 1 ?_
   refine zt 2 ?_
   refine zr 3 (fun C hC => ?_)
   go_simp
   obtain ⟨u2, hu2⟩ := exq (u1.alloc (.cells (vals LZ).toArray 5))
   obtain ⟨gz, hgz⟩ := exq u1.heap.size
   have hA2 := wbq hu2
   have HZO : Hid (Own u2 gz LZ) := by rw [hu2, hgz]; exact own_new _ _
   have HU2 : Hid (Below wo.heap.size wo u2) := HU.out.trans (hA2.mono HU.out.size)
   (try rw [← hu2])
   (try rw [← hgz])
   clear hu2 hgz hA2
   have hHeld : (fun (V : World) => V.cell? ⟨P, 6, none⟩ = some (.slice (some ⟨g2, 0, none⟩) 16 16)) u2 := (HBXr.out.on HU2.out).c6
   refine zc hC hHeld ?_
   clear hC C
   have hcv := kConv_zero HZO.out HLZ.out HZZ.out
   refine zr 4 (fun C hC => ?_)
   go_simp
   refine zc hC hHeld ?_
   clear hC C hcv
   refine zt 5 ?_
   refine zt 6 ?_
   have HK2 : Hid (KRep u2 g2 z i) := by show KRep _ _ _ _; unfold KRep; rw [HU2.out.block g2 hGU]; exact HKRr.out
   have hfz : u2.frozen? ⟨g2, i * 2 + 1, none⟩ = false := frozen_of_row u2 g2 _ _ _ HK2.out
   have hoc : u2.cell? ⟨g2, i * 2 + 1, none⟩ = some (.string ⟨#[]⟩) := kRep_cell HK2.out hlt
   refine zr 7 (fun C hC => ?_)
   go_simp
   refine zl hC ?_
   clear hC C
   refine zd ?_
   clear hHeld hfz hoc
   obtain ⟨u3, hu3⟩ := exq (u2.setCell ⟨g2, i * 2 + 1, none⟩ (.string z))
   have hg3 : u2.grownBy u3 (some g2) := by rw [hu3]; exact grow_one u2 g2 _ _
   have HK3 : Hid (KRep u3 g2 z (i + 1)) := by rw [hu3]; exact kRep_set HK2.out hlt
   have HX3 : Hid (BoxAt u3 P 0 1 0 6 false 0 (.slice (some ⟨g2, 0, none⟩) 16 16)) := by rw [hu3]; exact (HBXr.out.on HU2.out).off (fun e => HGN.out e) _
   have HL3b : Hid (LogAt R w.heap.size (fun k => k = P ∨ k = g2) u3 a 200 0 [kB1]) := (HLr.out.on HC.out HU2.out).other HC.out (Kept.of_grown (F := fun k => k = g2) hg3 (.inl rfl)) (fun k hk => .inl (.inr hk))
   have HB3b : Hid (Below w.heap.size w u3) := by
    show Below _ _ _
    have h1 := HBr.out.trans (HU2.out.mono HBr.out.size)
    rw [hu3]
    exact h1.setCell HGW.out _
   rw [← hu3]
   clear hu3 hg3 HK2
   go_wp2
   go_roundw
   case rel => exact ⟨i + 1, _, rfl, rfl, hlt, HX3.out, HK3.out, HL3b.out, HB3b.out⟩
   simp [intOf]; omega
 have hd : decide (i < 16) = false := decide_eq_false hlt
 have hi16 : i = 16 := by omega
 subst hi16
 have HRC : Hid (RecsAt wo (some ⟨g2, 0, none⟩) 16 16 (List.replicate 16 ⟨⟨#[]⟩, z⟩)) := HKRr.out.recs
 clear hlt hi hmk hGU
 obtain ⟨p0, p1, p2, p3, p4, p5, p6⟩ := HBXr.out.cs
 go_wp2_with fail
 clear p0 p1 p2 p3 p4 p5 p6 hd
 obtain ⟨F, hF, hFB, hFX⟩ := HLr.out.is
 refine (HC.out.produce F wo a 200 0 [kB1] ⟨0, 1, 0, 6, false, 0, List.replicate 16 ⟨⟨#[]⟩, z⟩⟩ (some ⟨g2, 0, none⟩) 16 hF HLr.out.row HRC.out (by intro r hr; rw [List.eq_of_mem_replicate hr]; exact ⟨Nat.zero_le _, by show z.size ≤ _; rw [HZS.out]; decide⟩) (by show (List.replicate 16 _).length ≤ _; rw [List.length_replicate]; decide) (by show (1 : Int) ≤ _; decide)).mono ?_
 rintro e v1 hp
 rw [show produceD 200 0 [kB1] ⟨0, 1, 0, 6, false, 0, List.replicate 16 ⟨⟨#[]⟩, z⟩⟩ = ((-1, 17), [kB1]) from k_big HZS.out] at hp
 obtain ⟨rfl, hl, hk⟩ := LogAt.turn (B := w.heap.size) (X := fun _ => False) hp ⟨k_row1, by decide, by decide, by decide⟩ hFB (fun k _ h => h) HBr.out.size (fun k h => h.elim)
 have HLa := qh hl
 have HBa : Hid (Below w.heap.size w v1) := HBr.out.trans (hk.below (fun k h => h.1) HBr.out.size)
 clear hF hFB hFX hp hl hk HLr HBr HRC HBXr HKRr
 go_wp2_with fail
 obtain ⟨F, hF, hFB, hFX⟩ := HLa.out.is
 refine (HC.out.end_ F v1 a 200 0 [kB1] hF HLa.out.row).mono ?_
 rintro e v2 ⟨rfl, hb⟩
 rw [k_end]
 have HLb := qh (HLa.out.on HC.out hb)
 have HBb := qh (HBa.out.trans (hb.mono HBa.out.size))
 clear hF hFB hFX hb HLa HBa
 go_wp2_with fail
 obtain ⟨F, hF, hFB, hFX⟩ := HLb.out.is
 refine (HC.out.batches F v2 a 200 0 [kB1] hF HLb.out.row).mono ?_
 rintro e v3 ⟨ba, bn, bc, bm, rfl, hbt, hms, -, -, hb⟩
 obtain rfl : bn = 1 := by
  have h1 := hbt.row.length
  have h2 := congrArg List.length hms
  unfold bats at h2
  rw [List.length_map, h1] at h2
  exact h2
 have HLc := qh (HLb.out.on HC.out hb)
 have HBc := qh (HBb.out.trans (hb.mono HBb.out.size))
 clear hF hFB hFX hb hbt hms HLb HBb
 go_wp2_with fail
 obtain ⟨F, hF, hFB, hFX⟩ := HLc.out.is
 refine (HC.out.keep F v3 a 200 0 [kB1] (-1) hF HLc.out.row).mono ?_
 rintro e v4 hp
 rw [k_keep0] at hp
 obtain ⟨rfl, hl, hk⟩ := LogAt.turn (B := w.heap.size) (X := fun _ => False) hp ⟨k_row1, by decide, by decide, by decide⟩ hFB (fun k _ h => h) HBc.out.size (fun k h => h.elim)
 have HLd := qh hl
 have HBd : Hid (Below w.heap.size w v4) := HBc.out.trans (hk.below (fun k h => h.1) HBc.out.size)
 clear hF hFB hFX hp hl hk HLc HBc
 go_wp2_with fail
 obtain ⟨F, hF, hFB, hFX⟩ := HLd.out.is
 refine (HC.out.keep F v4 a 200 0 [kB1] 9 hF HLd.out.row).mono ?_
 rintro e v5 hp
 rw [k_keep9] at hp
 obtain ⟨rfl, hl, hk⟩ := LogAt.turn (B := w.heap.size) (X := fun _ => False) hp ⟨RowW.nil, by decide, by decide, Nat.zero_le _⟩ hFB (fun k _ h => h) HBd.out.size (fun k h => h.elim)
 have HLe := qh hl
 have HBe : Hid (Below w.heap.size w v5) := HBd.out.trans (hk.below (fun k h => h.1) HBd.out.size)
 clear hF hFB hFX hp hl hk HLd HBd
 go_wp2_with fail
 obtain ⟨F, hF, hFB, hFX⟩ := HLe.out.is
 refine (HC.out.start F v5 a 200 1 [] hF HLe.out.row).mono ?_
 rintro e v6 ⟨rfl, hb⟩
 have HLf := qh (HLe.out.on HC.out hb)
 have HBf := qh (HBe.out.trans (hb.mono HBe.out.size))
 clear hF hFB hFX hb HLe HBe
 go_wp2_with fail
 obtain ⟨F, hF, hFB, hFX⟩ := HLf.out.is
 refine (HC.out.producers F v6 a 200 1 [] hF HLf.out.row).mono ?_
 rintro e v7 ⟨pa, pn, pc, pm, rfl, hpt, hps, -, -, hb⟩
 obtain rfl : pn = 0 := by
  have h1 := hpt.row.length
  have h2 := congrArg List.length hps
  unfold pds at h2
  rw [List.length_map, h1] at h2
  exact h2
 have HBg := qh (HBf.out.trans (hb.mono HBf.out.size))
 clear hF hFB hFX hb hpt hps HLf HBf
 go_wp2
 go_ret
 exact ⟨rfl, HBg.out⟩
theorem OwnAms.at_ {W : World} {base : Nat} {u : Value} {l : List Am} (h : OwnAms W base u l) : ∃ ad cap, u = .slice ad l.length cap ∧ AmsAt W ad l.length cap l := by
 obtain ⟨ad, cap, e, hr, -⟩ := h.row.at amK_ok
 exact ⟨ad, cap, e, hr, h.ins⟩
end Go.Proofs.YtjmfdildnojknaaGreat
namespace Go.ProdMath
open Go.SeqMath
open Go.BatMath
end Go.ProdMath
namespace Go.Proofs.YtjmfdildnojknaaGreat
open Go.RowKit
theorem as_nat1 {X hi : Int} {w : World} (h0 : 1 ≤ X) (h1 : X ≤ hi) : ∃ k : Nat, Ending.returned (.int .i64 X) = .returned (.int .i64 k) ∧ 1 ≤ k ∧ (k : Int) ≤ hi ∧ w = w :=
 ⟨X.toNat, by rw [Int.toNat_of_nonneg (by omega)], by omega, by omega, rfl⟩
theorem within1_any (n hi : Int) (w : World) (hn : -9223372036854775808 ≤ n ∧ n ≤ 9223372036854775807) (hh : 1 ≤ hi ∧ hi ≤ 1000000) :
 Calls Tryz.prog 12 #[.int .i64 n, .int .i64 1, .int .i64 hi] w fun e w' => ∃ k : Nat, e = .returned (.int .i64 k) ∧ 1 ≤ k ∧ (k : Int) ≤ hi ∧ w = w' := by
 by_cases h : 1 ≤ n ∧ n ≤ hi
 · have d1 : decide (1 ≤ n) = true := decide_eq_true h.1
   have d2 : decide (n ≤ hi) = true := decide_eq_true h.2
   go_enter Tryz.func12, Tryz.ntmps12
   go_wp2
   go_ret
   exact as_nat1 h.1 h.2
 have hg : (decide (1 ≤ n) && decide (n ≤ hi)) = false := by
  simp only [Bool.and_eq_false_iff, decide_eq_false_iff_not]; omega
 have hw : hi - 1 + 1 = hi := by omega
 have hw1 : wrap64 (hi - 1) = hi - 1 := by unfold wrap64; omega
 have m1 : n.tmod hi < hi := Int.tmod_lt_of_pos _ (by omega)
 have m2 : -hi < n.tmod hi := by
  have := Int.tmod_lt_of_pos (-n) (b := hi) (by omega)
  rw [Int.neg_tmod] at this
  omega
 have m3 : n % hi < hi := Int.emod_lt_of_pos _ (by omega)
 have m4 : 0 ≤ n % hi := Int.emod_nonneg _ (by omega)
 go_enter Tryz.func12, Tryz.ntmps12
 go_wp2
 all_goals
  go_ret
  exact as_nat1 (by omega) (by omega)
end Go.Proofs.YtjmfdildnojknaaGreat
namespace Go.Proofs.YtjmfdildnojknaaGreat
open Go.RowKit Go.OpenShut
theorem nextslicecap_wide {need old : Nat} (h : old < need) : 4 * Builtin.nextslicecap need old ≤ 5 * need + 3000 := by
 unfold Builtin.nextslicecap
 split
 · omega
 split
 · omega
 rw [growBy_four]
 repeat' split
 all_goals omega
theorem growslice_wide {need old bytes : Nat} (h : old < need) (hb : need * bytes ≤ 141737488355328) (hy : bytes ≤ 1000) : Builtin.nextslicecap need old * bytes ≤ 281474976710656 := by
 have h1 : 4 * Builtin.nextslicecap need old * bytes ≤ (5 * need + 3000) * bytes := Nat.mul_le_mul_right _ (nextslicecap_wide h)
 have h2 : 4 * Builtin.nextslicecap need old * bytes = 4 * (Builtin.nextslicecap need old * bytes) := Nat.mul_assoc ..
 have h3 : (5 * need + 3000) * bytes = 5 * (need * bytes) + 3000 * bytes := by rw [Nat.add_mul, Nat.mul_assoc]
 have h4 : 3000 * bytes ≤ 3000 * 1000 := Nat.mul_le_mul_left _ hy
 omega
theorem run_append_wide {P : Program} (w : World) (base : Nat) (t ty e : TypeId) (i : TypeInfo) (z : Value) (size bytes : Nat) (ht : P.underlying t = some (.slice e)) (hi : P.info? e = some i) (hz : i.zero = some z)
 (hsize : i.size = size) (hby : i.bytes = bytes) (hzs : z.cells.size = size) (hsz : 0 < size) (hyl : bytes ≤ 1000) (hyp : 0 < bytes)
 (v : Value) (n : Nat) (xs : List Value) (hown : w.ownsRow base e size v n xs)
 (a : Addr) (m c : Nat) (news : List Value) (hl : news.length = m * size) (hnews : ∀ j u, news[j]? = some u → w.cell? (a.add j) = some u) (h1 : ∀ u ∈ news, u.oneCell' = true)
 (hbytes : (n + m) * bytes ≤ 141737488355328) (hbase : base ≤ w.heap.size) :
 ∃ v' w', (Builtin.append_ #[t, t] ty #[v, .slice (some a) m c]).run P w = .ok v' w' ∧ w'.ownsRow base e size v' (n + m) (xs ++ news) ∧ w.grownBy w' v.ownBlock := by
 subst hsize
 subst hby
 have hnm : n + m ≤ 141737488355328 := by
  have : (n + m) * 1 ≤ (n + m) * i.bytes := Nat.mul_le_mul_left _ hyp
  omega
 have h63 : n + m ≤ maxLen := by unfold maxLen; omega
 have hsmall : n + m ≤ 9223372036854775807 := by omega
 have hlen : (xs ++ news).length = (n + m) * i.size := by rw [List.length_append, hown.1, hl, Nat.add_mul]
 have grown : ∀ (old : Nat), old < n + m → ∀ (row : Option Nat),
  (w.drew.alloc (.cells (xs.toArray ++ news.toArray ++ Builtin.zeroCells z.cells (grownCap w (n + m) old e - (n + m))) e)).ownsRow base e i.size
   (.slice (some ⟨w.heap.size, 0, none⟩) (n + m) (grownCap w (n + m) old e)) (n + m) (xs ++ news) ∧
  w.grownBy (w.drew.alloc (.cells (xs.toArray ++ news.toArray ++ Builtin.zeroCells z.cells (grownCap w (n + m) old e - (n + m))) e)) row := by
  intro old ho row
  have hge := grownCap_ge w (n + m) old e
  have hcm : grownCap w (n + m) old e ≤ maxLen := grownCap_le_maxLen w (n + m) old e h63
  refine ⟨⟨hlen, .inr ⟨w.heap.size, _, _, rfl, hbase, heap_alloc_new w.drew _, hge, hcm, ?_, ?_⟩⟩, grow_alloc (w := w) (w1 := w.drew) ⟨rfl, rfl, rfl, Nat.le_refl _, fun k hk _ => rfl⟩ _⟩
  · simp only [Array.size_append, List.size_toArray, size_zeroCells, hzs, hown.1, hl, ← Nat.add_mul]
    congr 1
    omega
  simp only [Array.toList_append, List.append_assoc]
  rw [← List.append_assoc, ← hlen]
  exact List.take_left
 rcases hown.2 with ⟨rfl, rfl⟩ | ⟨g, cap, cur, rfl, hbg, hg, hnc, hcm, hcs, htake⟩
 · have hx : xs = [] := List.eq_nil_of_length_eq_zero (by simpa using hown.1)
   subst hx
   by_cases hm : m = 0
   · subst hm
     have hn : news = [] := List.eq_nil_of_length_eq_zero (by simpa using hl)
     subst hn
     refine ⟨.slice none 0 0, w, ?_, World.ownsRow_nil w base e i.size, ⟨rfl, rfl, rfl, Nat.le_refl _, fun _ _ _ => rfl⟩⟩
     simp [Builtin.append_, run_underlying ht, sizeOf, typeInfo, hi, Builtin.lenOf, Builtin.firstCells, loadCells, loadCellsFrom]
   have hr := run_append_nil (P := P) w t ty e i z ht hi hz a m c news hl hnews (by omega) (by omega) (by have hb := hbytes; simp only [Nat.zero_add] at hb; omega)
   have hgr := grown 0 (by omega) (Value.ownBlock (.slice none 0 0))
   simp only [Nat.zero_add, List.nil_append, Array.empty_append] at hgr ⊢
   exact ⟨_, _, hr, hgr.1, hgr.2⟩
 by_cases hroom : n + m ≤ cap
 · have hfit : n * i.size + news.length ≤ cur.size := by rw [hl, hcs, ← Nat.add_mul]; exact Nat.mul_le_mul_right _ hroom
   have hr := run_append_room (P := P) w t ty e i ht hi g n cap cur hg a m c news hl hnews h1 hroom hfit
   refine ⟨_, _, hr, ⟨hlen, .inr ⟨g, cap, _, rfl, hbg, setRow_heap w g cur _ e _ hg, hroom, hcm, ?_, ?_⟩⟩, ⟨rfl, rfl, rfl, by simp, fun k _ hk => setRow_other w g k _ (fun e => hk (by simp [Value.ownBlock, e]))⟩⟩
   · simp only [List.size_toArray, List.length_append, List.length_take, List.length_drop, Array.length_toList]
     omega
   rw [htake, ← hlen]
   exact List.take_left
 have holds : ∀ j u, xs[j]? = some u → w.cell? ((⟨g, 0, none⟩ : Addr).add j) = some u := hown.cells (g := g) rfl
 have hr := run_append_grow (P := P) w t ty e i z ht hi hz ⟨g, 0, none⟩ n cap xs hown.1 holds a m c news hl hnews (by omega) (by omega) (growslice_wide (by omega) hbytes hyl)
 have hgr := grown cap (by omega) (Value.ownBlock (.slice (some ⟨g, 0, none⟩) n cap))
 exact ⟨_, _, hr, hgr.1, hgr.2⟩
theorem run_row_wide {α : Type} {K : Kind α} {bytes : Nat} (hK : K.Ok bytes) (hyp : 0 < bytes) (w : World) (base : Nat) (v : Value) (l m : List α) (ty : Nat) (hown : OwnRow K w base v l) (ad : Option Addr) (n cap : Nat) (hr : RowAt K w ad n cap m) (hn : (l.length + n) * bytes ≤ 141737488355328) (hbase : base ≤ w.heap.size) :
 ∃ v' w', (Builtin.append_ #[K.sl, K.sl] ty #[v, .slice ad n cap]).run Tryz.prog w = .ok v' w' ∧ OwnRow K w' base v' (l ++ m) ∧ w.grownBy w' v.ownBlock := by
 obtain ⟨i, z, hi, hz, hs, hby, hzs⟩ := hK.info
 obtain rfl := hr.length
 have hu := hK.und
 rcases ad with _ | ⟨b, off, x⟩
 · have hc := hr.room rfl
   have hf := hr.fits
   obtain rfl : m = [] := List.eq_nil_of_length_eq_zero (by omega)
   subst hc
   refine ⟨v, w, ?_, by rw [List.append_nil]; exact hown, ⟨rfl, rfl, rfl, Nat.le_refl _, fun _ _ _ => rfl⟩⟩
   exact run_append_owned_none (P := Tryz.prog) (w := w) base K.sl ty K.ty i K.size hu hi v _ _ hown
 have hx : x = none ∨ m.length = 0 := by
  rcases hr.cells with h0 | ⟨_, _, e, _⟩
  · exact .inr h0
  cases e; exact .inl rfl
 have hnews : ∀ j u, (K.all m)[j]? = some u → w.cell? ((⟨b, off, x⟩ : Addr).add j) = some u := by
  intro j u hj
  rcases hx with rfl | h0
  · exact hr.news hK j u hj
  obtain rfl := List.eq_nil_of_length_eq_zero h0
  simp [Kind.all] at hj
 obtain ⟨v', w', hrun, h2, h3⟩ := run_append_wide (P := Tryz.prog) w base K.sl ty K.ty i z K.size bytes hu hi hz hs hby hzs hK.pos hK.few hyp v l.length (K.all l) hown ⟨b, off, x⟩ m.length cap (K.all m) (hK.all_len m) hnews (hK.all_one m) hn hbase
 refine ⟨v', w', hrun, ?_, h3⟩
 unfold OwnRow
 rw [K.all_app, List.length_append]
 exact h2
theorem list_row_wide {α : Type} {K : Kind α} {bytes : Nat} {w : World} {ops : Array Oper} {rest : List Oper} {o : Oper} {a : Act} {Q : Exit → Act → World → Prop} (hw : Region.wanted o (yielded ops a.tmps) = true) (hK : K.Ok bytes) (hyp : 0 < bytes) (s x : Operand)
 (ho : o.op = .call { callee := .builtin .append, args := #[s, x], argTypes := #[K.sl, K.sl] })
 (base : Nat) (l m : List α) (v : Value) (hs : a.eval s = v) (hown : OwnRow K w base v l) (hbase : base ≤ w.heap.size)
 (ad : Option Addr) (n cap : Nat) (hx : a.eval x = .slice ad n cap) (hr : RowAt K w ad n cap m) (hn : (l.length + n) * bytes ≤ 141737488355328)
 (h : ∀ v' w', OwnRow K w' base v' (l ++ m) ∧ w.grownBy w' v.ownBlock → wpList Tryz.prog ops Q rest (a.put o.dst v') w') :
 wpList Tryz.prog ops Q (o :: rest) a w := by
 refine BigFrame.wpList_want hw fun C hC => ?_
 obtain ⟨v', w', hrun, h2⟩ := run_row_wide hK hyp w base v l m o.type hown ad n cap hr hn hbase
 unfold Oper.wp execOp
 simp only [ho, resolve, invoke, builtin, Sem.run_bind, Sem.run_pure, Result.andThen_ok, List.map_toArray, List.map_cons, List.map_nil, hs, hx, hrun]
 exact hC _ _ (h v' w' h2)
end Go.Proofs.YtjmfdildnojknaaGreat
namespace Go.Proofs.YtjmfdildnojknaaGreat
open Go.RowKit
open Go.FoMath
open Go.ProdMath
open Go.BatMath hiding AllB getD_lt take_all In64
theorem mask12 (a : Int) : bits .and .i64 a 4095 = a % 4096 := by
 have h1 : (BitVec.ofInt 64 4095).toNat = 2 ^ 12 - 1 := by decide
 have key : (BitVec.ofInt 64 a &&& BitVec.ofInt 64 4095).toNat = (a % ((2 ^ 64 : Nat) : Int)).toNat % 2 ^ 12 := by
  rw [BitVec.toNat_and, BitVec.toNat_ofInt, h1, Nat.and_two_pow_sub_one_eq_mod]
 show IntKind.i64.wrap ((BitVec.ofInt 64 a &&& BitVec.ofInt 64 4095).toNat : Nat) = _
 rw [key, IntKind.wrap_i64]
 omega
theorem mdPlays_any {R : LogP} (C : MdCode R) (w : World) (tad : Option Addr) (tlen tcap : Nat) (zs : List Int) (h : Nums w tad tlen zs) (hL : tlen ≤ 140737488355328) (size : Int) (hsz : -9223372036854775808 ≤ size ∧ size ≤ 9223372036854775807) (rad : Option Addr) (rlen rcap : Nat) (raw : List Am) (hraw : AmsAt w rad rlen rcap raw) (hrl : rlen * 176 ≤ 140737488355328) :
 Calls Tryz.prog 4 #[.slice tad tlen tcap, .int .i64 size, .slice rad rlen rcap] w (GivesBool w true) := by
 have HC := qh C
 have HRAW := qh hraw
 have hmk := mask12 size
 have HSZ : Hid (-9223372036854775808 ≤ size ∧ size ≤ 9223372036854775807) := hsz
 have HS2 : Hid (1 ≤ size % 4096 + 1 ∧ size % 4096 + 1 ≤ 1073741824) := by show _ ∧ _; omega
 clear C hraw hsz
 go_enter Tryz.func4, Tryz.ntmps4
 go_wp2_with fail
 refine (acts_any w tad tlen tcap zs h hL 80 (by decide)).mono ?_
 rintro e w2 ⟨u, l, rfl, ho, hl, hb⟩
 obtain ⟨ad, cap, hu, ham⟩ := ho.at_
 obtain ⟨ln, hln⟩ := exq l.length
 rw [← hln] at hu ham hl
 subst hu
 have HLN := qh hln
 have HO := qh ho
 have HAM := qh ham
 have HB2 := qh hb
 clear ho ham hb h hln
 go_wp2_with fail
 refine (mdPlay_any HC.out w2 1073741824 (by decide) (by decide) ad ln cap l HAM.out).mono ?_
 rintro e w3 ⟨rfl, hb3⟩
 have HB3 := qh (HB2.out.trans (hb3.mono HB2.out.size))
 have HU3 := qh hb3
 clear hb3 HB2
 go_wp2_with fail
 refine (within1_any size 2000 w3 HSZ.out (by decide)).mono ?_
 rintro e w3' ⟨k, rfl, hk1, hk2, rfl⟩
 go_wp2_with fail
 refine (mdPlay_any HC.out w3 (k : Int) (by omega) (by omega) ad ln cap l (HAM.out.keep HU3.out)).mono ?_
 rintro e w4 ⟨rfl, hb⟩
 have HB4 := qh (HB3.out.trans (hb.mono HB3.out.size))
 have HU4 : Hid (Below w2.heap.size w2 w4) := HU3.out.trans (hb.mono HU3.out.size)
 clear hb HB3 HU3 hk1 hk2
 have HOW : Hid (OwnRow amK w4 w.heap.size (.slice ad ln cap) l) := HO.out.row.same (fun q hq => HU4.out.block q (HO.out.row.lt q hq).2)
 have HR4 := qh (HRAW.out.keep HB4.out)
 go_wp2_with (at_builtin; refine list_row_wide (by rfl) amK_ok (by decide) (.tmp 19) (.tmp 20) rfl w.heap.size l raw (.slice ad ln cap) rfl HOW.out HB4.out.size rad rlen rcap rfl HR4.out.row (by have h7 := HLN.out; rw [← h7]; omega) ?_)
 intro v' w5 hap hgr
 have hkp : Kept w4 w5 (fun k => (Value.slice ad ln cap).ownBlock = some k) := Kept.of_own hgr (fun k hk => .inl hk)
 have hown : ∀ q, (Value.slice ad ln cap).ownBlock = some q → w.heap.size ≤ q := fun q hq => (HOW.out.lt q hq).1
 have HB5 : Hid (Below w.heap.size w w5) := HB4.out.trans (hkp.below hown HB4.out.size)
 obtain ⟨ad2, cap2, hv, hr2, -⟩ := hap.at amK_ok
 have HA5 : Hid (AmsAt w5 ad2 (l ++ raw).length cap2 (l ++ raw)) := ⟨hr2, fun m hm => by
  rcases List.mem_append.1 hm with h4 | h4
  · exact ((HO.out.ins m h4).keep HU4.out).kept hkp (fun k hk => HO.out.past k m hk h4)
  exact (HRAW.out.ins m h4).keep HB5.out⟩
 subst hv
 obtain ⟨n2, hn2⟩ : ∃ n, n = (l ++ raw).length := ⟨_, rfl⟩
 rw [← hn2] at HA5
 (try rw [← hn2])
 clear hap hgr hkp hown hr2 HOW HR4 HU4 HAM HO HB4 hn2
 go_wp2_with fail
 refine (mdPlay_any HC.out w5 1073741824 (by decide) (by decide) ad2 n2 cap2 (l ++ raw) HA5.out).mono ?_
 rintro e w6 ⟨rfl, hb⟩
 have HB6 := qh (HB5.out.trans (hb.mono HB5.out.size))
 clear hb HB5 HA5
 go_wp2_with fail
 refine (mdPlay_any HC.out w6 (size % 4096 + 1) HS2.out.1 HS2.out.2 rad rlen rcap raw (HRAW.out.keep HB6.out)).mono ?_
 rintro e w7 ⟨rfl, hb⟩
 have HB7 := qh (HB6.out.trans (hb.mono HB6.out.size))
 clear hb HB6
 go_wp2_with fail
 refine (mdKnown_any HC.out w7).mono ?_
 rintro e w8 ⟨rfl, hb⟩
 have HB8 := qh (HB7.out.trans (hb.mono HB7.out.size))
 clear hb HB7
 go_wp2_with fail
 go_ret
 exact ⟨rfl, HB8.out⟩
end Go.Proofs.YtjmfdildnojknaaGreat
namespace Go.Proofs.YtjmfdildnojknaaGreat
open Go.ChangeShapes Go.WideShapes Go.Deep Go.RowKit
open Go.BatMath hiding AllB getD_lt take_all
theorem weights_all {H : Type} {P : Program} {e : TypeId} : ∀ {l : List (DataW H)} {d : DataW H}, d ∈ l → ∀ n ∈ d.weights P e, n ∈ DataW.weightsAll P e l
 | x :: l, d, h, n, hn => by
   unfold DataW.weightsAll
   rw [List.mem_append]
   rcases List.mem_cons.1 h with rfl | h
   · exact .inl hn
   exact .inr (weights_all h n hn)
theorem weights_field {H : Type} {P : Program} {t : TypeId} {fs : Array Field} {parts : List (DataW H)} {j : Nat} {f : Field} {d : DataW H} (ht : P.underlying t = some (.struct fs)) (hf : fs[j]? = some f) (hd : parts[j]? = some d) : ∀ n ∈ d.weights P f.type, n ∈ DataW.weights P t (.agg parts) := by
 intro n hn
 simp only [DataW.weights, ht]
 exact DataW.weights_mem_each (j := j) (t := f.type) (by simp [hf]) hd n hn
theorem weights_elem {H : Type} {P : Program} {t e : TypeId} {elems spare : List (DataW H)} {d : DataW H} (ht : P.underlying t = some (.slice e)) (hd : d ∈ elems) : ∀ n ∈ d.weights P e, n ∈ DataW.weights P t (.slice elems spare) := by
 intro n hn
 simp only [DataW.weights, ht]
 exact List.mem_cons_of_mem _ (List.mem_append.2 (.inl (weights_all hd n hn)))
theorem weights_slice {H : Type} {P : Program} {t e : TypeId} {elems spare : List (DataW H)} (ht : P.underlying t = some (.slice e)) : (elems.length + spare.length) * P.bytesOf e ∈ DataW.weights P t (DataW.slice (H := H) elems spare) := by
 simp only [DataW.weights, ht]
 exact List.mem_cons_self
theorem wf_in {n : Int} (h : (Lit.int .i64 n).wf = true) : In64 n := by
 have := bounds_i64 h
 exact ⟨by omega, by omega⟩
section
variable {H : Type} {enc : TypeId × Value → H} {w : World}
theorem open_recs {fuel len cap : Nat} {ad : Option Addr} {x : DataW H × List MemPlace} (h : DataW.trod enc Tryz.prog w 0 (fun _ => true) true fuel 27 [.slice ad len cap] = some x) (hs : ∀ n ∈ x.1.weights Tryz.prog 27, n ≤ reachBytes) :
 ∃ l, RecsAt w ad len cap l ∧ TextsOk l ∧ len ≤ 140737488355328 := by
 have hB : Tryz.prog.bytesOf 84 = 32 := by kernel_rfl
 have hC : Tryz.prog.cellsOf 84 = 2 := by kernel_rfl
 have hS : Tryz.prog.cellsOf 9 = 1 := by kernel_rfl
 rcases open_slice Tryz.underlying27 h with ⟨hcs, _⟩ | ⟨a, l, c, m, n, D, Pl, hcs, _, hl, hm, hmm, hx, hi⟩
 · simp at hcs
   obtain ⟨rfl, rfl, rfl⟩ := hcs
   exact ⟨[], recsAt_nil w, fun r hr => (by cases hr), Nat.zero_le _⟩
 simp at hcs
 obtain ⟨rfl, rfl, rfl⟩ := hcs
 obtain rfl : m = cap := by simpa using hmm
 have hx1 : x.1 = .slice ((List.range len).map D) ((List.range (m - len)).map fun j => D (len + j)) := congrArg Prod.fst hx
 rw [hx1] at hs
 have hlen : len ≤ 140737488355328 := by
  have := hs _ (weights_slice (P := Tryz.prog) (e := 84) Tryz.underlying27)
  rw [hB] at this
  simp only [List.length_map, List.length_range, reachBytes] at this
  omega
 have key : ∀ i, i < len → ∃ r : Rc, w.cell? (a.add (i * 2)) = some (.string r.key) ∧ w.cell? (a.add (i * 2 + 1)) = some (.string r.val) ∧ r.key.size ≤ 140737488355328 ∧ r.val.size ≤ 140737488355328 := by
  intro i hil
  obtain ⟨cs', hc, ht⟩ := hi i (by omega)
  rw [hC] at hc
  obtain ⟨_, hcl, hat⟩ := World.cells?_some hc
  obtain ⟨ys, n', _, hy, _, hyl, hf⟩ := DataW.trod_struct Tryz.underlying84 ht
  have h0 : DataW.trod enc Tryz.prog w 0 (fun _ => true) true n' 9 ((cs'.drop 0).take (Tryz.prog.cellsOf 9)) = ys[0]? := hf 0 _ rfl
  have h1 : DataW.trod enc Tryz.prog w 0 (fun _ => true) true n' 9 ((cs'.drop 1).take (Tryz.prog.cellsOf 9)) = ys[1]? := hf 1 _ rfl
  rw [hS] at h0 h1
  have hyl2 : ys.length = 2 := hyl
  obtain ⟨c0, c1, rfl⟩ : ∃ c0 c1, cs' = [c0, c1] := by
   match cs', hcl with
   | [c0, c1], _ => exact ⟨c0, c1, rfl⟩
  obtain ⟨y0, y1, rfl⟩ : ∃ y0 y1, ys = [y0, y1] := by
   match ys, hyl2 with
   | [y0, y1], _ => exact ⟨y0, y1, rfl⟩
  obtain ⟨s0, e0, hy0, _⟩ := DataW.trod_string Tryz.underlying9 (h0.trans rfl)
  obtain ⟨s1, e1, hy1, _⟩ := DataW.trod_string Tryz.underlying9 (h1.trans rfl)
  simp at e0 e1
  subst e0 e1
  have hDi : D i = .agg [y0.1, y1.1] := congrArg Prod.fst hy
  have hmem : D i ∈ (List.range len).map D := List.mem_map.2 ⟨i, List.mem_range.2 hil, rfl⟩
  have hbig : ∀ (fs : Array Field) (j : Nat) (f : Field) (d : DataW H) (s : ByteArray), Tryz.prog.underlying 84 = some (.struct fs) → fs[j]? = some f → [y0.1, y1.1][j]? = some d → d = .lit (.string s.data.toList) → s.size ≤ 140737488355328 := by
   intro fs j f d s hu hfj hdj hds
   have h1 : s.data.toList.length ∈ d.weights Tryz.prog f.type := by rw [hds]; simp [DataW.weights]
   have h2 := weights_field (P := Tryz.prog) hu hfj hdj _ h1
   rw [← hDi] at h2
   have h3 := hs _ (weights_elem (P := Tryz.prog) Tryz.underlying27 hmem _ h2)
   simp only [reachBytes, Array.length_toList] at h3
   show s.data.size ≤ _
   omega
  refine ⟨⟨s0, s1⟩, ?_, ?_, hbig _ 0 _ _ s0 Tryz.underlying84 rfl rfl (congrArg Prod.fst hy0), hbig _ 1 _ _ s1 Tryz.underlying84 rfl rfl (congrArg Prod.fst hy1)⟩
  · have := hat 0 (by omega)
    rw [Go.Deep.add_add, Nat.add_zero] at this
    exact this
  have := hat 1 (by omega)
  rw [Go.Deep.add_add] at this
  exact this
 have hch : ∃ f : Nat → Rc, ∀ i, i < len → w.cell? (a.add (i * 2)) = some (.string (f i).key) ∧ w.cell? (a.add (i * 2 + 1)) = some (.string (f i).val) ∧ (f i).key.size ≤ 140737488355328 ∧ (f i).val.size ≤ 140737488355328 := by
  refine Classical.axiomOfChoice (r := fun i (r : Rc) => i < len → w.cell? (a.add (i * 2)) = some (.string r.key) ∧ w.cell? (a.add (i * 2 + 1)) = some (.string r.val) ∧ r.key.size ≤ 140737488355328 ∧ r.val.size ≤ 140737488355328) fun i => ?_
  by_cases h : i < len
  · obtain ⟨r, hr⟩ := key i h
    exact ⟨r, fun _ => hr⟩
  exact ⟨⟨⟨#[]⟩, ⟨#[]⟩⟩, fun h' => absurd h' h⟩
 obtain ⟨f, hf⟩ := hch
 refine ⟨(List.range len).map f, ⟨by simp, hl, (fun e => by cases e), ?_⟩, ?_, hlen⟩
 · by_cases h0 : len = 0
   · exact .inl h0
   obtain ⟨b, off, spot⟩ := a
   have h1 := (hf 0 (by omega)).1
   have hsp : spot = none := by simpa [Addr.add] using World.cell?_spot h1
   subst hsp
   refine .inr ⟨b, off, rfl, ?_, fun i r hi => ?_⟩
   · rw [Go.WideShapes.add_plain] at h1
     exact World.block_lt_of_cell? w _ h1
   obtain ⟨hlt, e⟩ := List.getElem?_eq_some_iff.1 hi
   have hil : i < len := by simpa using hlt
   have e : f i = r := by simpa using e
   subst e
   have h2 := hf i hil
   rw [Go.WideShapes.add_plain, Go.WideShapes.add_plain, ← Nat.add_assoc] at h2
   exact ⟨h2.1, h2.2.1⟩
 intro r hr
 obtain ⟨i, hi, rfl⟩ := List.mem_map.1 hr
 exact (hf i (List.mem_range.1 hi)).2.2
end
theorem weights_slice2 {H : Type} {P : Program} {t e : TypeId} {elems spare : List (DataW H)} (ht : P.underlying t = some (.slice e)) : (elems.length + spare.length) * P.bytesOf e ∈ DataW.weights P t (DataW.slice (H := H) elems spare) := by
 simp only [DataW.weights, ht]
 exact List.mem_cons_self
end Go.Proofs.YtjmfdildnojknaaGreat
