/- Parts of a proof, merged: SnReads, SnapRow, SnSame, SnapTurn, SnBad, SnOn, SnNums, SnWrite, SnIface, SnReadC, SnapList, SnListK, Runes, NameIt, NameSmall, NameRight. -/
import Derived.Lib.MapLaws
import Derived.Lib.ValidLaws
import Derived.Lib.RuneLoops
import Derived.WalkKit
import Derived.BigCall
import Derived.Below
import Derived.Lib.Hide
import Derived.Deep.Light
import Derived.Lib.OthersKept
import Derived.BigQuiet
import Derived.Deep.QuietTactic
import Derived.Test.YtgohekjkbgfeeaaGreatProg
import Derived.Test.YtgohekjkbgfeeaaGreatKn12
import Derived.Test.YtgohekjkbgfeeaaGreatKn3
import Derived.Test.YtgohekjkbgfeeaaGreatKn1
import Derived.Test.YtgohekjkbgfeeaaGreatKn5
import Derived.Test.YtgohekjkbgfeeaaGreatKn10
import Derived.Test.YtgohekjkbgfeeaaGreatKn11
import Derived.Test.YtgohekjkbgfeeaaGreatKn4
namespace Go.Proofs.YtgohekjkbgfeeaaGreat
open Go.RowKit
open Go.SnapMath
open Go.ProdMath
open Go.BatMath hiding AllB take_all
set_option linter.unusedVariables false

/-- What the code's Read is to do; T says what a table holds. -/
def ReadDoes (T : World → Addr → List Pd → Prop) (w : World) (bs : List Nat) (e : Ending) (w' : World) : Prop :=
 Below w.heap.size w w' ∧ ((∃ a l n, e = .returned (.tuple #[.pointer (some a), .int .i64 n, .int .i64 0]) ∧ T w' a l ∧ IsSnap bs l n) ∨
  (e = .returned (.tuple #[.pointer none, .int .i64 0, .int .i64 12]) ∧ ∀ l m, ¬ IsSnap bs l m))
/-- What the code's All is to give. -/
def AllDoes (w : World) (l : List Pd) (e : Ending) (w' : World) : Prop :=
 ∃ ad n cap ms, e = .returned (.slice ad n cap) ∧ PdsAt w' ad n cap ms ∧ pds ms = l ∧ Below w.heap.size w w'
theorem IsSnap.one {bs : List Nat} {l l' : List Pd} {n n' : Int} (h : IsSnap bs l n) (h' : IsSnap bs l' n') (hL : bs.length ≤ 1048600) : l = l' ∧ n = n' := by
 have h1 := h.rd hL
 rw [h'.rd hL] at h1
 cases h1
 exact ⟨rfl, rfl⟩
set_option maxRecDepth 100000 in
set_option maxHeartbeats 4000000 in
theorem snReads_any (T : World → Addr → List Pd → Prop) (hT : ∀ W W' a l, T W a l → Below W.heap.size W W' → T W' a l)
 (hA : ∀ W a l, T W a l → (∀ p ∈ l, p.last.length ≤ 5) → l.length ≤ 1000000 → Calls Tryz.prog 23 #[.pointer (some a)] W (AllDoes W l))
 (w : World) (ad : Option Addr) (len cap : Nat) (bs : List Nat) (h : Byt w ad len cap bs) (hL : bs.length ≤ 1048600)
 (hR : Calls Tryz.prog 19 #[.slice ad len cap] w (ReadDoes T w bs)) :
 Calls Tryz.prog 12 #[.slice ad len cap] w (GivesBool w true) := by
 have H := Lib.hid h
 have HT := Lib.hid hT
 have HA := Lib.hid hA
 have HR := Lib.hid hR
 have HL : Hid (bs.length ≤ 1048600) := hL
 clear h hT hA hR hL
 go_enter Tryz.func12, Tryz.ntmps12
 go_wp2_with fail
 refine HR.out.mono ?_
 rintro e w1 ⟨hb1, hc⟩
 have HB1 := Lib.hid hb1
 rcases hc with ⟨a, l, n, rfl, ht, hs⟩ | ⟨rfl, hno⟩
 · have HT1 := Lib.hid ht
   have HS := Lib.hid hs
   clear hb1 ht hs
   go_wp2_with fail
   refine (snRead_any w1 ad len cap bs (H.out.keep HB1.out (Nat.le_refl _)) HL.out).mono ?_
   rintro e w2 ⟨hb2, hc⟩
   rcases hc with ⟨ad2, len2, cap2, ms, m, rfl, hp, hs2⟩ | ⟨rfl, hno⟩
   · obtain ⟨h1, h2⟩ := IsSnap.one HS.out hs2 HL.out
     subst h1 h2
     have HP := Lib.hid hp
     have HT2 := Lib.hid (HT.out _ _ _ _ HT1.out hb2)
     have HB2 := Lib.hid (HB1.out.trans (hb2.mono HB1.out.size))
     clear hp hs2 hb2
     have hfew : ∀ p ∈ pds ms, p.last.length ≤ 5 := HS.out.1.few
     have hlen : (pds ms).length ≤ 1000000 := by
      have h1 := snap_few (n := n) HS.out.1
      rw [← HS.out.2.2] at h1
      have := HL.out
      omega
     have hmn : ms.length = len2 := HP.out.row.length
     have CALL : Hid (∀ W, T W a (pds ms) → Calls Tryz.prog 23 #[.pointer (some a)] W (AllDoes W (pds ms))) := fun W hW => HA.out W a _ hW hfew hlen
     go_wp2_with fail
     refine (CALL.out w2 HT2.out).mono ?_
     rintro e w3 ⟨ad3, len3, cap3, os, rfl, hp3, he3, hb3⟩
     have hon : os.length = len3 := hp3.row.length
     have hl3 : len3 ≤ 1000000 := by
      rw [← hon]
      have h1 := congrArg List.length he3
      unfold pds at h1
      rw [List.length_map, List.length_map] at h1
      unfold pds at hlen
      rw [List.length_map] at hlen
      omega
     have HP3 := Lib.hid hp3
     have HPk := Lib.hid (HP.out.keep hb3)
     have HE3 := Lib.hid he3
     have HB3 := Lib.hid (HB2.out.trans (hb3.mono HB2.out.size))
     clear hp3 he3 hb3 hon hmn
     go_wp2_with fail
     refine (refAllP_any w3 ad3 ad2 len3 len2 cap3 cap2 os ms HP3.out HPk.out HE3.out hl3 (by rw [HE3.out]; exact hfew)).mono ?_
     rintro e w4 ⟨rfl, hb4⟩
     have HB4 := Lib.hid (HB3.out.trans (hb4.mono HB3.out.size))
     clear hb4
     go_wp2
     go_ret
     exact ⟨rfl, HB4.out⟩
   · exact absurd HS.out (hno l n)
 · clear hb1
   go_wp2_with fail
   refine (snRead_any w1 ad len cap bs (H.out.keep HB1.out (Nat.le_refl _)) HL.out).mono ?_
   rintro e w2 ⟨hb2, hc⟩
   rcases hc with ⟨ad2, len2, cap2, ms, m, rfl, hp, hs2⟩ | ⟨rfl, hno2⟩
   · exact absurd hs2 (hno _ _)
   · have HB2 := Lib.hid (HB1.out.trans (hb2.mono HB1.out.size))
     clear hb2
     go_wp2
     go_ret
     exact ⟨rfl, HB2.out⟩
end Go.Proofs.YtgohekjkbgfeeaaGreat
namespace Go.SnapMath
open Go.ProdMath
open Go.BatMath (In64 Bat Ok ok_of rightE head_of headB noneB none_of)
open Go.SeqMath (gapI followsB lastI addI)
set_option linter.unusedVariables false

/-- A state that what stood below e may have left. -/
structure StOk (e : Int) (p : Pd) : Prop where
 right : RightP p
 last : ∀ x ∈ p.last, x.b < e
theorem StOk.up {e e' : Int} {p : Pd} (h : StOk e p) (he : e ≤ e') : StOk e' p := ⟨h.right, fun x hx => by have := h.last x hx; omega⟩
theorem lt_len {l : List Tr} {j : Nat} {x : Tr} (h : l[j]? = some x) : j < l.length := (List.getElem?_eq_some_iff.1 h).1
theorem step_snoc {l : List Tr} {x : Tr} (h : ∀ j, StepOk l j) (hx : TrOk x) (hn : ∀ y, l.getLast? = some y → TrNext y x) : ∀ j, StepOk (l ++ [x]) j := fun j z hz => by
 have hj := lt_len hz
 rw [List.length_append, List.length_singleton] at hj
 by_cases hlt : j < l.length
 · rw [List.getElem?_append_left hlt] at hz
   refine ⟨(h j z hz).1, fun y h0 hy => ?_⟩
   rw [List.getElem?_append_left (by omega)] at hy
   exact (h j z hz).2 y h0 hy
 · have hje : j = l.length := by omega
   subst hje
   rw [List.getElem?_append_right (Nat.le_refl _), Nat.sub_self] at hz
   cases hz
   refine ⟨hx, fun y h0 hy => hn y ?_⟩
   rw [List.getElem?_append_left (by omega)] at hy
   rw [List.getLast?_eq_getElem?]
   exact hy
theorem step_drop {l : List Tr} (h : ∀ j, StepOk l j) (d : Nat) : ∀ j, StepOk (l.drop d) j := fun j z hz => by
 rw [List.getElem?_drop] at hz
 refine ⟨(h _ z hz).1, fun y h0 hy => ?_⟩
 rw [List.getElem?_drop] at hy
 refine (h _ z hz).2 y (by omega) ?_
 rw [show d + j - 1 = d + (j - 1) by omega]
 exact hy
theorem tr_ok {s base : Int} {n : Nat} (s0 : 0 ≤ s) (s1 : s ≤ 2147483647) (n1 : 1 ≤ n) (n2 : n ≤ 16) (b0 : 0 ≤ base) (b1 : base ≤ 1099511627776) : TrOk ⟨s, lastI s n, base⟩ := by
 have hl : lastI s n = addI s ((n : Int) - 1) := by unfold lastI; rw [if_pos ⟨by omega, by omega⟩]
 have hg : gapI s (lastI s n) = (n : Int) - 1 := by rw [hl]; exact SeqMath.gap_add s0 s1 (by omega) (by omega)
 refine ⟨?_, ?_, b0, b1⟩
 · show 0 ≤ gapI s (lastI s n); omega
 · show gapI s (lastI s n) < 16; omega
/-- A right batch of a producer, with its records. -/
theorem data_ok {b : Bat} (h : rightE b = 0) (hm : b.marker = 0) (hp : 0 ≤ b.prod) : 0 ≤ b.seq ∧ 1 ≤ b.recs.length := by
 unfold rightE at h
 split at h
 · omega
 · split at h
   · rename_i h1; exact absurd hm h1
   · split at h
     · rename_i h1
       obtain ⟨h1, h2⟩ := h1
       refine ⟨?_, List.length_pos_iff.2 h2⟩
       rcases h1 with h1 | h1
       · have := (none_of h1).1; omega
       · have := SeqMath.of_right h1.2; omega
     · omega
theorem epoch_ok {b : Bat} (h : rightE b = 0) (hp : 0 ≤ b.prod) : 0 ≤ b.epoch := by
 unfold rightE at h
 split at h
 · omega
 · split at h
   · split at h
     · rename_i h1; exact (head_of h1.2.1).2.1
     · omega
   · split at h
     · rename_i h1
       rcases h1.1 with h1 | h1
       · have := (none_of h1).1; omega
       · exact (head_of h1.1).2.1
     · omega
theorem old_ok {e : Int} {p : Pd} {known : Bool} (b : Bat) (h : known = true → StOk e p) : (∀ j, StepOk (oldLast p known b) j) ∧ (oldLast p known b).length ≤ 5 ∧ (∀ x ∈ oldLast p known b, x.b < e) ∧ -1 ≤ oldOpen p known ∧ oldOpen p known ≤ 1099511627776 := by
 have ho : -1 ≤ oldOpen p known ∧ oldOpen p known ≤ 1099511627776 := by
  unfold oldOpen
  split
  · rename_i hk
    exact ⟨(h hk).right.1.2.2.2.1, (h hk).right.1.2.2.2.2.1⟩
  · exact ⟨by decide, by decide⟩
 by_cases hk : known = true ∧ p.epoch = b.epoch
 · have he : oldLast p known b = p.last := by unfold oldLast; rw [if_pos hk]
   rw [he]
   have h1 := h hk.1
   exact ⟨h1.right.2, h1.right.1.2.2.2.2.2, h1.last, ho⟩
 · have he : oldLast p known b = [] := by unfold oldLast; rw [if_neg hk]
   rw [he]
   exact ⟨fun j x hx => (by cases hx), Nat.zero_le _, fun x hx => (by cases hx), ho⟩
theorem dup_mem : ∀ {l : List Tr} {s : Int} {c : Nat} {n : Int}, dupL l s c = some n → ∃ x ∈ l, x.b = n
 | [], s, c, n, h => by cases h
 | x :: l, s, c, n, h => by
   cases hb : hitB x s c with
   | true =>
     rw [dup_hit hb] at h
     cases h
     exact ⟨x, by simp, rfl⟩
   | false =>
     rw [dup_miss hb] at h
     obtain ⟨y, hy, e⟩ := dup_mem h
     exact ⟨y, by simp [hy], e⟩
/-- One batch more, that the state takes as a new one. -/
theorem apply_ok {p : Pd} {known : Bool} {b : Bat} {e : Int} (h : known = true → StOk b.base p) (hr : rightE b = 0) (hp : 0 ≤ b.prod) (hc : (checkD p known b).2 = 0) (hn : (checkD p known b).1 < 0) (he : b.base < e) : StOk e (applyD p known b) := by
 have ok := ok_of hr
 obtain ⟨o1, o2, o3, o4, o5⟩ := old_ok b h
 have hep := epoch_ok hr hp
 unfold applyD
 split
 · exact ⟨⟨⟨hp, hep, ok.epoch1, by show (-1 : Int) ≤ -1; omega, by show (-1 : Int) ≤ _; omega, o2⟩, o1⟩, fun x hx => by have := o3 x hx; omega⟩
 · rename_i hm
   have hm0 : b.marker = 0 := Classical.byContradiction fun h => hm h
   obtain ⟨hs, hrn⟩ := data_ok hr hm0 hp
   have hTr : TrOk ⟨b.seq, lastI b.seq b.recs.length, b.base⟩ := tr_ok hs ok.seq1 hrn ok.recs ok.base0 ok.base1
   have hnext : ∀ y, (oldLast p known b).getLast? = some y → TrNext y ⟨b.seq, lastI b.seq b.recs.length, b.base⟩ := fun y hy => by
    refine ⟨o3 y (List.mem_of_getLast? hy), ?_⟩
    by_cases hk : known = true ∧ p.epoch = b.epoch
    · have hol : oldLast p known b = p.last := by unfold oldLast; rw [if_pos hk]
      rw [hol] at hy
      have hne : p.last ≠ [] := fun e => by rw [e] at hy; cases hy
      have hls : lastSeq p.last = y.l := by unfold lastSeq; rw [hy]
      unfold checkD at hc hn
      rw [if_neg hm, if_neg (by rw [hk.1]; decide), if_neg (by omega), if_neg (by omega)] at hc hn
      cases hd : dupL p.last b.seq b.recs.length with
      | some n =>
        rw [hd] at hn
        have hn : n < 0 := hn
        obtain ⟨x, hx, hxb⟩ := dup_mem hd
        obtain ⟨j, hj⟩ := List.mem_iff_getElem?.1 hx
        have := ((h hk.1).right.2 j x hj).1.2.2.1
        omega
      | none =>
        rw [hd] at hc
        have hc : (if p.last ≠ [] ∧ followsB (lastSeq p.last) b.seq = false then ((-1 : Int), (15 : Int)) else if 0 ≤ p.opn ∧ b.txn = false then (-1, 16) else (-1, 0)).2 = 0 := hc
        split at hc
        · cases hc
        · rename_i h3
          show followsB y.l b.seq = true
          rw [← hls]
          cases hf : followsB (lastSeq p.last) b.seq with
          | true => rfl
          | false => exact absurd ⟨hne, hf⟩ h3
    · have hol : oldLast p known b = [] := by unfold oldLast; rw [if_neg hk]
      rw [hol] at hy
      cases hy
   have hlen : (newLast (oldLast p known b) ⟨b.seq, lastI b.seq b.recs.length, b.base⟩).length ≤ 5 := by
    unfold newLast
    rw [List.length_drop, List.length_append, List.length_singleton]
    omega
   refine ⟨⟨⟨hp, hep, ok.epoch1, ?_, ?_, hlen⟩, ?_⟩, ?_⟩
   · show -1 ≤ (if b.txn = true ∧ oldOpen p known < 0 then b.base else oldOpen p known)
     have := ok.base0
     split <;> omega
   · show (if b.txn = true ∧ oldOpen p known < 0 then b.base else oldOpen p known) ≤ _
     have := ok.base1
     split <;> omega
   · exact step_drop (step_snoc o1 hTr hnext) _
   · intro x hx
     have hx := List.mem_of_mem_drop hx
     rcases List.mem_append.1 hx with hx | hx
     · have := o3 x hx; omega
     · rw [List.mem_singleton] at hx
       rw [hx]
       exact he
theorem row_states {start : Int} {bs : List Bat} (h : RowD start bs) (h0 : 0 ≤ start) (h1 : start ≤ 1099511627776) : Asc (foldP [] bs) ∧ ∀ p ∈ foldP [] bs, StOk (endD start bs) p ∧ In64 p.id := by
 induction h with
 | nil => exact ⟨List.Pairwise.nil, fun p hp => by cases hp⟩
 | @snoc l b hl hb hw hc hn he ih =>
   obtain ⟨ha, hs⟩ := ih
   have hr := tcheck_right hc
   have hcd : 0 ≤ countD b := by unfold countD; split <;> omega
   have hend : endD start (l ++ [b]) = b.base + countD b := end_last (by simp)
   rw [foldP_snoc]
   refine ⟨tapply_asc ha b, ?_⟩
   by_cases hp : b.prod < 0
   · rw [tapply_no (Or.inr hp)]
     intro p hm
     exact ⟨(hs p hm).1.up (by rw [hend, hb]; omega), (hs p hm).2⟩
   · have hp : 0 ≤ b.prod := by omega
     unfold tcheckD at hc hn
     rw [if_neg (fun h => h hr), if_neg (by omega)] at hc hn
     have hlk := has_look ha b.prod
     rw [hlk.1, hlk.2] at hc hn
     rw [tapply_ins ha b hr hp]
     have hpos : 0 < countD b := by
      unfold countD
      split
      · omega
      · rename_i h1
        have := (data_ok hr (Classical.byContradiction fun h => h1 h) hp).2
        omega
     intro p hm
     rcases ins_ids _ _ _ hm with e | e
     · rw [e]
       refine ⟨apply_ok (fun hk => ?_) hr hp hc hn (by rw [hend]; omega), ?_⟩
       · obtain ⟨q, hq⟩ := Option.isSome_iff_exists.1 hk
         rw [hq]
         rw [hb]
         exact (hs q (look_id hq).2).1
       · rw [apply_id]
         exact hw.prod
     · exact ⟨(hs p e).1.up (by rw [hend, hb]; omega), (hs p e).2⟩
theorem row_acc {start : Int} {bs : List Bat} (h : RowD start bs) (h0 : 0 ≤ start) (h1 : start ≤ 1099511627776) : AccOk (foldP [] bs) := by
 obtain ⟨ha, hs⟩ := row_states h h0 h1
 exact ⟨fun p hp => (hs p hp).1.right, fun p hp => (hs p hp).2, ha⟩
end Go.SnapMath
namespace Go.SnapMath
open Go.ProdMath
open Go.BatMath (In64 Bat)
theorem tapply_len (l : List Pd) (b : Bat) : (tapplyD l b).length ≤ l.length + 1 := by
 unfold tapplyD
 split
 · omega
 · split
   · rw [List.length_set]; omega
   · rw [List.length_append, List.length_cons, List.length_take, List.length_drop]
     have := atD_le l b.prod
     omega
theorem fold_len : ∀ (bs : List Bat) (l : List Pd), (foldP l bs).length ≤ l.length + bs.length
 | [], l => Nat.le_refl _
 | b :: bs, l => by
   have h1 := fold_len bs (tapplyD l b)
   have h2 := tapply_len l b
   show (foldP (tapplyD l b) bs).length ≤ _
   rw [List.length_cons]
   omega
end Go.SnapMath
namespace Go.Proofs.YtgohekjkbgfeeaaGreat
open Go.RowKit
open Go.SnapMath
open Go.ProdMath
open Go.BatMath hiding AllB take_all
set_option linter.unusedVariables false

def FoldDoes (T : World → Addr → List Pd → Prop) (w : World) (l : List Pd) (e : Ending) (w' : World) : Prop := ∃ a, e = .returned (.pointer (some a)) ∧ T w' a l ∧ Below w.heap.size w w'
/-- The code's table and its snapshots, as the walks over law 12 use them; T says what a table holds. -/
structure SnapCode (T : World → Addr → List Pd → Prop) : Prop where
 keep : ∀ W W' a l, T W a l → Below W.heap.size W W' → T W' a l
 all : ∀ W a l, T W a l → (∀ p ∈ l, p.last.length ≤ 5) → l.length ≤ 1000000 → Calls Tryz.prog 23 #[.pointer (some a)] W (AllDoes W l)
 fold : ∀ W ad len cap ms, BatsAt W ad len cap ms → len ≤ 5000 → BatsOk (bats ms) → Calls Tryz.prog 18 #[.slice ad len cap] W (FoldDoes T W (foldP [] (bats ms)))
 bytes : ∀ W a l n, T W a l → AccOk l → l.length ≤ 5000 → 0 ≤ n → n ≤ 1099511627776 → Calls Tryz.prog 20 #[.pointer (some a), .int .i64 n] W (GivesMade W (snapS l n))
 read : ∀ W ad len cap bs, Byt W ad len cap bs → bs.length ≤ 1048600 → Calls Tryz.prog 19 #[.slice ad len cap] W (ReadDoes T W bs)
theorem snap_size {l : List Pd} {n : Int} (h : AccOk l) (hl : l.length ≤ 5000) (hn : In64 n) : (snapS l n).length ≤ 1048600 := by
 have h1 := pdsS_len (l := l) h.pdIn (fun p hp => h.few p hp)
 have h2 := (encL hn).2
 have h3 := (encL (in_nat (n := l.length) (by omega))).2
 unfold snapS bodyS
 rw [CrcMath.length_sealB, List.length_append, List.length_append]
 omega
set_option maxRecDepth 100000 in
set_option maxHeartbeats 4000000 in
theorem snSame_any {T : World → Addr → List Pd → Prop} (C : SnapCode T) (w : World) (ad : Option Addr) (len cap : Nat) (ms : List BM) (h : BatsAt w ad len cap ms) (hL : len ≤ 5000) (hok : BatsOk (bats ms)) {start : Int} (hrow : RowD start (bats ms)) (hs0 : 0 ≤ start) (hs1 : start ≤ 1099511627776) (n : Int) (hn0 : 0 ≤ n) (hn1 : n ≤ 1099511627776) :
 Calls Tryz.prog 9 #[.slice ad len cap, .int .i64 n] w (GivesBool w true) := by
 have H := Lib.hid h
 have HC := Lib.hid C
 have HOK := Lib.hid hok
 have HACC := Lib.hid (row_acc hrow hs0 hs1)
 have hn64 : In64 n := ⟨by omega, by omega⟩
 have hfl : (foldP [] (bats ms)).length ≤ 5000 := by
  have h1 := fold_len (bats ms) []
  have h2 : (bats ms).length = len := by unfold bats; rw [List.length_map]; exact h.row.length
  rw [h2, List.length_nil] at h1
  omega
 have HFL : Hid ((foldP [] (bats ms)).length ≤ 5000) := hfl
 obtain ⟨l, hl⟩ : ∃ l, foldP [] (bats ms) = l := ⟨_, rfl⟩
 rw [hl] at HACC HFL
 have HE := Lib.hid hl
 have HN64 := Lib.hid hn64
 clear h C hok hrow hs0 hs1 hfl hl hn64
 go_enter Tryz.func9, Tryz.ntmps9
 go_wp2_with fail
 refine (HC.out.fold w ad len cap ms H.out hL HOK.out).mono ?_
 rintro e w1 ⟨a, rfl, ht, hb1⟩
 rw [HE.out] at ht
 have HT1 := Lib.hid ht
 have HB1 := Lib.hid hb1
 have H1 := Lib.hid (H.out.keep hb1)
 clear ht hb1
 go_wp2_with fail
 refine (fold_any w1 ad len cap ms H1.out (by omega) HOK.out).mono ?_
 rintro e w2 ⟨kt, tad, tlen, tcap, ps, dd, dn, dc, rfl, htab, hps, _, _, hb2⟩
 rw [HE.out] at hps
 have HTAB := Lib.hid htab
 have HPS := Lib.hid hps
 have HT2 := Lib.hid (HC.out.keep _ _ _ _ HT1.out hb2)
 have HB2 := Lib.hid (HB1.out.trans (hb2.mono HB1.out.size))
 clear htab hps hb2 HT1 HB1 H1
 have t0 := HTAB.out.tab.box.c0
 go_wp2_with fail
 refine (snBytes_any w2 tad tlen tcap ps HTAB.out.tab.pds (by rw [HPS.out]; exact ⟨Nat.le_trans HFL.out (by omega), HACC.out.pdIn⟩) (by rw [HPS.out]; exact HACC.out.few) n HN64.out).mono ?_
 rintro e w3 ⟨v, rfl, g, cg, rfl, hcg, hg, hpre, hb3⟩
 rw [HPS.out] at hpre hcg ⊢
 obtain ⟨bs, hbs⟩ : ∃ bs, bs = snapS l n := ⟨_, rfl⟩
 rw [← hbs] at hpre hcg ⊢
 have hall : CrcMath.sealB (bodyS l n) = bs := hbs.symm
 have HY : Hid (Byt w3 (some ⟨g, 0, none⟩) bs.length cg bs) := hpre.byt (by rw [← hall]; exact CrcMath.sealB_all (bodyS_all ⟨Nat.le_trans HFL.out (by omega), HACC.out.pdIn⟩ HN64.out)) cg hcg
 have HBS := Lib.hid hbs
 have HBL : Hid (bs.length ≤ 1048600) := by show _ ≤ _; rw [hbs]; exact snap_size HACC.out HFL.out HN64.out
 have HT3 := Lib.hid (HC.out.keep _ _ _ _ HT2.out hb3)
 have HB3 := Lib.hid (HB2.out.trans (hb3.mono HB2.out.size))
 clear hpre hcg hg hbs hall hb3 HT2 HB2 t0
 obtain ⟨L, hLL⟩ : ∃ L, L = bs.length := ⟨_, rfl⟩
 rw [← hLL] at HY ⊢
 have HLL := Lib.hid hLL
 clear hLL
 obtain ⟨s2, hs2⟩ : ∃ s, s = str bs := ⟨_, rfl⟩
 have HS2 := Lib.hid hs2
 have KS : Hid (∀ V, Below w3.heap.size w3 V → (fun (V : World) => (convert 31 9 (.slice (some ⟨g, 0, none⟩) L cg)).run Tryz.prog V = .ok (.string s2) V) V) := fun V hV => run_str_at (HY.out.keep hV (Nat.le_refl _)) HS2.out
 have hse : (s2.toList == s2.toList) = true := by rw [hs2]; exact str_same _
 have hdrw : Below w3.heap.size w3 w3.drew := (Below.refl _ w3).drew
 clear hs2
 go_upto_region 4 with fail
 refine wp_region_noPanic ?_
 refine wp_region_z [] (fun (V : World) => (convert 31 9 (.slice (some ⟨g, 0, none⟩) L cg)).run Tryz.prog V = .ok (.string s2) V) (by kernel_rfl) ?_
 have hHeld := KS.out _ hdrw
 obtain ⟨u0, hu⟩ : ∃ u, u = w3.drew := ⟨_, rfl⟩
 rw [← hu] at hHeld hdrw
 rw [← hu]
 clear hu
 have HU := Lib.hid hdrw
 clear hdrw
 refine zt 0 ?_
 refine zt 1 ?_
 refine zt 2 ?_
 refine zt 3 ?_
 refine zt 4 ?_
 refine zt 7 ?_
 refine zt 8 ?_
 refine zr 5 (fun C hC => ?_)
 go_simp
 refine (HC.out.bytes u0 a l n (HC.out.keep _ _ _ _ HT3.out HU.out) HACC.out HFL.out hn0 hn1).mono ?_
 rintro e u1 ⟨v5, rfl, g5, c5, rfl, hc5, hg5, hp5, hb⟩
 rw [← HBS.out] at hp5 hc5 ⊢
 have hcv := run_str_at (hp5.byt HY.out.all c5 hc5) HS2.out
 rw [← HLL.out] at hcv ⊢
 replace HU := Lib.hid (HU.out.trans (hb.mono HU.out.size))
 clear hb hp5 hg5 hc5
 have hHeld := KS.out _ HU.out
 refine zc hC hHeld ?_
 clear hC C
 refine zr 6 (fun C hC => ?_)
 go_simp
 have hHeld := KS.out _ HU.out
 refine zc hC hHeld ?_
 clear hC C
 clear hcv
 refine zt 9 ?_
 refine zt 10 ?_
 refine zt 11 ?_
 refine zt 12 ?_
 refine zr 13 (fun C hC => ?_)
 go_simp
 refine (snReads_any T HC.out.keep HC.out.all u1 (some ⟨g, 0, none⟩) L cg bs (HY.out.keep HU.out (Nat.le_refl _)) HBL.out (HC.out.read u1 _ _ _ _ (HY.out.keep HU.out (Nat.le_refl _)) HBL.out)).mono ?_
 rintro e u2 ⟨rfl, hb⟩
 replace HU := Lib.hid (HU.out.trans (hb.mono HU.out.size))
 clear hb
 have hHeld := KS.out _ HU.out
 refine zc hC hHeld ?_
 clear hC C
 refine zt 14 ?_
 refine zt 15 ?_
 refine wpAnyZ_done (by kernel_rfl) ?_ _
 refine NoPanic.normal ?_
 clear hHeld KS
 go_wp2
 go_ret
 exact ⟨rfl, HB3.out.trans (HU.out.mono HB3.out.size)⟩
end Go.Proofs.YtgohekjkbgfeeaaGreat
namespace Go.CrcMath
end Go.CrcMath
namespace Go.SnapMath
open Go.BatMath (In64)
theorem IsSnap.ok {bs : List Nat} {l : List Go.ProdMath.Pd} {n : Int} (h : IsSnap bs l n) (hL : bs.length ≤ 1048600) : CrcMath.okB bs = true := by
 obtain ⟨ha, hn, e⟩ := h
 have h4 := snap_few (n := n) ha
 rw [← e] at h4
 rw [e]
 exact CrcMath.okB_seal (bodyS_all ⟨by omega, ha.pdIn⟩ ⟨by omega, by omega⟩)
theorem snap_short {bs : List Nat} (h : bs.length < 4) : ∀ l n, ¬ IsSnap bs l n := fun l n hs => by
 have := hs.ok (by omega)
 rw [CrcMath.okB_short h] at this
 cases this
end Go.SnapMath
namespace Go.Proofs.YtgohekjkbgfeeaaGreat
open Go.RowKit
open Go.SnapMath
open Go.ProdMath
open Go.BatMath hiding AllB take_all
set_option linter.unusedVariables false

def RowDoes (w : World) (start : Int) (most : Nat) (e : Ending) (w' : World) : Prop :=
 ∃ ad len cap ms, e = .returned (.slice ad len cap) ∧ BatsAt w' ad len cap ms ∧ BatsOk (bats ms) ∧ RowD start (bats ms) ∧ len ≤ most ∧ Below w.heap.size w w'
theorem snap_long (l : List Pd) {n : Int} (hn : In64 n) (hl : l.length ≤ 5000) : 6 ≤ (snapS l n).length := by
 have h2 := (encL hn).1
 have h3 := (encL (in_nat (n := l.length) (by omega))).1
 unfold snapS bodyS
 rw [CrcMath.length_sealB, List.length_append, List.length_append]
 omega
end Go.Proofs.YtgohekjkbgfeeaaGreat
namespace Go.Proofs.YtgohekjkbgfeeaaGreat
open Go.RowKit
open Go.SnapMath
open Go.VarMath (encN)
open Go.BatMath hiding AllB take_all
set_option linter.unusedVariables false

def encsI : List Int → List Nat
 | [] => []
 | n :: l => encN n ++ encsI l
theorem encsI_app : ∀ (a b : List Int), encsI (a ++ b) = encsI a ++ encsI b
 | [], b => rfl
 | n :: a, b => by
   show encN n ++ encsI (a ++ b) = encN n ++ encsI a ++ encsI b
   rw [encsI_app a b, List.append_assoc]
theorem encsI_take {l : List Int} {j : Nat} {n : Int} (h : l[j]? = some n) : encsI (l.take (j + 1)) = encsI (l.take j) ++ encN n := by
 rw [List.take_add_one, h]
 show encsI (l.take j ++ [n]) = _
 rw [encsI_app]
 show _ ++ (encN n ++ []) = _
 rw [List.append_nil]
theorem encsI_len : ∀ {l : List Int} (h : ∀ n ∈ l, In64 n), (encsI l).length ≤ 10 * l.length
 | [], _ => Nat.zero_le _
 | n :: l, h => by
   have h1 := (encL (h n (by simp))).2
   have h2 := encsI_len (l := l) fun y hy => h y (by simp [hy])
   show (encN n ++ encsI l).length ≤ _
   rw [List.length_append, List.length_cons]
   omega
theorem grow_more {w w1 w2 : World} {r r2 : Option Nat} (h : w.grownBy w1 r) (h2 : w1.grownBy w2 r2) (hr : ∀ k, r2 = some k → r = some k ∨ w.heap.size ≤ k) : w.grownBy w2 r := by
 refine ⟨h2.os.trans h.os, h2.tape.trans h.tape, h2.output.trans h.output, Nat.le_trans h.size h2.size, fun k hk hn => (h2.block k (Nat.lt_of_lt_of_le hk h.size) (fun e => ?_)).trans (h.block k hk hn)⟩
 rcases hr k e.symm with h3 | h3
 · exact hn h3.symm
 · omega
section
variable {α : Type} {K : Kind α} {bytes : Nat}
theorem Appended.refl {w : World} {base : Nat} {v : Value} {l : List α} (h : OwnRow K w base v l) : Appended K w base v l v w := ⟨h, grow_refl _ _, fun h => h, fun k hk => .inl hk⟩
theorem Appended.trans {w w1 w2 w3 : World} {base : Nat} {v v1 v2 : Value} {l1 l2 : List α} (h : Appended K w base v l1 v1 w1) (hb : Below w1.heap.size w1 w2) (h2 : Appended K w2 base v1 l2 v2 w3) : Appended K w base v l2 v2 w3 := by
 refine ⟨h2.1, grow_more (grow_below h.2.1 hb) h2.2.1 h.2.2.2, fun hv => h2.2.2.1 (h.2.2.1 hv), fun k hk => ?_⟩
 rcases h2.2.2.2 k hk with h3 | h3
 · exact h.2.2.2 k h3
 · exact .inr (Nat.le_trans (Nat.le_trans h.2.1.size hb.size) h3)
end
def GivesNums (w : World) (base : Nat) (v : Value) (bs : List Nat) (e : Ending) (w' : World) : Prop := ∃ v', e = .returned v' ∧ Appended byteK w base v bs v' w'
set_option maxRecDepth 100000 in
set_option maxHeartbeats 4000000 in
theorem snNums_any (w : World) (base : Nat) (v : Value) (bs : List Nat) (hv : OwnRow byteK w base v bs) (hbase : base ≤ w.heap.size) (hL : bs.length ≤ 50000000000) (ad : Option Addr) (n cap : Nat) (ns : List Int) (h : RowAt idK w ad n cap ns) (ha : ∀ a, ad = some a → some a.block ≠ v.ownBlock) (hn : n ≤ 100) (hin : ∀ x ∈ ns, In64 x) :
 Calls Tryz.prog 42 #[v, .slice ad n cap] w (GivesNums w base v (bs ++ encsI ns)) := by
 have H := Lib.hid h
 have HA := Lib.hid ha
 have HIN := Lib.hid hin
 have HV := Lib.hid hv
 have HL := Lib.hid hL
 have HB := Lib.hid hbase
 have HNL := Lib.hid h.length
 clear h ha hin hv hL hbase
 go_enter Tryz.func42, Tryz.ntmps42
 go_wp2
 go_loopw [0, 9] (fun v0 v9 wr => ∃ (j : Nat) (u : Value), u = v0 ∧ v9 = .int .i64 (j : Int) ∧ j ≤ n ∧ Hid (Appended byteK w base v (bs ++ encsI (ns.take j)) u wr)) (fun _ v9 _ => n - (intOf v9).toNat)
 case atStart =>
  refine ⟨0, v, rfl, rfl, Nat.zero_le _, ?_⟩
  show Appended _ _ _ _ _ _ _
  rw [List.take_zero]
  show Appended byteK w base v (bs ++ []) v w
  rw [List.append_nil]
  exact Appended.refl HV.out
 case round =>
  obtain ⟨j, u, rfl, rfl, hj, HAP⟩ := hrel
  obtain ⟨wo, hwo⟩ : ∃ wo : World, wo = wr := ⟨_, rfl⟩
  subst hwo
  by_cases hlt : j < n
  · have hd : decide (j < n) = true := decide_eq_true hlt
    have hjl : (j : Int) < (n : Int) := by omega
    obtain ⟨bk, off, x, rfl, hbk, hx, hc⟩ := (H.out.grown HAP.out.2.1 HA.out).get hlt
    have c0 : wo.cell? ⟨bk, off + j, none⟩ = some (.int .i64 x) := by
     have h1 := hc 0 _ rfl
     rwa [show off + (j * idK.size + 0) = off + j by show off + (j * 1 + 0) = _; omega] at h1
    have HX : Hid (encsI (ns.take (j + 1)) = encsI (ns.take j) ++ encN x) := encsI_take hx
    have HXI : Hid (In64 x) := HIN.out x (List.mem_of_getElem? hx)
    have HTL : Hid ((encsI (ns.take j)).length ≤ 1000) := by
     show _ ≤ _
     have h1 := encsI_len (l := ns.take j) fun y hy => HIN.out y (List.mem_of_mem_take hy)
     rw [List.length_take] at h1
     have := HNL.out
     omega
    clear hc hx hbk
    go_wp2_with fail
    refine (put_any wo none 0 0 [] x ⟨Byt.nil wo, fun _ => rfl⟩ (by omega) HXI.out.1 HXI.out.2).mono ?_
    rintro e w2 ⟨g, cp, rfl, hown, hb2⟩
    rw [List.nil_append] at hown ⊢
    obtain ⟨la, hla⟩ : ∃ la, (encN x).length = la := ⟨_, rfl⟩
    have hl10 := (encL HXI.out).2
    have HROW : Hid (RowAt byteK w2 (some ⟨g, 0, none⟩) la cp (encN x)) := by
     have h1 : OwnRow byteK w2 wo.heap.size (.slice (some ⟨g, 0, none⟩) (encN x).length cp) (encN x) := own_bytes.2 hown
     obtain ⟨ad2, cap2, e, hr, _⟩ := OwnRow.row byteK_ok h1 hla
     rw [hla] at e
     cases e
     exact hr
    rw [hla]
    have HB2 := Lib.hid hb2
    have HLA := Lib.hid hla
    rw [hla] at hl10
    clear hown hb2 hla
    go_wp2_with (at_builtin; refine list_row (by rfl) byteK_ok (.tmp 13) (.tmp 15) rfl base (bs ++ encsI (ns.take j)) (encN x) u rfl (HAP.out.1.on HB2.out) (Nat.le_trans HB.out (Nat.le_trans HAP.out.2.1.size HB2.out.size)) (some ⟨g, 0, none⟩) la cp rfl HROW.out (by have := HL.out; have := HTL.out; rw [List.length_append]; omega) ?_)
    intro v7 w7 hap
    have HAP7 : Hid (Appended byteK w base v (bs ++ encsI (ns.take (j + 1))) v7 w7) := by
     have h1 := HAP.out.trans HB2.out hap
     first | rw [List.append_assoc] at h1 | skip
     rw [← HX.out] at h1
     exact h1
    clear hap HAP HROW
    go_wp2
    go_roundw
    case rel => exact ⟨j + 1, v7, rfl, rfl, by omega, HAP7.out⟩
    case measure => simp [intOf]; omega
  · have hd : decide (j < n) = false := decide_eq_false hlt
    have hjn : j = n := by omega
    have HFIN : Hid (Appended byteK w base v (bs ++ encsI ns) u wo) := by
     have h1 := HAP.out
     rw [hjn, List.take_of_length_le (by rw [HNL.out]; exact Nat.le_refl _)] at h1
     exact h1
    clear hjn
    go_wp2
    go_ret
    exact ⟨_, rfl, HFIN.out⟩
end Go.Proofs.YtgohekjkbgfeeaaGreat
namespace Go.Proofs.YtgohekjkbgfeeaaGreat
open Go.RowKit
open Go.SeqMath
open Go.ProdMath
open Go.SnapMath
open Go.VarMath (encN)
open Go.BatMath hiding AllB take_all
set_option linter.unusedVariables false

theorem pdS_encsI (p : Pd) : pdS p = encsI [p.id, p.epoch, p.opn, (p.last.length : Int)] ++ trsS p.last := by
 unfold pdS
 simp only [encsI, List.append_assoc, List.append_nil]
theorem trS_encs (x : Tr) : trS x = encsI [x.f, x.l, x.b] := by
 unfold trS
 simp only [encsI, List.append_nil]
theorem body_encs (l : List Pd) (n : Int) : bodyS l n = encsI [n, (l.length : Int)] ++ pdsS l := by
 unfold bodyS
 simp only [encsI, List.append_assoc, List.append_nil]
theorem TBox.row {w : World} {k : Nat} {x : Tr} (h : TBox w k x) : RowAt idK w (some ⟨k, 0, none⟩) 3 3 [x.f, x.l, x.b] := by
 refine ⟨rfl, Nat.le_refl _, (fun e => by cases e), .inr ⟨k, 0, rfl, lt_of_block h, fun i y hi j u hj => ?_⟩⟩
 have hj0 : j = 0 := by
  have := (List.getElem?_eq_some_iff.1 hj).1
  simp [idK] at this
  omega
 subst hj0
 simp [idK] at hj
 subst hj
 match i, hi with
 | 0, hi => cases hi; exact h.c0
 | 1, hi => cases hi; exact h.c1
 | 2, hi => cases hi; exact h.c2
theorem own_ne {α : Type} {K : Kind α} {w : World} {base P : Nat} {v : Value} {l : List α} (h : OwnRow K w base v l) (hP : w.heap.size ≤ P) : ∀ k, v.ownBlock = some k → k ≠ P := fun k hk e => by
 have := (h.lt k hk).2
 omega
theorem app_ne {α : Type} {K : Kind α} {w w' : World} {base P : Nat} {v v' : Value} {l : List α} (h : Appended K w base v l v' w') (hP : P < w.heap.size) (hv : ∀ k, v.ownBlock = some k → k ≠ P) : ∀ k, v'.ownBlock = some k → k ≠ P := fun k hk => by
 rcases h.2.2.2 k hk with h3 | h3
 · exact hv k h3
 · omega
set_option maxRecDepth 100000 in
set_option maxHeartbeats 8000000 in
theorem snWrite_any (w : World) (kt km : Nat) (ms : List PM) (h : TcOk w kt km ms) (hac : AccOk (pds ms)) (hL : ms.length ≤ 100000) (n : Int) (hn : In64 n) :
 Calls Tryz.prog 20 #[.pointer (some ⟨kt, 0, none⟩), .int .i64 n] w (GivesMade w (snapS (pds ms) n)) := by
 have CA := Lib.hid (tcAll_any w kt km ms h hac.asc hac.few (Nat.le_trans hL (by decide)))
 obtain ⟨l, hl⟩ : ∃ l, l = pds ms := ⟨_, rfl⟩
 have hll0 : l.length ≤ 100000 := by rw [hl]; unfold pds; rw [List.length_map]; exact hL
 rw [← hl] at CA hac ⊢
 have HIN := Lib.hid hac.pdIn
 have HF : Hid (fewP l) := hac.few
 clear h hL hac hl
 go_enter Tryz.func20, Tryz.ntmps20
 go_wp2_with fail
 refine CA.out.mono ?_
 rintro e w1 ⟨lad, len, lcap, os, rfl, hp, hpd, hb1⟩
 have hlo : os.length = len := hp.row.length
 have hll : l.length = len := by rw [← hpd]; unfold pds; rw [List.length_map]; exact hlo
 have HGET : Hid (∀ (i : Nat) m, os[i]? = some m → l[i]? = some m.p) := by
  intro i m hm
  rw [← hpd]; unfold pds
  rw [List.getElem?_map, hm]; rfl
 have H := Lib.hid hp
 have HB1 := Lib.hid hb1
 have HLL := Lib.hid hll
 have hL6 : len ≤ 100000 := by rw [← hll]; exact hll0
 have HTK : Hid (∀ j, (pdsS (l.take j)).length ≤ 19000000) := fun j => by
  have h1 := pdsS_len (l := l.take j) (fun p hp => HIN.out p (List.mem_of_mem_take hp)) (fun p hp => HF.out p (List.mem_of_mem_take hp))
  rw [List.length_take] at h1
  omega
 have HHD : Hid ((encsI [n, (len : Int)]).length ≤ 20) := by
  show _ ≤ _
  have h1 := encsI_len (l := [n, (len : Int)]) (fun x hx => by
   simp only [List.mem_cons, List.not_mem_nil, or_false] at hx
   rcases hx with rfl | rfl
   · exact hn
   · exact in_nat (by omega))
  simpa using h1
 have hIN2 : ∀ x ∈ [n, (len : Int)], In64 x := fun x hx => by
  simp only [List.mem_cons, List.not_mem_nil, or_false] at hx
  rcases hx with rfl | rfl
  · exact hn
  · exact in_nat (by omega)
 have HIN2 := Lib.hid hIN2
 clear hp hpd hb1 hlo hll hll0 CA hIN2
 go_wp2_with fail
 obtain ⟨W2, hW2⟩ : ∃ z, z = w1.alloc (.cells #[.int .i64 n, .int .i64 (len : Int)] 2) := ⟨_, rfl⟩
 have hr2 : RowAt idK W2 (some ⟨w1.heap.size, 0, none⟩) 2 2 [n, (len : Int)] := by rw [hW2]; exact rowAt_lit idK_ok w1 [n, (len : Int)] (by simp) _ rfl 2 rfl
 have hb2 : Below w1.heap.size w1 W2 := by rw [hW2]; exact (Below.refl _ _).alloc (Nat.le_refl _) _
 rw [← hW2]
 clear hW2
 refine (snNums_any W2 w1.heap.size (.slice none 0 0) [] (ownRow_nil _ _ _) hb2.size (by simp) _ 2 2 _ hr2 (fun a _ e => by cases e) (by omega) HIN2.out).mono ?_
 rintro e w3 ⟨v, rfl, hap⟩
 rw [List.nil_append] at hap
 have HO3 : Hid (OwnRow byteK w3 w1.heap.size v (encsI [n, (len : Int)] ++ pdsS (l.take 0))) := by
  have h1 := hap.1
  show OwnRow _ _ _ _ (_ ++ [])
  rw [List.append_nil]
  exact h1
 have HB3 : Hid (Below w1.heap.size w1 w3) := appended_below hap (ownRow_nil byteK W2 w1.heap.size) hb2 (Nat.le_refl _) hb2.size
 clear hap hr2 hb2 HIN2
 go_wp2
 go_loopw [6, 22] (fun v6 v22 wr => ∃ (j : Nat) (u : Value), u = v6 ∧ v22 = .int .i64 (j : Int) ∧ j ≤ len ∧ Hid (OwnRow byteK wr w1.heap.size u (encsI [n, (len : Int)] ++ pdsS (l.take j))) ∧ Hid (Below w1.heap.size w1 wr)) (fun _ v22 _ => len - (intOf v22).toNat)
 case atStart => exact ⟨0, v, rfl, rfl, Nat.zero_le _, HO3.out, HB3.out⟩
 case round =>
  obtain ⟨j, u, rfl, rfl, hj, HO, HB⟩ := hrel
  clear HO3 HB3
  obtain ⟨wo, hwo⟩ : ∃ wo : World, wo = wr := ⟨_, rfl⟩
  subst hwo
  by_cases hlt : j < len
  · have hd : decide (j < len) = true := decide_eq_true hlt
    have hjl : (j : Int) < (len : Int) := by omega
    obtain ⟨bk, off, m, rfl, hbk, hm, hla, c0, c1, c2, c3⟩ := (H.out.keep HB.out).get hlt
    have hlm := HGET.out j m hm
    have hpin := HIN.out m.p (List.mem_of_getElem? hlm)
    have hp5 := HF.out m.p (List.mem_of_getElem? hlm)
    have HPT := Lib.hid (pdsS_take hlm)
    have hla1 := (H.out.ins m (List.mem_of_getElem? hm))
    obtain ⟨⟨pid, pep, pl, po⟩, pd, pc⟩ := m
    simp only at c0 c1 c2 c3 hp5 HPT
    obtain ⟨i1, i2, i3, i4, i5⟩ := hpin
    simp only at i1 i2 i3 i4 i5
    obtain ⟨pn, hpn⟩ : ∃ q, q = pl.length := ⟨_, rfl⟩
    have hlb : RowAt trK w1 pd pl.length pc pl := hla1
    rw [← hpn] at c2 hp5 hlb i4
    have HPN := Lib.hid hpn
    have HLA := Lib.hid hlb
    have HIT := Lib.hid i5
    obtain ⟨X, hX⟩ : ∃ X, X = encsI [n, (len : Int)] ++ pdsS (l.take j) := ⟨_, rfl⟩
    rw [← hX] at HO
    have HXL : Hid (X.length ≤ 19000020) := by
     show _ ≤ _
     have h1 := HHD.out
     have h2 := HTK.out j
     rw [hX, List.length_append]
     omega
    have HXE : Hid (encsI [n, (len : Int)] ++ pdsS (l.take (j + 1)) = X ++ encsI [pid, pep, po, (pn : Int)] ++ trsS pl) := by
     show _ = _
     rw [HPT.out, hX, pdS_encsI]
     show _ ++ (_ ++ (encsI [pid, pep, po, (pl.length : Int)] ++ trsS pl)) = _
     rw [← hpn]
     simp only [List.append_assoc]
    have HI4 : Hid (∀ x ∈ [pid, pep, po, (pn : Int)], In64 x) := fun x hx => by
     simp only [List.mem_cons, List.not_mem_nil, or_false] at hx
     rcases hx with rfl | rfl | rfl | rfl
     · exact i1
     · exact i2
     · exact i3
     · exact in_nat i4
    clear hm hla hla1 hlm hlb hbk hpn i5 hX HPT i1 i2 i3
    go_upto_region 8 with fail
    obtain ⟨W1, hW1⟩ : ∃ z, z = wo.alloc (.cells #[.int .i64 pid, .int .i64 pep, .slice pd pn pc, .int .i64 po] 78) := ⟨_, rfl⟩
    obtain ⟨P, hP⟩ : ∃ P, P = wo.heap.size := ⟨_, rfl⟩
    have hb : Below wo.heap.size wo W1 := by rw [hW1]; exact (Below.refl _ _).alloc (Nat.le_refl _) _
    have HP : Hid (PBox W1 P pid pep (.slice pd pn pc) po) := by show PBox _ _ _ _ _ _; rw [hW1, hP]; exact pbox_new wo _ _ _ _
    have HNE : Hid (∀ k, u.ownBlock = some k → k ≠ P) := own_ne HO.out (by rw [hP]; exact Nat.le_refl _)
    replace HO := Lib.hid (HO.out.on hb)
    replace HB := Lib.hid (HB.out.trans (hb.mono HB.out.size))
    rw [← hW1, ← hP]
    clear hW1 hP hb c0 c1 c2 c3
    have p0 := HP.out.c0
    have p1 := HP.out.c1
    have p2 := HP.out.c2
    have p3 := HP.out.c3
    go_wp2_with fail
    obtain ⟨W2, hW2⟩ : ∃ z, z = W1.alloc (.cells #[.int .i64 pid, .int .i64 pep, .int .i64 po, .int .i64 (pn : Int)] 2) := ⟨_, rfl⟩
    obtain ⟨g2, hg2⟩ : ∃ z, z = W1.heap.size := ⟨_, rfl⟩
    have hr2 : RowAt idK W2 (some ⟨g2, 0, none⟩) 4 4 [pid, pep, po, (pn : Int)] := by rw [hW2, hg2]; exact rowAt_lit idK_ok W1 [pid, pep, po, (pn : Int)] (by simp) _ rfl 4 rfl
    have hb2 : Below W1.heap.size W1 W2 := by rw [hW2]; exact (Below.refl _ _).alloc (Nat.le_refl _) _
    have hne2 := own_ne HO.out (Nat.le_of_eq hg2.symm)
    have HB2 := Lib.hid (HB.out.trans (hb2.mono HB.out.size))
    rw [← hW2, ← hg2]
    clear hW2 hg2
    refine (snNums_any W2 w1.heap.size u X (HO.out.on hb2) HB2.out.size (by have := HXL.out; omega) _ 4 4 _ hr2 (fun a ha e => by cases ha; exact hne2 _ e.symm rfl) (by omega) HI4.out).mono ?_
    rintro e w5 ⟨v5, rfl, hap⟩
    have HP5 : Hid (PBox w5 P pid pep (.slice pd pn pc) po) := (HP.out.on hb2).grown hap.2.1 (fun e => HNE.out P e rfl)
    have HNE5 : Hid (∀ k, v5.ownBlock = some k → k ≠ P) := app_ne hap (Nat.lt_of_lt_of_le HP.out.lt hb2.size) HNE.out
    have HB5 : Hid (Below w1.heap.size w1 w5) := appended_below hap (HO.out.on hb2) HB2.out (Nat.le_refl _) HB2.out.size
    obtain ⟨Y, hY⟩ : ∃ Y, Y = X ++ encsI [pid, pep, po, (pn : Int)] := ⟨_, rfl⟩
    have HYL : Hid (Y.length ≤ 19000060) := by
     show _ ≤ _
     have h1 := encsI_len HI4.out
     have h2 := HXL.out
     simp only [List.length_cons, List.length_nil] at h1
     rw [hY, List.length_append]
     omega
    have HO5 : Hid (OwnRow byteK w5 w1.heap.size v5 (Y ++ trsS (pl.take 0))) := by
     show OwnRow _ _ _ _ (_ ++ [])
     rw [List.append_nil, hY]
     exact hap.1
    have HYE : Hid (encsI [n, (len : Int)] ++ pdsS (l.take (j + 1)) = Y ++ trsS pl) := by
     show _ = _
     rw [hY]
     exact HXE.out
    clear hap hr2 hb2 hne2 HB2 HO HB HP HNE p0 p1 p2 p3 hY HXE HXL HI4
    have q2 := HP5.out.c2
    go_wp2
    go_loopw [6, 41] (fun v6 v41 wr => ∃ (i : Nat) (u : Value), u = v6 ∧ v41 = .int .i64 (i : Int) ∧ i ≤ pn ∧ Hid (OwnRow byteK wr w1.heap.size u (Y ++ trsS (pl.take i))) ∧ Hid (Below w1.heap.size w1 wr)) (fun _ v41 _ => pn - (intOf v41).toNat)
    case atStart => exact ⟨0, v5, rfl, rfl, Nat.zero_le _, HO5.out, HB5.out⟩
    case round =>
     obtain ⟨i, u6, rfl, rfl, hi, HO6, HB6⟩ := hrel
     clear HO5 HB5 q2 HP5 HNE5
     obtain ⟨wi, hwi⟩ : ∃ wi : World, wi = wr := ⟨_, rfl⟩
     subst hwi
     by_cases hlt2 : i < pn
     · have hd2 : decide (i < pn) = true := decide_eq_true hlt2
       have hil : (i : Int) < (pn : Int) := by omega
       obtain ⟨b2, o2, x, rfl, hb2k, hx, hc⟩ := (HLA.out.keep HB6.out).get hlt2
       obtain ⟨xf, xl, xb⟩ := x
       have d0 : wi.cell? ⟨b2, o2 + i * 3, none⟩ = some (.int .i64 xf) := hc 0 _ rfl
       have d1 : wi.cell? ⟨b2, o2 + i * 3 + 1, none⟩ = some (.int .i64 xl) := hc 1 _ rfl
       have d2 : wi.cell? ⟨b2, o2 + i * 3 + 2, none⟩ = some (.int .i64 xb) := hc 2 _ rfl
       have HXT : Hid (Y ++ trsS (pl.take (i + 1)) = Y ++ trsS (pl.take i) ++ encsI [xf, xl, xb]) := by
        show _ = _
        rw [trsS_take hx, trS_encs, List.append_assoc]
       have HI3 : Hid (∀ y ∈ [xf, xl, xb], In64 y) := fun y hy => by
        have h1 := HIT.out ⟨xf, xl, xb⟩ (List.mem_of_getElem? hx)
        simp only [List.mem_cons, List.not_mem_nil, or_false] at hy
        rcases hy with rfl | rfl | rfl
        · exact h1.1
        · exact h1.2.1
        · exact h1.2.2
       have HTL : Hid ((Y ++ trsS (pl.take i)).length ≤ 20000000) := by
        show _ ≤ _
        have h1 := trsS_len (l := pl.take i) fun y hy => HIT.out y (List.mem_of_mem_take hy)
        have h2 := HYL.out
        rw [List.length_take] at h1
        rw [List.length_append]
        omega
       clear hx hc hb2k
       go_upto_region 12 with fail
       obtain ⟨W6, hW6⟩ : ∃ z, z = wi.alloc (.cells #[.int .i64 xf, .int .i64 xl, .int .i64 xb] 79) := ⟨_, rfl⟩
       obtain ⟨Q, hQ⟩ : ∃ Q, Q = wi.heap.size := ⟨_, rfl⟩
       have hb : Below wi.heap.size wi W6 := by rw [hW6]; exact (Below.refl _ _).alloc (Nat.le_refl _) _
       have HT6 : Hid (RowAt idK W6 (some ⟨Q, 0, none⟩) 3 3 [xf, xl, xb]) := by show RowAt _ _ _ _ _ _; rw [hW6, hQ]; exact (tbox_new wi ⟨xf, xl, xb⟩).row
       have HNE : Hid (∀ k, u6.ownBlock = some k → k ≠ Q) := own_ne HO6.out (by rw [hQ]; exact Nat.le_refl _)
       replace HO6 := Lib.hid (HO6.out.on hb)
       replace HB6 := Lib.hid (HB6.out.trans (hb.mono HB6.out.size))
       rw [← hW6, ← hQ]
       clear hW6 hQ hb d0 d1 d2
       go_wp2_with fail
       refine (snNums_any W6 w1.heap.size u6 _ HO6.out HB6.out.size (by have := HTL.out; omega) _ 3 3 _ HT6.out (fun a ha e => by cases ha; exact HNE.out _ e.symm rfl) (by omega) HI3.out).mono ?_
       rintro e w7 ⟨v7, rfl, hap⟩
       rw [← HXT.out] at hap
       have HB7 : Hid (Below w1.heap.size w1 w7) := appended_below hap HO6.out HB6.out (Nat.le_refl _) HB6.out.size
       have HO7 := Lib.hid hap.1
       clear hap
       go_wp2
       go_roundw
       case rel => exact ⟨i + 1, v7, rfl, rfl, by omega, HO7.out, HB7.out⟩
       case measure => simp [intOf]; omega
     · have hd2 : decide (i < pn) = false := decide_eq_false hlt2
       have hin : i = pn := by omega
       have HO8 : Hid (OwnRow byteK wi w1.heap.size u6 (encsI [n, (len : Int)] ++ pdsS (l.take (j + 1)))) := by
        have h1 := HO6.out
        rw [hin, HPN.out, List.take_length, ← HYE.out] at h1
        exact h1
       clear hin
       go_wp2
       go_roundw
       case rel => exact ⟨j + 1, u6, rfl, rfl, by omega, HO8.out, HB6.out⟩
       case measure => simp [intOf]; omega
  · have hd : decide (j < len) = false := decide_eq_false hlt
    have hjn : j = len := by omega
    have HFIN : Hid (OwnRow byteK wo w1.heap.size u (bodyS l n)) := by
     have h1 := HO.out
     rw [hjn, List.take_of_length_le (by rw [HLL.out]; exact Nat.le_refl _), ← HLL.out, ← body_encs] at h1
     exact h1
    have hAll : CrcMath.AllB (bodyS l n) := bodyS_all ⟨by rw [HLL.out]; omega, HIN.out⟩ hn
    have hbl : (bodyS l n).length ≤ 20000000 := by
     have h1 := HHD.out
     have h2 := HTK.out len
     rw [List.take_of_length_le (by rw [HLL.out]; exact Nat.le_refl _)] at h2
     rw [body_encs, HLL.out, List.length_append]
     omega
    obtain ⟨L, hLe⟩ : ∃ L, (bodyS l n).length = L := ⟨_, rfl⟩
    obtain ⟨ad9, cap9, rfl, hrow9⟩ := own_byt HFIN.out hAll hLe
    rw [hLe] at hbl
    have HROW9 := Lib.hid hrow9
    have HLE := Lib.hid hLe
    have HB9 := Lib.hid (HB1.out.trans (HB.out.mono HB1.out.size))
    clear hjn hAll hLe hrow9 HFIN HO
    go_wp2_with fail
    refine (crcPut_any wo ad9 L cap9 (bodyS l n) HROW9.out.1 (by omega)).mono ?_
    rintro e w9 ⟨g9, rfl, hg9, hown9, hb9⟩
    have HS9 : Hid ((snapS l n).length = L + 4) := by
     show _ = _
     unfold snapS
     rw [CrcMath.length_sealB, HLE.out]
    have HG9 : Hid (w.heap.size ≤ g9) := Nat.le_trans HB9.out.size hg9
    have HOW9 : Hid (Own w9 g9 (snapS l n)) := hown9
    have HBZ := Lib.hid (HB9.out.trans (hb9.mono HB9.out.size))
    clear hg9 hown9 hb9
    go_wp2
    go_ret
    exact ⟨.slice (some ⟨g9, 0, none⟩) (L + 4) (L + 4), rfl, g9, L + 4, by rw [HS9.out], by rw [HS9.out]; exact Nat.le_refl _, HG9.out, HOW9.out.pre, HBZ.out⟩
end Go.Proofs.YtgohekjkbgfeeaaGreat
namespace Go.Proofs.YtgohekjkbgfeeaaGreat
open Go.RowKit
open Go.SnapMath
open Go.ProdMath
open Go.BatMath hiding AllB take_all
set_option linter.unusedVariables false

/-- The table at a holds the states l; its parts are no older than B. -/
def TT (B : Nat) (w : World) (a : Addr) (l : List Pd) : Prop := ∃ kt km ps, a = ⟨kt, 0, none⟩ ∧ TcOk w kt km ps ∧ pds ps = l ∧ B ≤ kt ∧ B ≤ km ∧ Asc l
theorem tt_low {B : Nat} {w : World} {a : Addr} {l : List Pd} (h : TT B w a l) : TT 0 w a l := by
 obtain ⟨kt, km, ps, e, h1, h2, h3, h4, h5⟩ := h
 exact ⟨kt, km, ps, e, h1, h2, Nat.zero_le _, Nat.zero_le _, h5⟩
theorem tt_keep {B : Nat} {w w' : World} {a : Addr} {l : List Pd} (h : TT B w a l) (hb : Below w.heap.size w w') : TT B w' a l := by
 obtain ⟨kt, km, ps, e, h1, h2, h3, h4, h5⟩ := h
 exact ⟨kt, km, ps, e, h1.keep hb, h2, h3, h4, h5⟩
theorem tt_fold (W : World) (ad : Option Addr) (len cap : Nat) (ms : List BM) (h : BatsAt W ad len cap ms) (hL : len ≤ 5000) (hok : BatsOk (bats ms)) : Calls Tryz.prog 18 #[.slice ad len cap] W (FoldDoes (TT W.heap.size) W (foldP [] (bats ms))) := by
 refine (tcFold_any W ad len cap ms h (by omega) hok).mono ?_
 rintro e w' ⟨kt, km, ps, rfl, h1, h2, h3, h4, hb⟩
 exact ⟨_, rfl, ⟨kt, km, ps, rfl, h1, h2, h3, h4, fold_asc _ List.Pairwise.nil⟩, hb⟩
theorem tt_new (W : World) : Calls Tryz.prog 36 #[] W (FoldDoes (TT W.heap.size) W []) := by
 refine (tcNew_any W).mono ?_
 rintro e w' ⟨kt, km, rfl, h1, hb, h3, h4⟩
 exact ⟨_, rfl, ⟨kt, km, [], rfl, h1, rfl, h3, h4, List.Pairwise.nil⟩, hb⟩
theorem fold_low {W : World} {l : List Pd} {e : Ending} {w' : World} (h : FoldDoes (TT W.heap.size) W l e w') : FoldDoes (TT 0) W l e w' := by
 obtain ⟨a, e1, h1, h2⟩ := h
 exact ⟨a, e1, tt_low h1, h2⟩
theorem read_low {W : World} {bs : List Nat} {e : Ending} {w' : World} (h : ReadDoes (TT W.heap.size) W bs e w') : ReadDoes (TT 0) W bs e w' := by
 obtain ⟨hb, h1⟩ := h
 refine ⟨hb, ?_⟩
 rcases h1 with ⟨a, l, n, e1, h2, h3⟩ | h1
 · exact .inl ⟨a, l, n, e1, tt_low h2, h3⟩
 · exact .inr h1
theorem snap_code (hread : ∀ W ad len cap bs, Byt W ad len cap bs → bs.length ≤ 1048600 → Calls Tryz.prog 19 #[.slice ad len cap] W (ReadDoes (TT W.heap.size) W bs)) : SnapCode (TT 0) where
 keep := fun W W' a l h hb => tt_keep h hb
 all := fun W a l h hf hL => by
  obtain ⟨kt, km, ps, rfl, h1, rfl, h3, h4, h5⟩ := h
  refine (tcAll_any W kt km ps h1 h5 hf (by unfold pds at hL; rw [List.length_map] at hL; exact hL)).mono ?_
  rintro e w' ⟨ad, n, cap, os, rfl, h6, h7, hb⟩
  exact ⟨ad, n, cap, os, rfl, h6, h7, hb⟩
 fold := fun W ad len cap ms h hL hok => (tt_fold W ad len cap ms h hL hok).mono fun e w' h => fold_low h
 bytes := fun W a l n h hac hL h0 h1 => by
  obtain ⟨kt, km, ps, rfl, g1, rfl, g3, g4, g5⟩ := h
  exact snWrite_any W kt km ps g1 hac (by unfold pds at hL; rw [List.length_map] at hL; omega) n ⟨by omega, by omega⟩
 read := fun W ad len cap bs h hL => (hread W ad len cap bs h hL).mono fun e w' h => read_low h
end Go.Proofs.YtgohekjkbgfeeaaGreat
namespace Go.Proofs.YtgohekjkbgfeeaaGreat
open Go.RowKit
open Go.SnapMath
open Go.ProdMath
open Go.BatMath hiding AllB take_all
set_option linter.unusedVariables false

/-- crc.Check in one piece. -/
theorem checkS_any (w : World) (ad : Option Addr) (len cap : Nat) (bs : List Nat) (h : Byt w ad len cap bs) (hL : len ≤ 140737488355328) :
 Calls Tryz.prog 39 #[.slice ad len cap] w (GivesUns w bs) := by
 have hall := h.all
 refine (check_any w ad len cap bs h hL).mono ?_
 rintro e w' ⟨h1, h2⟩
 cases hk : CrcMath.okB bs with
 | false =>
   obtain ⟨rfl, hb⟩ := h1 hk
   have ho : openS bs = ([], true) := by unfold openS; rw [hk]; rfl
   unfold GivesUns
   rw [ho]
   exact ⟨none, 0, 0, rfl, Byt.nil _, hb⟩
 | true =>
   obtain ⟨g, m, hm, rfl, hg, hown, hb⟩ := h2 hk
   have ho : openS bs = (bs.drop 4, false) := by unfold openS; rw [hk]; rfl
   have hm2 : (bs.drop 4).length = m := by rw [List.length_drop, h.length]; omega
   have h9 := hown.byt (fun x hx => hall x (List.mem_of_mem_drop hx)) m (by omega)
   rw [hm2] at h9
   unfold GivesUns
   rw [ho]
   exact ⟨_, _, _, rfl, h9, hb⟩
theorem snap_ok0 {bs : List Nat} (h : (openS bs).2 = false) : CrcMath.okB bs = true ∧ (openS bs).1 = bs.drop 4 := by
 unfold openS at *
 cases hk : CrcMath.okB bs with
 | true => exact ⟨rfl, rfl⟩
 | false => rw [hk] at h; cases h
theorem snap_ok1 {bs : List Nat} (h : (openS bs).2 = true) : CrcMath.okB bs = false := by
 unfold openS at h
 cases hk : CrcMath.okB bs with
 | true => rw [hk] at h; cases h
 | false => rfl
set_option maxRecDepth 100000 in
set_option maxHeartbeats 8000000 in
theorem snReadC_any (w : World) (ad : Option Addr) (len cap : Nat) (bs : List Nat) (h : Byt w ad len cap bs) (hL : bs.length ≤ 1048600) :
 Calls Tryz.prog 19 #[.slice ad len cap] w (ReadDoes (TT w.heap.size) w bs) := by
 have H := Lib.hid h
 have HALL := Lib.hid h.all
 have hlen := h.length
 have HLL : Hid (len ≤ 140737488355328) := by show _ ≤ _; omega
 have HL := Lib.hid hL
 clear h hL hlen
 go_enter Tryz.func19, Tryz.ntmps19
 go_wp2_with fail
 refine (checkS_any w ad len cap bs H.out HLL.out).mono ?_
 rintro e w1 ⟨ad1, len1, cap1, rfl, hy1, hb1⟩
 have HY1 := Lib.hid hy1
 have HB1 := Lib.hid hb1
 clear hy1 hb1
 obtain ⟨q, hq⟩ : ∃ q, (openS bs).2 = q := ⟨_, rfl⟩
 rw [hq]
 cases q with
 | true =>
   have HNO := Lib.hid (snap_no HL.out (.inl (snap_ok1 hq)))
   clear hq
   go_wp2
   go_ret3
   exact ⟨HB1.out, .inr ⟨rfl, HNO.out⟩⟩
 | false =>
   obtain ⟨hok, hdr⟩ := snap_ok0 hq
   rw [hdr] at HY1
   have HOK := Lib.hid hok
   obtain ⟨b0, hb0⟩ : ∃ b0, bs.drop 4 = b0 := ⟨_, rfl⟩
   rw [hb0] at HY1
   have HB0 := Lib.hid hb0
   have hb0l : b0.length ≤ 1048600 := by have := HL.out; rw [← hb0, List.length_drop]; omega
   have HB0L := Lib.hid hb0l
   obtain ⟨⟨n, c, g⟩, e1⟩ : ∃ r, rdN b0 false = r := ⟨_, rfl⟩
   have l1 := (rdN_len b0 false).1
   have hin := rdN_in b0 false
   rw [e1] at l1 hin
   simp only at l1 hin
   have HCL : Hid (c.length ≤ 1048600) := Nat.le_trans l1 hb0l
   have HE1 := Lib.hid e1
   have HIN := Lib.hid hin
   clear hq hok hdr hb0 hb0l e1 l1 hin
   go_upto_region 5 with fail
   obtain ⟨W1, hW1⟩ : ∃ z, z = w1.alloc (.cells #[.slice ad1 len1 cap1, .bool false] 96) := ⟨_, rfl⟩
   obtain ⟨k, hk⟩ : ∃ k, k = w1.heap.size := ⟨_, rfl⟩
   have hb2 : Below w1.heap.size w1 W1 := by rw [hW1]; exact (Below.refl _ _).alloc (Nat.le_refl _) _
   have HRD : Hid (KrAt w1 W1 k b0 false) := by
    show KrAt _ _ _ _ _
    refine ⟨by rw [hk]; exact Nat.le_refl _, hb2, ⟨ad1, len1, cap1, by rw [hW1, hk]; exact kbox_new w1 _ _, HY1.out⟩, fun h => by cases h⟩
   have HB2 : Hid (Below w.heap.size w W1) := HB1.out.trans (hb2.mono HB1.out.size)
   have HWK : Hid (w.heap.size ≤ k) := by show _ ≤ _; rw [hk]; exact HB1.out.size
   rw [← hW1, ← hk]
   clear hW1 hk hb2 HB1 HY1
   go_wp2_with fail
   refine (snNext_any w1 W1 k _ _ HRD.out (Nat.le_trans HB0L.out (by omega))).mono ?_
   rintro e W2 ⟨rfl, hr, hg⟩
   rw [HE1.out] at hr ⊢
   have HRD2 := Lib.hid hr
   have HB3 := Lib.hid (HB2.out.trans (below_grown hg HWK.out HB2.out.size))
   clear hr hg HRD HB2
   go_wp2_with fail
   refine (snTable_any w1 W2 k _ _ HRD2.out HCL.out).mono ?_
   rintro e W3 ⟨hg, ⟨kt, km, ps, r, rfl, ht, hkt, hkm, hr, hg0, hts⟩ | ⟨rfl, hno⟩⟩
   · have HB4 := Lib.hid (HB3.out.trans (below_grown hg HWK.out HB3.out.size))
     have HT := Lib.hid ht
     have HKT : Hid (w.heap.size ≤ kt ∧ w.heap.size ≤ km) := by have := HB3.out.size; show _ ∧ _; omega
     have HTS := Lib.hid hts
     subst hg0
     obtain ⟨ra, rn, rc, hkb, hby⟩ := hr.box
     have HRL : Hid (r.length = rn) := hby.length
     have q0 := hkb.c0
     clear hg ht hkt hkm hr hts hkb hby HRD2
     by_cases hn0 : n < 0
     · have hd0 : decide (n < 0) = true := decide_eq_true hn0
       have HNO := Lib.hid (snap_no HL.out (.inr ⟨n, c, false, by rw [HB0.out]; exact HE1.out, .inr (.inl hn0)⟩))
       go_wp2
       go_ret3
       exact ⟨HB4.out, .inr ⟨rfl, HNO.out⟩⟩
     · have hd0 : decide (n < 0) = false := decide_eq_false hn0
       by_cases hn1 : 1099511627776 < n
       · have hd1 : decide (1099511627776 < n) = true := decide_eq_true hn1
         have HNO := Lib.hid (snap_no HL.out (.inr ⟨n, c, false, by rw [HB0.out]; exact HE1.out, .inr (.inr (.inl hn1))⟩))
         go_wp2
         go_ret3
         exact ⟨HB4.out, .inr ⟨rfl, HNO.out⟩⟩
       · have hd1 : decide (1099511627776 < n) = false := decide_eq_false hn1
         by_cases hr0 : 0 < rn
         · have hd2 : decide (0 < rn) = true := decide_eq_true hr0
           have hd2i : decide ((0 : Int) < (rn : Int)) = true := decide_eq_true (by omega)
           have HNO := Lib.hid (snap_no HL.out (.inr ⟨n, c, false, by rw [HB0.out]; exact HE1.out, .inr (.inr (.inr (.inr ⟨_, r, fun e => by have := HRL.out; rw [e] at this; simp at this; omega, HTS.out⟩)))⟩))
           go_wp2
           go_ret3
           exact ⟨HB4.out, .inr ⟨rfl, HNO.out⟩⟩
         · have hd2 : decide (0 < rn) = false := decide_eq_false hr0
           have hd2i : decide ((0 : Int) < (rn : Int)) = false := decide_eq_false (by omega)
           have HRN : Hid (r = []) := by
            show r = []
            exact List.eq_nil_of_length_eq_zero (by have := HRL.out; omega)
           have HYES : Hid (IsSnap bs (pds ps) n) := by
            have h1 := HTS.out
            rw [HRN.out] at h1
            exact tab_snap HALL.out HOK.out (by rw [HB0.out]; exact HE1.out) h1 (by omega) (by omega)
           have HASC : Hid (Asc (pds ps)) := HTS.out.1.asc
           go_wp2
           go_ret3
           exact ⟨HB4.out, .inl ⟨_, pds ps, n, rfl, ⟨kt, km, ps, rfl, HT.out, rfl, HKT.out.1, HKT.out.2, HASC.out⟩, HYES.out⟩⟩
   · have HB4 := Lib.hid (HB3.out.trans (below_grown hg HWK.out HB3.out.size))
     have HNO := Lib.hid (snap_no HL.out (.inr ⟨n, c, g, by rw [HB0.out]; exact HE1.out, by
      rcases hno with h | h
      · exact .inl h
      · exact .inr (.inr (.inr (.inl h)))⟩))
     clear hg hno
     go_wp2
     go_ret3
     exact ⟨HB4.out, .inr ⟨rfl, HNO.out⟩⟩
end Go.Proofs.YtgohekjkbgfeeaaGreat
namespace Go.SnapMath
set_option linter.unusedVariables false
section
variable {α : Type} {k : α → Int}
/-- In the order of their numbers, each number once. -/
def AscK (k : α → Int) (l : List α) : Prop := l.Pairwise fun a b => k a < k b
theorem AscK.nil : AscK k ([] : List α) := List.Pairwise.nil
theorem AscK.tail {a : α} {l : List α} (h : AscK k (a :: l)) : AscK k l := (List.pairwise_cons.1 h).2
theorem AscK.head {a : α} {l : List α} (h : AscK k (a :: l)) : ∀ x ∈ l, k a < k x := (List.pairwise_cons.1 h).1
/-- Two lists in order of the same things are one. -/
theorem AscK.one : ∀ {l l' : List α}, AscK k l → AscK k l' → (∀ x, x ∈ l ↔ x ∈ l') → l = l'
 | [], [], _, _, _ => rfl
 | [], b :: l', _, _, h => by have := (h b).2 (by simp); cases this
 | a :: l, [], _, _, h => by have := (h a).1 (by simp); cases this
 | a :: l, b :: l', h1, h2, h => by
   have e : a = b := by
    rcases List.mem_cons.1 ((h a).1 (by simp)) with e | ha
    · exact e
    · rcases List.mem_cons.1 ((h b).2 (by simp)) with e | hb
      · exact e.symm
      · have c1 := h2.head a ha
        have c2 := h1.head b hb
        omega
   subst e
   refine congrArg (a :: ·) (AscK.one h1.tail h2.tail fun x => ⟨fun hx => ?_, fun hx => ?_⟩)
   · rcases List.mem_cons.1 ((h x).1 (by simp [hx])) with e | hx'
     · subst e; have := h1.head _ hx; omega
     · exact hx'
   · rcases List.mem_cons.1 ((h x).2 (by simp [hx])) with e | hx'
     · subst e; have := h2.head _ hx; omega
     · exact hx'
theorem AscK.at {l : List α} (h : AscK k l) {i j : Nat} {a b : α} (hij : i < j) (ha : l[i]? = some a) (hb : l[j]? = some b) : k a < k b := by
 obtain ⟨hi, e1⟩ := List.getElem?_eq_some_iff.1 ha
 obtain ⟨hj, e2⟩ := List.getElem?_eq_some_iff.1 hb
 have := List.pairwise_iff_getElem.1 h i j hi hj hij
 rw [e1, e2] at this
 exact this
/-- Put in its place. -/
theorem AscK.put {l : List α} (h : AscK k l) {i : Nat} (hi : i ≤ l.length) {s : α} (hge : ∀ j x, i ≤ j → l[j]? = some x → k s < k x) (hlt : i = 0 ∨ ∃ x, l[i - 1]? = some x ∧ k x < k s) : AscK k (l.take i ++ s :: l.drop i) := by
 have h1 : AscK k (l.take i) := List.Pairwise.sublist (List.take_sublist i l) h
 have h2 : AscK k (l.drop i) := List.Pairwise.sublist (List.drop_sublist i l) h
 have hd : ∀ x ∈ l.drop i, k s < k x := fun x hx => by
  obtain ⟨j, hj⟩ := List.mem_iff_getElem?.1 hx
  rw [List.getElem?_drop] at hj
  exact hge _ x (Nat.le_add_right i j) hj
 have ht : ∀ x ∈ l.take i, k x < k s := fun x hx => by
  obtain ⟨j, hj⟩ := List.mem_iff_getElem?.1 hx
  have hjl := (List.getElem?_eq_some_iff.1 hj).1
  rw [List.length_take] at hjl
  rw [List.getElem?_take_of_lt (by omega)] at hj
  rcases hlt with e | ⟨y, hy, hys⟩
  · omega
  · rcases Nat.lt_or_ge j (i - 1) with hji | hji
    · have := h.at hji hj hy
      omega
    · have e : j = i - 1 := by omega
      rw [e, hy] at hj
      cases hj
      exact hys
 refine List.pairwise_append.2 ⟨h1, List.pairwise_cons.2 ⟨hd, h2⟩, fun a ha b hb => ?_⟩
 rcases List.mem_cons.1 hb with e | hb
 · rw [e]; exact ht a ha
 · have c1 := ht a ha
   have c2 := hd b hb
   omega
theorem put_mem (l : List α) (i : Nat) (s x : α) : x ∈ l.take i ++ s :: l.drop i ↔ x = s ∨ x ∈ l := by
 have h : x ∈ l ↔ x ∈ l.take i ∨ x ∈ l.drop i := by rw [← List.mem_append, List.take_append_drop]
 rw [List.mem_append, List.mem_cons, h]
 constructor
 · rintro (h | h | h)
   · exact .inr (.inl h)
   · exact .inl h
   · exact .inr (.inr h)
 · rintro (h | h | h)
   · exact .inr (.inl h)
   · exact .inl h
   · exact .inr (.inr h)
/-- The greatest that is at most e. -/
def BestK (k : α → Int) (l : List α) (e : Int) : Option α → Prop
 | none => ∀ x ∈ l, e < k x
 | some a => a ∈ l ∧ k a ≤ e ∧ ∀ x ∈ l, k x ≤ e → k x ≤ k a
theorem BestK.one {l : List α} {e : Int} {a b : Option α} (hinj : ∀ x ∈ l, ∀ y ∈ l, k x = k y → x = y) (ha : BestK k l e a) (hb : BestK k l e b) : a = b := by
 cases a with
 | none =>
   cases b with
   | none => rfl
   | some b =>
     obtain ⟨h1, h2, _⟩ := hb
     have := ha b h1
     omega
 | some a =>
   cases b with
   | none =>
     obtain ⟨h1, h2, _⟩ := ha
     have := hb a h1
     omega
   | some b =>
     obtain ⟨a1, a2, a3⟩ := ha
     obtain ⟨b1, b2, b3⟩ := hb
     have c1 := a3 b b1 b2
     have c2 := b3 a a1 a2
     rw [hinj a a1 b b1 (by omega)]
theorem BestK.nil (e : Int) : BestK k ([] : List α) e none := fun x hx => by cases hx
/-- One more at the end, that is seen. -/
theorem BestK.snoc {l : List α} {e : Int} {b : Option α} {s : α} (h : BestK k l e b) : BestK k (l ++ [s]) e (if k s ≤ e ∧ (∀ a, b = some a → k a < k s) then some s else b) := by
 have hm : ∀ x, x ∈ l ++ [s] ↔ x ∈ l ∨ x = s := fun x => by rw [List.mem_append, List.mem_singleton]
 split
 · rename_i hc
   refine ⟨(hm s).2 (.inr rfl), hc.1, fun x hx hxe => ?_⟩
   rcases (hm x).1 hx with hx | hx
   · cases b with
     | none => have := h x hx; omega
     | some a => have c1 := h.2.2 x hx hxe; have c2 := hc.2 a rfl; omega
   · rw [hx]; exact Int.le_refl _
 · rename_i hc
   cases b with
   | none =>
     intro x hx
     rcases (hm x).1 hx with hx | hx
     · exact h x hx
     · rw [hx]
       have : ¬ k s ≤ e := fun h1 => hc ⟨h1, fun a ha => (by cases ha)⟩
       omega
   | some a =>
     refine ⟨(hm a).2 (.inl h.1), h.2.1, fun x hx hxe => ?_⟩
     rcases (hm x).1 hx with hx | hx
     · exact h.2.2 x hx hxe
     · rw [hx] at hxe ⊢
       have : ¬ k a < k s := fun h1 => hc ⟨hxe, fun a' ha => by cases ha; exact h1⟩
       omega
end
end Go.SnapMath
namespace Go.Proofs.YtgohekjkbgfeeaaGreat
open Go.RowKit
open Go.SnapMath
set_option linter.unusedVariables false

theorem infoName : (Tryz.prog.info? 9).map (fun i => (i.zero, i.size, i.bytes)) = some (some (.string ⟨#[]⟩), 1, 16) := by kernel_rfl
def nameK : Kind ByteArray := ⟨fun s => [.string s], 1, 9, 39⟩
theorem nameK_ok : nameK.Ok 16 where
 und := Tryz.underlying39
 info := by
  obtain ⟨i, hi, hz, hs, hb⟩ := info_parts infoName
  exact ⟨i, _, hi, hz, hs, hb, rfl⟩
 len := fun _ => rfl
 pos := by decide
 one := fun r u hu => by
  simp only [nameK, List.mem_cons, List.not_mem_nil, or_false] at hu
  subst hu
  rfl
 few := by decide
def snapT : ByteArray := ⟨#[115, 110, 97, 112, 115, 104, 111, 116]⟩
/-- Names with their numbers, if they are snapshots', and what the document's Parse and Less say of them. -/
structure NamesAre (ns : List ByteArray) (P : ByteArray → Option Int) : Prop where
 parse : ∀ W s, s ∈ ns → Calls Tryz.prog 31 #[.string s] W (fun e w' => Below W.heap.size W w' ∧ ((∃ n, P s = some n ∧ e = .returned (.tuple #[.int .i64 n, .string snapT, .bool true])) ∨ (P s = none ∧ ∃ n kd ok, e = .returned (.tuple #[.int .i64 n, .string kd, .bool ok]) ∧ (ok = false ∨ (kd.toList == [115, 110, 97, 112, 115, 104, 111, 116]) = false))))
 less : ∀ W s t a b, s ∈ ns → t ∈ ns → P s = some a → P t = some b → Calls Tryz.prog 32 #[.string s, .string t] W (fun e w' => e = .returned (.bool (decide (a < b))) ∧ Below W.heap.size W w')
 inj : ∀ s ∈ ns, ∀ t ∈ ns, ∀ a, P s = some a → P t = some a → s = t
 pos : ∀ s ∈ ns, ∀ a, P s = some a → 0 ≤ a ∧ a ≤ 1099511627776
theorem name_differ {x s : ByteArray} (h : x ≠ s) : (x.toList == s.toList) = false := by
 rw [beq_eq_false_iff_ne]
 intro e
 apply h
 rw [ByteArray.toList_eq, ByteArray.toList_eq] at e
 cases x
 cases s
 congr 1
 exact Array.toList_inj.1 e
def keyP (P : ByteArray → Option Int) (s : ByteArray) : Int := (P s).getD 0
def snapsP (P : ByteArray → Option Int) (l : List ByteArray) : List ByteArray := l.filter fun s => (P s).isSome
def bestAt (P : ByteArray → Option Int) : Option ByteArray → Int
 | none => -1
 | some a => keyP P a
theorem snapsP_snoc_no {P : ByteArray → Option Int} {l : List ByteArray} {s : ByteArray} (h : P s = none) : snapsP P (l ++ [s]) = snapsP P l := by
 unfold snapsP
 rw [List.filter_append, List.filter_cons_of_neg (by rw [h]; decide)]
 simp
theorem snapsP_snoc_yes {P : ByteArray → Option Int} {l : List ByteArray} {s : ByteArray} {n : Int} (h : P s = some n) : snapsP P (l ++ [s]) = snapsP P l ++ [s] := by
 unfold snapsP
 rw [List.filter_append, List.filter_cons_of_pos (by rw [h]; rfl)]
 simp
/-- What the code's two functions are to give. -/
def LatestDoes (w : World) (P : ByteArray → Option Int) (ns : List ByteArray) (end0 : Int) (e : Ending) (w' : World) : Prop :=
 ∃ b : Option ByteArray, e = .returned (.tuple #[.string (b.getD ⟨#[]⟩), .bool b.isSome]) ∧ BestK (keyP P) (snapsP P ns) end0 b ∧ Below w.heap.size w w'
def OldDoes (w : World) (P : ByteArray → Option Int) (ns : List ByteArray) (keep : Int) (e : Ending) (w' : World) : Prop :=
 ∃ ad n cap S, e = .returned (.slice ad n cap) ∧ RowAt nameK w' ad n cap (S.take (S.length - keep.toNat)) ∧ AscK (keyP P) S ∧ (∀ x, x ∈ S ↔ x ∈ snapsP P ns) ∧ Below w.heap.size w w'
end Go.Proofs.YtgohekjkbgfeeaaGreat
namespace Go.RuneMath
open Go.Lib
set_option linter.unusedVariables false

def runesF : Nat → List UInt8 → List Nat
 | 0, _ => []
 | n + 1, l => if l = [] then [] else (decodeL l).1 :: runesF n (l.drop (decodeL l).2)
def runes (l : List UInt8) : List Nat := runesF l.length l
theorem runesF_nil : ∀ n, runesF n [] = []
 | 0 => rfl
 | _ + 1 => by simp [runesF]
theorem runesF_fuel : ∀ (n m : Nat) (l : List UInt8), l.length ≤ n → l.length ≤ m → runesF n l = runesF m l
 | 0, m, l, hn, _ => by
   have : l = [] := List.eq_nil_of_length_eq_zero (by omega)
   subst this
   rw [runesF_nil, runesF_nil]
 | n + 1, 0, l, _, hm => by
   have : l = [] := List.eq_nil_of_length_eq_zero (by omega)
   subst this
   rw [runesF_nil, runesF_nil]
 | n + 1, m + 1, l, hn, hm => by
   by_cases hne : l = []
   · subst hne
     rw [runesF_nil, runesF_nil]
   · have hw := decodeL_width l
     have hl : 0 < l.length := List.length_pos_iff.2 hne
     simp only [runesF, if_neg hne]
     rw [runesF_fuel n m _ (by rw [List.length_drop]; omega) (by rw [List.length_drop]; omega)]
theorem runes_nil : runes [] = [] := rfl
theorem runes_cons {l : List UInt8} (hne : l ≠ []) : runes l = (decodeL l).1 :: runes (l.drop (decodeL l).2) := by
 have hw := decodeL_width l
 have hl : 0 < l.length := List.length_pos_iff.2 hne
 unfold runes
 obtain ⟨n, hn⟩ : ∃ n, l.length = n + 1 := ⟨l.length - 1, by omega⟩
 rw [hn]
 simp only [runesF, if_neg hne]
 rw [runesF_fuel n _ _ (by rw [List.length_drop]; omega) (Nat.le_refl _)]
/-- At most as many runes as bytes. -/
theorem runesF_len : ∀ n l, (runesF n l).length ≤ n
 | 0, _ => Nat.le_refl _
 | n + 1, l => by
   unfold runesF
   split
   · simp
   · have := runesF_len n (l.drop (decodeL l).2)
     rw [List.length_cons]; omega
theorem runes_len (l : List UInt8) : (runes l).length ≤ l.length := runesF_len _ _
/-! ### at a place of a string -/
def rs (s : ByteArray) (pos : Nat) : List Nat := runes (s.data.toList.drop pos)
theorem rs_zero (s : ByteArray) : rs s 0 = runes s.data.toList := by unfold rs; rw [List.drop_zero]
theorem rs_end {s : ByteArray} {pos : Nat} (h : ¬ pos < s.size) : rs s pos = [] := by
 unfold rs
 rw [List.drop_eq_nil_of_le (by rw [← size_eq]; omega)]
 rfl
theorem drop_ne {s : ByteArray} {pos : Nat} (h : pos < s.size) : s.data.toList.drop pos ≠ [] := by
 intro h0
 have := congrArg List.length h0
 rw [List.length_drop, ← size_eq] at this
 simp at this
 omega
theorem rs_step {s : ByteArray} {pos : Nat} (h : pos < s.size) : rs s pos = (Utf8.decode s pos).1 :: rs s (pos + (Utf8.decode s pos).2) := by
 unfold rs
 rw [runes_cons (drop_ne h), decodeL_drop, List.drop_drop]

/-! ### encodings -/
def Scal (r : Nat) : Prop := r < 55296 ∨ (57343 < r ∧ r ≤ 1114111)
def enc (r : Nat) : List UInt8 := encodeRune (r : Int)
theorem enc_len (r : Nat) : (enc r).length ≤ 4 := by
 unfold enc
 rw [← runeCells_length]
 exact (runeCells_le _).2
/-! ### one row behind another -/
theorem runes_ascii (c : UInt8) (t : List UInt8) (h : c.toNat < 128) : runes (c :: t) = c.toNat :: runes t := by
 rw [runes_cons (by simp), decodeL_ascii c t h]
 simp
theorem runes_low : ∀ (l : List UInt8), (∀ c ∈ l, c.toNat < 128) → ∀ t, runes (l ++ t) = l.map (·.toNat) ++ runes t
 | [], _, t => rfl
 | c :: l, h, t => by
   rw [List.cons_append, runes_ascii c _ (h c (by simp)), runes_low l (fun x hx => h x (by simp [hx])) t]
   rfl
/-! ### names that may be -/
def okR (r : Nat) : Bool := (decide (97 ≤ r) && decide (r ≤ 122)) || (decide (48 ≤ r) && decide (r ≤ 57)) || decide (r = 46) || decide (r = 45) || decide (r = 95) || (decide (255 < r) && decide (r ≠ 65533))
def rightR (l : List Nat) : Bool := l.all okR && decide (1 ≤ l.length) && decide (l.length ≤ 40)
def rightB (l : List UInt8) : Bool := rightR (runes l)
def countB (l : List UInt8) : Nat := (runes l).length
/-! ### the order -/
def lessR : List Nat → List Nat → Bool
 | [], [] => false
 | [], _ :: _ => true
 | _ :: _, [] => false
 | a :: x, b :: y => if a = b then lessR x y else decide (a < b)
theorem lessR_cons (a : Nat) (x : List Nat) (b : Nat) (y : List Nat) : lessR (a :: x) (b :: y) = if a = b then lessR x y else decide (a < b) := by rw [lessR]
def lessB (a b : List UInt8) : Bool := lessR (runes a) (runes b)
theorem less_irr : ∀ x, lessR x x = false
 | [] => rfl
 | a :: x => by unfold lessR; rw [if_pos rfl]; exact less_irr x
theorem less_app : ∀ x y, x.length = y.length → ∀ u v, lessR (x ++ u) (y ++ v) = if x = y then lessR u v else lessR x y
 | [], [], _, u, v => by simp
 | [], _ :: _, h, _, _ => by simp at h
 | _ :: _, [], h, _, _ => by simp at h
 | a :: x, b :: y, h, u, v => by
   have ih := less_app x y (by simpa using h) u v
   rw [List.cons_append, List.cons_append, lessR_cons, lessR_cons]
   by_cases e : a = b
   · subst e
     rw [if_pos rfl, if_pos rfl, ih]
     by_cases e2 : x = y
     · rw [if_pos e2, if_pos (by rw [e2])]
     · rw [if_neg e2, if_neg (by intro h0; exact e2 (List.cons.inj h0).2)]
   · rw [if_neg e, if_neg e, if_neg (by intro h0; exact e (List.cons.inj h0).1)]
theorem less_nil (l : List Nat) : lessR l [] = false := by cases l <;> rfl
theorem nil_less {l : List Nat} (h : l ≠ []) : lessR [] l = true := by
 cases l with
 | nil => exact absurd rfl h
 | cons a l => rfl

/-! ### twenty digits -/
def dig (n : Nat) : Nat → List UInt8
 | 0 => []
 | k + 1 => dig (n / 10) k ++ [UInt8.ofNat (48 + n % 10)]
theorem dig_len : ∀ n k, (dig n k).length = k
 | _, 0 => rfl
 | n, k + 1 => by rw [dig, List.length_append, dig_len (n / 10) k]; rfl
theorem digit_nat (n : Nat) : (UInt8.ofNat (48 + n % 10)).toNat = 48 + n % 10 := by simp; omega
theorem dig_all : ∀ n k, ∀ c ∈ dig n k, 48 ≤ c.toNat ∧ c.toNat ≤ 57
 | _, 0, c, h => by simp [dig] at h
 | n, k + 1, c, h => by
   rw [dig] at h
   rcases List.mem_append.1 h with h | h
   · exact dig_all _ _ c h
   · rw [List.mem_singleton] at h
     subst h
     rw [digit_nat]
     omega
def valD (l : List UInt8) : Nat := l.foldl (fun a c => 10 * a + (c.toNat - 48)) 0
theorem valD_snoc (l : List UInt8) (c : UInt8) : valD (l ++ [c]) = 10 * valD l + (c.toNat - 48) := by simp [valD]
theorem valD_dig : ∀ k n, n < 10 ^ k → valD (dig n k) = n
 | 0, n, h => by simp at h; subst h; rfl
 | k + 1, n, h => by
   rw [dig, valD_snoc, valD_dig k (n / 10) (by rw [Nat.pow_succ] at h; omega), digit_nat]
   omega
theorem dig_take : ∀ j k n, (dig n (j + k)).take j = dig (n / 10 ^ k) j
 | j, 0, n => by simp [List.take_of_length_le, dig_len]
 | j, k + 1, n => by
   rw [← Nat.add_assoc, dig, List.take_append_of_le_length (by rw [dig_len]; omega), dig_take j k (n / 10), Nat.div_div_eq_div_mul]
   congr 2
   rw [Nat.pow_succ, Nat.mul_comm]
theorem dig_inj {m n k : Nat} (hm : m < 10 ^ k) (hn : n < 10 ^ k) (h : dig m k = dig n k) : m = n := by
 have := congrArg valD h
 rwa [valD_dig k m hm, valD_dig k n hn] at this
theorem low_dig (n k : Nat) : ∀ c ∈ dig n k, c.toNat < 128 := fun c h => by have := dig_all n k c h; omega
theorem less_dig : ∀ k m n, m < 10 ^ k → n < 10 ^ k → lessR ((dig m k).map (·.toNat)) ((dig n k).map (·.toNat)) = decide (m < n)
 | 0, m, n, hm, hn => by
   simp at hm hn
   subst hm; subst hn
   rfl
 | k + 1, m, n, hm, hn => by
   rw [Nat.pow_succ] at hm hn
   have ih := less_dig k (m / 10) (n / 10) (by omega) (by omega)
   rw [dig, dig, List.map_append, List.map_append, less_app _ _ (by simp [dig_len]), ih]
   by_cases e : m / 10 = n / 10
   · rw [if_pos (by rw [e])]
     simp only [List.map_cons, List.map_nil, digit_nat]
     unfold lessR
     by_cases e2 : 48 + m % 10 = 48 + n % 10
     · rw [if_pos e2]
       have : m = n := by omega
       subst this
       simp [lessR]
     · rw [if_neg e2, Bool.eq_iff_iff]
       simp
       omega
   · have hne : (dig (m / 10) k).map (·.toNat) ≠ (dig (n / 10) k).map (·.toNat) := by
      intro h0
      apply e
      refine dig_inj (k := k) (by omega) (by omega) ?_
      exact (List.map_inj_right (fun _ _ h => UInt8.toNat_inj.1 h)).1 h0
     rw [if_neg hne, Bool.eq_iff_iff]
     simp
     omega

/-! ### names of files -/
def okFile (n : Int) (k : List UInt8) : Bool := decide (0 ≤ n) && decide (n ≤ 1099511627776) && rightB k && !(k.contains 46)
def fileL (n : Nat) (k : List UInt8) : List UInt8 := dig n 20 ++ 46 :: k
def fileS (n : Int) (k : List UInt8) : List UInt8 := if okFile n k then fileL n.toNat k else []
def parseK (l : List UInt8) : Bool := okFile (valD (l.take 20)) (l.drop 21) && decide (fileL (valD (l.take 20)) (l.drop 21) = l)
def parseN (l : List UInt8) : Nat := if parseK l then valD (l.take 20) else 0
def parseS (l : List UInt8) : List UInt8 := if parseK l then l.drop 21 else []
theorem lim20 : (1099511627776 : Nat) < 10 ^ 20 := by decide
theorem file_take {n : Nat} (h : n ≤ 1099511627776) (k : List UInt8) : valD ((fileL n k).take 20) = n := by
 unfold fileL
 rw [List.take_append_of_le_length (by rw [dig_len]; omega), List.take_of_length_le (by rw [dig_len]; omega)]
 exact valD_dig 20 n (Nat.lt_of_le_of_lt h lim20)
theorem file_drop (n : Nat) (k : List UInt8) : (fileL n k).drop 21 = k := by
 unfold fileL
 rw [List.drop_append, dig_len, List.drop_of_length_le (by rw [dig_len]; omega)]
 rfl
theorem ok_nat {n : Nat} {k : List UInt8} (h : okFile n k = true) : n ≤ 1099511627776 ∧ rightB k = true ∧ k.contains 46 = false := by
 unfold okFile at h
 simp only [Bool.and_eq_true, decide_eq_true_eq, Bool.not_eq_true'] at h
 exact ⟨by omega, h.1.2, h.2⟩
/-- What a file is named is parsed again. -/
theorem parse_file {n : Nat} {k l : List UInt8} (ho : okFile n k = true) (hl : fileL n k = l) : parseK l = true ∧ valD (l.take 20) = n ∧ l.drop 21 = k := by
 have h1 := (ok_nat ho).1
 subst hl
 rw [parseK, file_take h1, file_drop, ho]
 simp
/-- What is parsed is a file's name. -/
theorem parse_is {l : List UInt8} (h : parseK l = true) : okFile (valD (l.take 20)) (l.drop 21) = true ∧ fileL (valD (l.take 20)) (l.drop 21) = l := by
 unfold parseK at h
 simp only [Bool.and_eq_true, decide_eq_true_eq] at h
 exact h
theorem parse_yes {n : Nat} {k l : List UInt8} (ho : okFile n k = true) (hl : fileL n k = l) : parseK l = true ∧ parseN l = n ∧ parseS l = k := by
 obtain ⟨h1, h2, h3⟩ := parse_file ho hl
 refine ⟨h1, ?_, ?_⟩
 · rw [parseN, if_pos h1, h2]
 · rw [parseS, if_pos h1, h3]
theorem parse_no {l : List UInt8} (h : parseK l = false) : parseN l = 0 ∧ parseS l = [] := by
 refine ⟨?_, ?_⟩
 · rw [parseN, if_neg (by rw [h]; simp)]
 · rw [parseS, if_neg (by rw [h]; simp)]
theorem file_len {n : Nat} {k : List UInt8} : (fileL n k).length = 21 + k.length := by
 unfold fileL
 rw [List.length_append, dig_len, List.length_cons]
 omega

/-! ### the number that stands in front -/
def numR : Nat → List Nat → Option Nat
 | n, [] => some n
 | n, r :: l => if 48 ≤ r ∧ r ≤ 57 then (if 1099511627776 < 10 * n + (r - 48) then none else numR (10 * n + (r - 48)) l) else none
theorem numR_val : ∀ (l p : List UInt8), (∀ c ∈ l, 48 ≤ c.toNat ∧ c.toNat ≤ 57) → (∀ j, valD (p ++ l.take j) ≤ 1099511627776) → numR (valD p) (l.map (·.toNat)) = some (valD (p ++ l))
 | [], p, _, _ => by simp [numR]
 | c :: l, p, hd, hv => by
   have h1 := hd c (by simp)
   have h2 := hv 1
   rw [List.take_succ_cons, List.take_zero, valD_snoc] at h2
   rw [List.map_cons, numR, if_pos h1, if_neg (by omega), ← valD_snoc, numR_val l (p ++ [c]) (fun x hx => hd x (by simp [hx])) (fun j => by have := hv (j + 1); rwa [List.take_succ_cons, ← List.singleton_append, ← List.append_assoc] at this)]
   simp
theorem num_dig {n : Nat} (h : n ≤ 1099511627776) : numR 0 (runes (dig n 20)) = some n := by
 have e := runes_low (dig n 20) (low_dig n 20) []
 rw [List.append_nil, runes_nil, List.append_nil] at e
 rw [e]
 have := numR_val (dig n 20) [] (dig_all n 20) (fun j => ?_)
 · rw [List.nil_append, valD_dig 20 n (Nat.lt_of_le_of_lt h lim20)] at this
   exact this
 · rw [List.nil_append]
   by_cases hj : j ≤ 20
   · have e2 := dig_take j (20 - j) n
     rw [show j + (20 - j) = 20 by omega] at e2
     rw [e2, valD_dig]
     · exact Nat.le_trans (Nat.div_le_self _ _) h
     · rw [Nat.div_lt_iff_lt_mul (Nat.pow_pos (by omega)), ← Nat.pow_add, show j + (20 - j) = 20 by omega]
       exact Nat.lt_of_le_of_lt h lim20
   · rw [List.take_of_length_le (by rw [dig_len]; omega), valD_dig 20 n (Nat.lt_of_le_of_lt h lim20)]
     exact h
theorem valD_take_file {n : Nat} {k : List UInt8} (h : n ≤ 1099511627776) {j : Nat} (hj : j ≤ 20) : valD ((fileL n k).take j) ≤ 1099511627776 := by
 unfold fileL
 rw [List.take_append_of_le_length (by rw [dig_len]; omega)]
 have e2 := dig_take j (20 - j) n
 rw [show j + (20 - j) = 20 by omega] at e2
 rw [e2, valD_dig]
 · exact Nat.le_trans (Nat.div_le_self _ _) h
 · rw [Nat.div_lt_iff_lt_mul (Nat.pow_pos (by omega)), ← Nat.pow_add, show j + (20 - j) = 20 by omega]
   exact Nat.lt_of_le_of_lt h lim20
end Go.RuneMath
namespace Go.Proofs.YtgohekjkbgfeeaaGreat
open Go.RowKit
open Go.RuneMath
set_option linter.unusedVariables false

theorem ret_bool {a b : Bool} (h : a = b) : Ending.returned (.bool a) = .returned (.bool b) := by rw [h]
/-- The iterator of a string in block k stands at pos. -/
def ItAt (w : World) (k : Nat) (s : ByteArray) (pos : Nat) : Prop := w.heap[k]? = some (.stringIter s pos)
theorem it_start (w : World) (s : ByteArray) : ItAt (w.alloc (.stringIter s 0)) w.heap.size s 0 := by
 unfold ItAt
 exact heap_alloc_new w _
theorem it_pos {w : World} {k : Nat} {s : ByteArray} {pos : Nat} (h : ItAt w k s pos) : w.iterPos k = pos := by
 unfold ItAt at h
 simp [World.iterPos, h]
theorem it_next {w : World} {k : Nat} {s : ByteArray} {pos : Nat} (h : ItAt w k s pos) (pos' : Nat) : ItAt (w.iterAt k s pos') k s pos' := Lib.iterAt_heap w k s pos pos' h
theorem it_lt {w : World} {k : Nat} {s : ByteArray} {pos : Nat} (h : ItAt w k s pos) : k < w.heap.size := (Array.getElem?_eq_some_iff.1 h).1

theorem step {w a b : World} (h : Below w.heap.size w a) (k : Below a.heap.size a b) : Below w.heap.size w b := h.trans (k.mono h.size)

def Counts (s : ByteArray) (w : World) (e : Ending) (w' : World) : Prop := e = .returned (.int .i64 (countB s.data.toList : Nat)) ∧ Below w.heap.size w w'
theorem counts_mk {s : ByteArray} {w w' : World} {m : Nat} (h : m = countB s.data.toList) (hb : Below w.heap.size w w') : Counts s w (.returned (.int .i64 (m : Int))) w' := ⟨by rw [h], hb⟩
/-! ### Right -/
def Rights (s : ByteArray) (w : World) (e : Ending) (w' : World) : Prop := e = .returned (.bool (rightB s.data.toList)) ∧ Below w.heap.size w w'
theorem rights_mk {s : ByteArray} {w w' : World} {b : Bool} (h : b = rightB s.data.toList) (hb : Below w.heap.size w w') : Rights s w (.returned (.bool b)) w' := ⟨by rw [h], hb⟩
theorem right_many {l pre tl : List Nat} {r : Nat} (h : l = pre ++ r :: tl) (h40 : pre.length = 40) : rightR l = false := by
 subst h
 unfold rightR
 simp
 omega
theorem right_bad {l pre tl : List Nat} {r : Nat} (h : l = pre ++ r :: tl) (hr : okR r = false) : rightR l = false := by
 subst h
 unfold rightR
 simp [hr]
theorem all_snoc {pre : List Nat} {r : Nat} (h : pre.all okR = true) (hr : okR r = true) : (pre ++ [r]).all okR = true := by simp [h, hr]
theorem split_snoc {l pre tl : List Nat} {r : Nat} (h : l = pre ++ r :: tl) : l = (pre ++ [r]) ++ tl := by rw [h]; simp
def Lesses (a b : ByteArray) (w : World) (e : Ending) (w' : World) : Prop := e = .returned (.bool (lessB a.data.toList b.data.toList)) ∧ Below w.heap.size w w'
theorem lesses_mk {a b : ByteArray} {w w' : World} {x : Bool} (h : x = lessB a.data.toList b.data.toList) (hb : Below w.heap.size w w') : Lesses a b w (.returned (.bool x)) w' := ⟨by rw [h], hb⟩
theorem below_drewN (w : World) (n : Nat) : Below w.heap.size w (w.drewN n) := by
 induction n with
 | zero => exact Below.refl _ _
 | succ n ih => exact ih.drew
end Go.Proofs.YtgohekjkbgfeeaaGreat
namespace Go.Proofs.YtgohekjkbgfeeaaGreat
open Go.RowKit
open Go.RuneMath
set_option linter.unusedVariables false

def smallR (r : Nat) : Bool := decide (97 ≤ r ∧ r ≤ 122)
def digitR (r : Nat) : Bool := decide (48 ≤ r ∧ r ≤ 57)
theorem small_any (w : World) (r : Nat) : Calls Tryz.prog 149 #[.int .i32 (r : Int)] w fun e w' => e = .returned (.bool (smallR r)) ∧ w = w' := by
 obtain ⟨b, hb⟩ : ∃ b, b = smallR r := ⟨_, rfl⟩
 rw [← hb]
 have HB := Lib.hid hb
 clear hb
 go_enter Tryz.func149, Tryz.ntmps149
 go_wp2
 all_goals
  go_ret
  exact ⟨ret_bool (by rw [HB.out]; unfold smallR; rw [Bool.eq_iff_iff]; simp; omega), rfl⟩
theorem digit_any (w : World) (r : Nat) : Calls Tryz.prog 147 #[.int .i32 (r : Int)] w fun e w' => e = .returned (.bool (digitR r)) ∧ w = w' := by
 obtain ⟨b, hb⟩ : ∃ b, b = digitR r := ⟨_, rfl⟩
 rw [← hb]
 have HB := Lib.hid hb
 clear hb
 go_enter Tryz.func147, Tryz.ntmps147
 go_wp2
 all_goals
  go_ret
  exact ⟨ret_bool (by rw [HB.out]; unfold digitR; rw [Bool.eq_iff_iff]; simp; omega), rfl⟩
set_option maxHeartbeats 2000000 in
theorem allowed_any (w : World) (r : Nat) : Calls Tryz.prog 127 #[.int .i32 (r : Int)] w fun e w' => e = .returned (.bool (okR r)) ∧ w = w' := by
 obtain ⟨b, hb⟩ : ∃ b, b = okR r := ⟨_, rfl⟩
 rw [← hb]
 have HB := Lib.hid hb
 clear hb
 obtain ⟨s, hs⟩ : ∃ s, s = smallR r := ⟨_, rfl⟩
 obtain ⟨d, hd⟩ : ∃ d, d = digitR r := ⟨_, rfl⟩
 have CS0 := small_any w r
 have CD0 := digit_any w r
 rw [← hs] at CS0
 rw [← hd] at CD0
 have HS := Lib.hid hs
 have HD := Lib.hid hd
 have CS := Lib.hid CS0
 have CD := Lib.hid CD0
 clear hs hd CS0 CD0
 cases s <;> cases d
 all_goals
  go_enter Tryz.func127, Tryz.ntmps127
  go_wp2_with (first | (go_at_call 149; refine CS.out.mono ?_; rintro e w' ⟨rfl, rfl⟩) | (go_at_call 147; refine CD.out.mono ?_; rintro e w' ⟨rfl, rfl⟩))
  all_goals
   go_ret
   have e1 := HS.out
   have e2 := HD.out
   have e3 := HB.out
   clear HB HS HD CS CD
   unfold okR at e3
   unfold smallR at e1
   unfold digitR at e2
   refine ⟨ret_bool ?_, rfl⟩
   rw [e3, Bool.eq_iff_iff]
   clear e3
   go_light
   simp at *
   omega
end Go.Proofs.YtgohekjkbgfeeaaGreat
namespace Go.Proofs.YtgohekjkbgfeeaaGreat
open Go.RowKit
open Go.RuneMath
set_option linter.unusedVariables false

set_option maxHeartbeats 1000000 in
theorem right_any (w : World) (s : ByteArray) : Calls Tryz.prog 99 #[.string s] w (Rights s w) := by
 go_enter Tryz.func99, Tryz.ntmps99
 go_wp2
 go_loopw [3] (fun n wr => ∃ (pos m : Nat) (pre : List Nat), ItAt wr w.heap.size s pos ∧ Below w.heap.size w wr ∧ n = .int .i64 m ∧ m ≤ 40 ∧ pre.length = m ∧ runes s.data.toList = pre ++ rs s pos ∧ pre.all okR = true) (fun _ wr => s.size - wr.iterPos w.heap.size)
 case atStart => exact ⟨0, 0, [], it_start w s, (Below.refl _ w).alloc (Nat.le_refl _) _, rfl, by omega, rfl, by rw [rs_zero]; rfl, rfl⟩
 case round =>
  obtain ⟨pos, m, pre, hit, hbw, rfl, hm40, hlen, hsp, hall⟩ := hrel
  have HI := Lib.hid hit
  have HB := Lib.hid hbw
  have HL := Lib.hid hlen
  have HS := Lib.hid hsp
  have HA := Lib.hid hall
  clear hit hbw hlen hsp hall
  by_cases hp : pos < s.size
  · have hnx : ∀ ty, (Instr.next (.pointer (some ⟨w.heap.size, 0, none⟩)) true ty).run Tryz.prog wr = _ := fun ty => Lib.run_next_any_at wr w.heap.size s pos ty HI.out hp
    have HW := Lib.hid (Lib.width_pos s pos)
    have hst := HS.out
    rw [rs_step hp] at hst
    obtain ⟨r, hr⟩ : ∃ r, r = (Utf8.decode s pos).1 := ⟨_, rfl⟩
    obtain ⟨k, hk⟩ : ∃ k, k = (Utf8.decode s pos).2 := ⟨_, rfl⟩
    rw [← hr, ← hk] at hst
    rw [← hk] at HW
    simp only [← hr, ← hk] at hnx
    have HT := Lib.hid hst
    clear hst hr hk
    obtain ⟨b, hb⟩ : ∃ b, b = okR r := ⟨_, rfl⟩
    have CA0 := fun W => allowed_any W r
    rw [← hb] at CA0
    have CA := Lib.hid CA0
    have HK := Lib.hid hb
    clear CA0 hb
    by_cases h40 : m = 40
    · have HF : Hid (false = rightB s.data.toList) := (right_many HT.out (by rw [HL.out]; exact h40)).symm
      subst h40
      go_wp2
      go_ret
      exact rights_mk HF.out (Lib.below_iterAt HB.out (Nat.le_refl _) s _)
    · have hm1 : m + 1 ≤ 40 := by omega
      cases b
      · have HF : Hid (false = rightB s.data.toList) := (right_bad HT.out HK.out.symm).symm
        go_wp2_with (go_at_call 127; refine (CA.out _).mono ?_; rintro e w' ⟨rfl, rfl⟩)
        all_goals first
         | (exfalso; omega)
         | (go_ret; exact rights_mk HF.out (Lib.below_iterAt HB.out (Nat.le_refl _) s _))
      · go_wp2_with (go_at_call 127; refine (CA.out _).mono ?_; rintro e w' ⟨rfl, rfl⟩)
        all_goals first
         | (exfalso; omega)
         | (go_roundw
            case rel => exact ⟨pos + k, m + 1, pre ++ [r], it_next HI.out _, Lib.below_iterAt HB.out (Nat.le_refl _) s _, by go_num, hm1, by rw [List.length_append, HL.out]; rfl, split_snoc HT.out, all_snoc HA.out HK.out.symm⟩
            case measure =>
             rw [it_pos (it_next HI.out _), it_pos HI.out]
             have := HW.out
             omega)
  · have hnx : ∀ ty, (Instr.next (.pointer (some ⟨w.heap.size, 0, none⟩)) true ty).run Tryz.prog wr = _ := fun ty => Lib.run_next_end_at wr w.heap.size s pos ty HI.out hp
    have HF : Hid (decide (0 < m) = rightB s.data.toList) := by
     show _ = _
     unfold rightB rightR
     rw [HS.out, rs_end hp, List.append_nil, HA.out, HL.out, Bool.eq_iff_iff]
     simp
     omega
    go_wp2
    go_ret
    exact rights_mk HF.out HB.out
end Go.Proofs.YtgohekjkbgfeeaaGreat
