/- Parts of a proof, merged: SnBases, SnSort, SnLatest, SnOld, SnKnown, SnEnd. -/
import Derived.Sort.OwnSortedInts
import Derived.Test.YtgohekjkbgfeeaaGreatKn14
import Derived.Test.YtgohekjkbgfeeaaGreatKn10
import Derived.Test.YtgohekjkbgfeeaaGreatKn13
import Derived.Test.YtgohekjkbgfeeaaGreatKn2
namespace Go.Proofs.YtgohekjkbgfeeaaGreat
open Go.RowKit
open Go.RuneMath (parseK parseN parseS ok_nat okFile)
open Go.SnapMath
set_option linter.unusedVariables false

theorem parses_are {s : ByteArray} {w w' : World} {e : Ending} (h : Parses s w e w') : Below w.heap.size w w' ∧ ((∃ n, snapP s = some n ∧ e = .returned (.tuple #[.int .i64 n, .string snapT, .bool true])) ∨ (snapP s = none ∧ ∃ n kd ok, e = .returned (.tuple #[.int .i64 n, .string kd, .bool ok]) ∧ (ok = false ∨ (kd.toList == [115, 110, 97, 112, 115, 104, 111, 116]) = false))) := by
 obtain ⟨rfl, hb⟩ := h
 refine ⟨hb, ?_⟩
 cases hp : snapP s with
 | some n =>
   refine .inl ⟨n, rfl, ?_⟩
   unfold snapP at hp
   split at hp
   · rename_i hc
     have e := Option.some.inj hp
     rw [hc.1, hc.2, ← e]
     rfl
   · cases hp
 | none =>
   refine .inr ⟨rfl, _, _, _, rfl, ?_⟩
   cases hk : parseK s.data.toList with
   | false => exact .inl rfl
   | true =>
     refine .inr ?_
     rw [beq_eq_false_iff_ne]
     intro e
     unfold snapP at hp
     rw [if_pos ⟨hk, by rw [ByteArray.toList_eq] at e; exact e⟩] at hp
     cases hp
theorem filterMap_take {α β : Type} {f : α → Option β} {l : List α} {j : Nat} {a : α} (h : l[j]? = some a) : (l.take (j + 1)).filterMap f = (l.take j).filterMap f ++ (f a).toList := by
 rw [List.take_add_one, h, List.filterMap_append]
 cases hf : f a <;> simp [hf]
def GivesInts (w : World) (l : List Int) (e : Ending) (w' : World) : Prop := ∃ v, e = .returned v ∧ OwnRow idK w' w.heap.size v l ∧ Below w.heap.size w w'
set_option maxRecDepth 100000 in
set_option maxHeartbeats 4000000 in
theorem bases_any (w : World) (ad : Option Addr) (len cap : Nat) (ns : List ByteArray) (h : RowAt nameK w ad len cap ns) (hL : len ≤ 100000) (hs : ∀ s ∈ ns, s.size ≤ 1073741824) :
 Calls Tryz.prog 66 #[.slice ad len cap] w (GivesInts w (ns.filterMap snapP)) := by
 have H := Lib.hid h
 have HS := Lib.hid hs
 have HNL := Lib.hid h.length
 clear h hs
 go_enter Tryz.func66, Tryz.ntmps66
 go_wp2
 go_loopw [3, 11] (fun v3 v11 wr => ∃ (j : Nat) (u : Value), u = v3 ∧ v11 = .int .i64 (j : Int) ∧ j ≤ len ∧ Hid (OwnRow idK wr w.heap.size u ((ns.take j).filterMap snapP)) ∧ Hid (Below w.heap.size w wr)) (fun _ v11 _ => len - (intOf v11).toNat)
 case atStart => exact ⟨0, _, rfl, rfl, Nat.zero_le _, ownRow_nil _ _ _, Below.refl _ _⟩
 case round =>
  obtain ⟨j, u, rfl, rfl, hj, HO, HB⟩ := hrel
  obtain ⟨wo, hwo⟩ : ∃ wo : World, wo = wr := ⟨_, rfl⟩
  subst hwo
  by_cases hlt : j < len
  · have hd : decide (j < len) = true := decide_eq_true hlt
    have hjl : (j : Int) < (len : Int) := by omega
    obtain ⟨bk, off, s, rfl, hbk, hsj, hc⟩ := (H.out.keep HB.out).get hlt
    have c0 : wo.cell? ⟨bk, off + j, none⟩ = some (.string s) := by
     have h1 := hc 0 _ rfl
     rwa [show off + (j * nameK.size + 0) = off + j by show off + (j * 1 + 0) = _; omega] at h1
    have CP := Lib.hid (nameParse_any wo s (HS.out s (List.mem_of_getElem? hsj)))
    have HT := Lib.hid (filterMap_take (f := snapP) hsj)
    have HLEN : Hid (((ns.take j).filterMap snapP).length ≤ 100000) := by
     show _ ≤ _
     have h1 := List.length_filterMap_le snapP (ns.take j)
     rw [List.length_take] at h1
     omega
    clear hc hsj hbk
    go_wp2_with fail
    refine CP.out.mono ?_
    rintro e w2 hps
    obtain ⟨hb2, hcs⟩ := parses_are hps
    have HB2 := Lib.hid (HB.out.trans (hb2.mono HB.out.size))
    have HO2 := Lib.hid (HO.out.on hb2)
    clear hb2 hps CP c0 HB HO
    have heq : ((⟨#[115, 110, 97, 112, 115, 104, 111, 116]⟩ : ByteArray).toList == [115, 110, 97, 112, 115, 104, 111, 116]) = true := by first | rfl | kernel_rfl | simp | (rw [beq_iff_eq]; simp [ByteArray.toList])
    rcases hcs with ⟨n, hn, rfl⟩ | ⟨hn, n, kd, ok, rfl, hk⟩
    · have HT2 : Hid ((ns.take (j + 1)).filterMap snapP = (ns.take j).filterMap snapP ++ [n]) := by show _ = _; rw [HT.out, hn]; rfl
      unfold snapT
      clear hn HT
      obtain ⟨W6, hW6⟩ : ∃ z, z = w2.alloc (.cells #[.int .i64 n] 2) := ⟨_, rfl⟩
      have hb6 : Below w2.heap.size w2 W6 := by rw [hW6]; exact (Below.refl _ _).alloc (Nat.le_refl _) _
      have HLIT : Hid (RowAt idK W6 (some ⟨w2.heap.size, 0, none⟩) 1 1 [n]) := by
       show RowAt _ _ _ _ _ _
       rw [hW6]
       exact rowAt_lit idK_ok w2 [n] (by simp) _ rfl 1 rfl
      have HO6 := Lib.hid (HO2.out.on hb6)
      have HB6 := Lib.hid (HB2.out.trans (hb6.mono HB2.out.size))
      have HW6 := Lib.hid hW6
      clear hb6 hW6
      go_wp2_with (at_builtin; rw [← HW6.out]; refine list_row (by rfl) idK_ok (.tmp 26) (.tmp 28) rfl w.heap.size ((ns.take j).filterMap snapP) [n] u rfl HO6.out HB6.out.size (some ⟨w2.heap.size, 0, none⟩) 1 1 rfl HLIT.out (by have := HLEN.out; omega) ?_)
      intro v7 w7 hap
      have HO7 : Hid (OwnRow idK w7 w.heap.size v7 ((ns.take (j + 1)).filterMap snapP)) := by
       show OwnRow _ _ _ _ _
       rw [HT2.out]
       exact hap.1
      have HB7 : Hid (Below w.heap.size w w7) := appended_below hap HO6.out HB6.out (Nat.le_refl _) HB6.out.size
      clear hap HO6 HB6 HLIT HW6 HO2 HB2
      go_wp2
      go_roundw
      case rel => exact ⟨j + 1, v7, rfl, rfl, by omega, HO7.out, HB7.out⟩
      case measure => simp [intOf]; omega
    · have HO7 : Hid (OwnRow idK w2 w.heap.size u ((ns.take (j + 1)).filterMap snapP)) := by
       show OwnRow _ _ _ _ _
       rw [HT.out, hn]
       show OwnRow _ _ _ _ (_ ++ [])
       rw [List.append_nil]
       exact HO2.out
      have hgo : ok = false ∨ (ok = true ∧ (kd.toList == [115, 110, 97, 112, 115, 104, 111, 116]) = false) := by
       rcases hk with h | h
       · exact .inl h
       · cases ok
         · exact .inl rfl
         · exact .inr ⟨rfl, h⟩
      clear hk hn HT HO2
      rcases hgo with rfl | ⟨rfl, hkd⟩
      · go_wp2
        go_roundw
        case rel => exact ⟨j + 1, u, rfl, rfl, by omega, HO7.out, HB2.out⟩
        case measure => simp [intOf]; omega
      · go_wp2
        go_roundw
        case rel => exact ⟨j + 1, u, rfl, rfl, by omega, HO7.out, HB2.out⟩
        case measure => simp [intOf]; omega
  · have hd : decide (j < len) = false := decide_eq_false hlt
    have hjn : j = len := by omega
    have HFIN : Hid (OwnRow idK wo w.heap.size u (ns.filterMap snapP)) := by
     have h1 := HO.out
     rw [hjn, List.take_of_length_le (by rw [HNL.out]; exact Nat.le_refl _)] at h1
     exact h1
    clear hjn
    go_wp2
    go_ret
    exact ⟨_, rfl, HFIN.out, HB.out⟩
end Go.Proofs.YtgohekjkbgfeeaaGreat
namespace Go.Proofs.YtgohekjkbgfeeaaGreat
open Go.RowKit
open Go.SnapMath
open Go.RuneMath (okFile)
set_option linter.unusedVariables false

def sorted (l : List Int) : List Int := l.mergeSort fun x y => decide (x ≤ y)
theorem sorted_perm (l : List Int) : (sorted l).Perm l := List.mergeSort_perm l _
theorem sorted_len (l : List Int) : (sorted l).length = l.length := (sorted_perm l).length_eq
theorem sorted_asc (l : List Int) : (sorted l).Pairwise (· ≤ ·) := by
 have h := List.pairwise_mergeSort (le := fun x y : Int => decide (x ≤ y)) (fun a b c h1 h2 => by simp at *; omega) (fun a b => by simp; omega) l
 exact h.imp fun h => of_decide_eq_true h
def GivesSort (w : World) (base : Nat) (v : Value) (l : List Int) (e : Ending) (w' : World) : Prop := e = .returned (.tuple #[]) ∧ OwnRow idK w' base v (sorted l) ∧ w.grownBy w' v.ownBlock
theorem sort_any (w : World) (base : Nat) (v : Value) (l : List Int) (h : OwnRow idK w base v l) (hL : l.length ≤ 100000) :
 Calls Tryz.prog 68 #[v] w (GivesSort w base v l) := by
 rcases h.2 with ⟨rfl, h0⟩ | ⟨g, cap, cur, rfl, hg, hb, hn, hc, hs, ht⟩
 · obtain rfl := List.eq_nil_of_length_eq_zero h0
   refine (Tryz.slices_Sort_int_none none 0 w).mono ?_
   rintro e w' ⟨rfl, rfl⟩
   exact ⟨rfl, by rw [show sorted [] = [] from List.mergeSort_nil]; exact h, grow_refl _ _⟩
 · have hlt := (Array.getElem?_eq_some_iff.1 hb).1
   refine (Tryz.slices_Sort_int g 0 cap l w (holds_of_blockI hb (by rw [← idK_all, ← ht]; show _ = List.take (l.length * 1) _; rw [Nat.mul_one])) hlt (by omega)).mono ?_
   rintro e w' ⟨rfl, n, os, rfl⟩
   refine ⟨rfl, ?_, grownBy_sortedI _⟩
   have h1 := ownsRow_sortedI (n := n) (os := os) (ts := sorted l) (ss := l) (sorted_len l) hg hb hn hc (by rw [hs]; rfl)
   rw [← sorted_len l] at h1 ⊢
   exact ownRow_ids h1
/-- The greatest that is at most e, or -1. -/
def MaxTo (l : List Int) (e best : Int) : Prop := (best = -1 ∧ ∀ x ∈ l, e < x) ∨ (best ∈ l ∧ best ≤ e ∧ ∀ x ∈ l, x ≤ e → x ≤ best)
theorem MaxTo.nil (e : Int) : MaxTo [] e (-1) := .inl ⟨rfl, fun x h => by cases h⟩
theorem MaxTo.in {l : List Int} {e best x : Int} (h : MaxTo l e best) (h0 : 0 ≤ x) (hx : x ≤ e) : MaxTo (l ++ [x]) e (if best < x then x else best) := by
 right
 have hm : ∀ y, y ∈ l ++ [x] ↔ y ∈ l ∨ y = x := fun y => by rw [List.mem_append, List.mem_singleton]
 rcases h with ⟨rfl, h⟩ | ⟨h1, h2, h3⟩
 · rw [if_pos (by omega)]
   refine ⟨(hm x).2 (.inr rfl), hx, fun y hy hye => ?_⟩
   rcases (hm y).1 hy with hy | hy
   · have := h y hy; omega
   · omega
 · split
   · rename_i hc
     refine ⟨(hm x).2 (.inr rfl), hx, fun y hy hye => ?_⟩
     rcases (hm y).1 hy with hy | hy
     · have := h3 y hy hye; omega
     · omega
   · rename_i hc
     refine ⟨(hm best).2 (.inl h1), h2, fun y hy hye => ?_⟩
     rcases (hm y).1 hy with hy | hy
     · exact h3 y hy hye
     · omega
theorem MaxTo.out {l : List Int} {e best x : Int} (h : MaxTo l e best) (hx : ¬ x ≤ e) : MaxTo (l ++ [x]) e best := by
 have hm : ∀ y, y ∈ l ++ [x] ↔ y ∈ l ∨ y = x := fun y => by rw [List.mem_append, List.mem_singleton]
 rcases h with ⟨rfl, h⟩ | ⟨h1, h2, h3⟩
 · refine .inl ⟨rfl, fun y hy => ?_⟩
   rcases (hm y).1 hy with hy | hy
   · exact h y hy
   · omega
 · refine .inr ⟨(hm best).2 (.inl h1), h2, fun y hy hye => ?_⟩
   rcases (hm y).1 hy with hy | hy
   · exact h3 y hy hye
   · omega
theorem mem_bases {ns : List ByteArray} {n : Int} : n ∈ ns.filterMap snapP ↔ ∃ s ∈ ns, snapP s = some n := List.mem_filterMap
theorem bases_range {ns : List ByteArray} : ∀ x ∈ ns.filterMap snapP, 0 ≤ x ∧ x ≤ 1099511627776 := fun x hx => by
 obtain ⟨s, _, h⟩ := mem_bases.1 hx
 exact (snapP_is h).1
theorem mem_snaps {ns : List ByteArray} {s : ByteArray} : s ∈ snapsP snapP ns ↔ s ∈ ns ∧ ∃ n, snapP s = some n := by
 unfold snapsP
 rw [List.mem_filter, Option.isSome_iff_exists]
theorem keyP_of {s : ByteArray} {n : Int} (h : snapP s = some n) : keyP snapP s = n := by unfold keyP; rw [h]; rfl
/-- What Latest is to give. -/
theorem latest_of {ns : List ByteArray} {e best : Int} (h : MaxTo (ns.filterMap snapP) e best) : ∃ b : Option ByteArray, snapN best = b.getD ⟨#[]⟩ ∧ fileO best snapT = b.isSome ∧ BestK (keyP snapP) (snapsP snapP ns) e b := by
 rcases h with ⟨rfl, h⟩ | ⟨h1, h2, h3⟩
 · refine ⟨none, rfl, rfl, fun x hx => ?_⟩
   obtain ⟨hn, n, hp⟩ := mem_snaps.1 hx
   rw [keyP_of hp]
   exact h n (mem_bases.2 ⟨x, hn, hp⟩)
 · obtain ⟨s, hs, hp⟩ := mem_bases.1 h1
   obtain ⟨hr, rfl⟩ := snapP_is hp
   refine ⟨some (snapN best), rfl, ?_, mem_snaps.2 ⟨hs, _, hp⟩, by rw [keyP_of hp]; exact h2, fun x hx hxe => ?_⟩
   · show okFile best snapT.data.toList = true
     rw [snapT_data]
     exact snapO hr.1 hr.2
   · obtain ⟨hn, n, hq⟩ := mem_snaps.1 hx
     rw [keyP_of hq] at hxe ⊢
     rw [keyP_of hp]
     exact h3 n (mem_bases.2 ⟨x, hn, hq⟩) hxe
/-- The names in order. -/
def namesOf (ns : List ByteArray) : List ByteArray := (sorted (ns.filterMap snapP)).map snapN
theorem snapP_back {n : Int} (h : 0 ≤ n ∧ n ≤ 1099511627776) : snapP (snapN n) = some n := by
 obtain ⟨m, rfl⟩ : ∃ m : Nat, n = m := ⟨n.toNat, by omega⟩
 exact snapP_name (by omega)
theorem mem_namesOf {ns : List ByteArray} {s : ByteArray} : s ∈ namesOf ns ↔ s ∈ snapsP snapP ns := by
 unfold namesOf
 rw [List.mem_map, mem_snaps]
 constructor
 · rintro ⟨n, hn, rfl⟩
   obtain ⟨s, hs, hp⟩ := mem_bases.1 ((sorted_perm _).mem_iff.1 hn)
   obtain ⟨hr, rfl⟩ := snapP_is hp
   exact ⟨hs, n, hp⟩
 · rintro ⟨hs, n, hp⟩
   exact ⟨n, (sorted_perm _).mem_iff.2 (mem_bases.2 ⟨s, hs, hp⟩), (snapP_is hp).2.symm⟩
theorem namesOf_asc {ns : List ByteArray} (h : ns.Pairwise (· ≠ ·)) : AscK (keyP snapP) (namesOf ns) := by
 have h1 : (ns.filterMap snapP).Pairwise (· ≠ ·) := h.filterMap snapP fun a a' hne b hb b' hb' e => by
  subst e
  exact hne (by rw [(snapP_is hb).2, (snapP_is hb').2])
 have h2 : (sorted (ns.filterMap snapP)).Pairwise (· ≠ ·) := ((sorted_perm _).pairwise_iff (fun {_ _} h => Ne.symm h)).2 h1
 have h3 := sorted_asc (ns.filterMap snapP)
 have hr : ∀ x ∈ sorted (ns.filterMap snapP), 0 ≤ x ∧ x ≤ 1099511627776 := fun x hx => bases_range x ((sorted_perm _).mem_iff.1 hx)
 unfold AscK namesOf
 rw [List.pairwise_map]
 refine List.Pairwise.imp_of_mem (fun {a b} ha hb hab => ?_) (h2.and h3)
 rw [keyP_of (snapP_back (hr a ha)), keyP_of (snapP_back (hr b hb))]
 omega
theorem namesOf_len (ns : List ByteArray) : (namesOf ns).length = (ns.filterMap snapP).length := by
 unfold namesOf
 rw [List.length_map, sorted_len]
end Go.Proofs.YtgohekjkbgfeeaaGreat
namespace Go.Proofs.YtgohekjkbgfeeaaGreat
open Go.RowKit
open Go.SnapMath
set_option linter.unusedVariables false

set_option maxRecDepth 100000 in
set_option maxHeartbeats 4000000 in
theorem latest_any (w : World) (ad : Option Addr) (len cap : Nat) (ns : List ByteArray) (h : RowAt nameK w ad len cap ns) (hL : len ≤ 100000) (hs : ∀ s ∈ ns, s.size ≤ 1073741824) (end0 : Int) :
 Calls Tryz.prog 33 #[.slice ad len cap, .int .i64 end0] w (LatestDoes w snapP ns end0) := by
 have CB := Lib.hid (bases_any w ad len cap ns h hL hs)
 have hbl : (ns.filterMap snapP).length ≤ 100000 := by
  have h1 := List.length_filterMap_le snapP ns
  have := h.length
  omega
 obtain ⟨l, hl⟩ : ∃ l, l = ns.filterMap snapP := ⟨_, rfl⟩
 have HR : Hid (∀ x ∈ l, 0 ≤ x ∧ x ≤ 1099511627776) := by show ∀ x ∈ l, _; rw [hl]; exact bases_range
 have HF : Hid (∀ best, MaxTo l end0 best → ∃ b : Option ByteArray, snapN best = b.getD ⟨#[]⟩ ∧ fileO best snapT = b.isSome ∧ BestK (keyP snapP) (snapsP snapP ns) end0 b) := fun best hm => by rw [hl] at hm; exact latest_of hm
 rw [← hl] at CB hbl
 clear h hs hl
 go_enter Tryz.func33, Tryz.ntmps33
 go_wp2_with fail
 refine CB.out.mono ?_
 rintro e w1 ⟨v, rfl, ho, hb1⟩
 obtain ⟨n, hn⟩ : ∃ n, l.length = n := ⟨_, rfl⟩
 obtain ⟨ad1, cap1, rfl, hr1, _⟩ := OwnRow.row idK_ok ho hn
 have HROW := Lib.hid hr1
 have HB1 := Lib.hid hb1
 have HN := Lib.hid hn
 rw [hn] at hbl
 clear ho hr1 hb1 hn CB
 go_wp2
 go_loopw [6, 12] (fun v6 v12 wr => ∃ (j : Nat) (best : Int), v6 = .int .i64 best ∧ v12 = .int .i64 (j : Int) ∧ j ≤ n ∧ Hid (MaxTo (l.take j) end0 best) ∧ Hid (Below w1.heap.size w1 wr)) (fun _ v12 _ => n - (intOf v12).toNat)
 case atStart => exact ⟨0, -1, rfl, rfl, Nat.zero_le _, MaxTo.nil _, Below.refl _ _⟩
 case round =>
  obtain ⟨j, best, rfl, rfl, hj, HM, HB⟩ := hrel
  obtain ⟨wo, hwo⟩ : ∃ wo : World, wo = wr := ⟨_, rfl⟩
  subst hwo
  by_cases hlt : j < n
  · have hd : decide (j < n) = true := decide_eq_true hlt
    have hjl : (j : Int) < (n : Int) := by omega
    obtain ⟨bk, off, x, rfl, hbk, hx, hc⟩ := (HROW.out.keep HB.out).get hlt
    have c0 : wo.cell? ⟨bk, off + j, none⟩ = some (.int .i64 x) := by
     have h1 := hc 0 _ rfl
     rwa [show off + (j * idK.size + 0) = off + j by show off + (j * 1 + 0) = _; omega] at h1
    have hx0 := HR.out x (List.mem_of_getElem? hx)
    have htk : l.take (j + 1) = l.take j ++ [x] := by rw [List.take_add_one, hx]; rfl
    have HTK := Lib.hid htk
    have HX0 := Lib.hid hx0
    clear hc hx hbk htk hx0
    by_cases he : x ≤ end0
    · have hde : decide (x ≤ end0) = true := decide_eq_true he
      have HM2 : Hid (MaxTo (l.take (j + 1)) end0 (if best < x then x else best)) := by show MaxTo _ _ _; rw [HTK.out]; exact HM.out.in HX0.out.1 he
      by_cases hbx : best < x
      · have HM3 : Hid (MaxTo (l.take (j + 1)) end0 x) := by
         have h1 := HM2.out
         rw [if_pos hbx] at h1
         exact h1
        have hmx : max best x = x := by omega
        have hmx2 : (if best < x then x else best) = x := if_pos hbx
        have hmd : decide (best < x) = true := decide_eq_true hbx
        clear HM2 HTK HX0 he hbx
        go_wp2
        go_roundw
        case rel => exact ⟨j + 1, x, by first | rfl | rw [hmx], rfl, by omega, HM3.out, HB.out⟩
        case measure => simp [intOf]; omega
      · have HM3 : Hid (MaxTo (l.take (j + 1)) end0 best) := by
         have h1 := HM2.out
         rw [if_neg hbx] at h1
         exact h1
        have hmx : max best x = best := by omega
        have hmx2 : (if best < x then x else best) = best := if_neg hbx
        have hmd : decide (best < x) = false := decide_eq_false hbx
        clear HM2 HTK HX0 he hbx
        go_wp2
        go_roundw
        case rel => exact ⟨j + 1, best, by first | rfl | rw [hmx], rfl, by omega, HM3.out, HB.out⟩
        case measure => simp [intOf]; omega
    · have hde : decide (x ≤ end0) = false := decide_eq_false he
      have HM2 : Hid (MaxTo (l.take (j + 1)) end0 best) := by show MaxTo _ _ _; rw [HTK.out]; exact HM.out.out he
      clear HTK HX0 he
      go_wp2
      go_roundw
      case rel => exact ⟨j + 1, best, rfl, rfl, by omega, HM2.out, HB.out⟩
      case measure => simp [intOf]; omega
  · have hd : decide (j < n) = false := decide_eq_false hlt
    have hjn : j = n := by omega
    have hm := HM.out
    rw [hjn, List.take_of_length_le (by rw [HN.out]; exact Nat.le_refl _)] at hm
    obtain ⟨b, h1, h2, h3⟩ := HF.out best hm
    have H1 := Lib.hid h1
    have H2 := Lib.hid h2
    have H3 := Lib.hid h3
    clear hm h1 h2 h3 hjn
    go_wp2_with fail
    refine (file_any wo best ⟨#[115, 110, 97, 112, 115, 104, 111, 116]⟩ (by decide)).mono ?_
    rintro e w9 ⟨rfl, hb9⟩
    have HB9 := Lib.hid ((HB1.out.trans (HB.out.mono HB1.out.size)).trans (hb9.mono (Nat.le_trans HB1.out.size HB.out.size)))
    have e1 : fileV best ⟨#[115, 110, 97, 112, 115, 104, 111, 116]⟩ = b.getD ⟨#[]⟩ := H1.out
    have e2 : fileO best ⟨#[115, 110, 97, 112, 115, 104, 111, 116]⟩ = b.isSome := H2.out
    rw [e1, e2]
    clear e1 e2 hb9
    go_wp2
    go_ret2
    exact ⟨b, rfl, H3.out, HB9.out⟩
end Go.Proofs.YtgohekjkbgfeeaaGreat
namespace Go.Proofs.YtgohekjkbgfeeaaGreat
open Go.RowKit
open Go.SnapMath
set_option linter.unusedVariables false

set_option maxRecDepth 100000 in
set_option maxHeartbeats 4000000 in
theorem old_any (w : World) (ad : Option Addr) (len cap : Nat) (ns : List ByteArray) (h : RowAt nameK w ad len cap ns) (hL : len ≤ 100000) (hs : ∀ s ∈ ns, s.size ≤ 1073741824) (hone : ns.Pairwise (· ≠ ·)) (keep : Int) (hk64 : -9223372036854775808 ≤ keep ∧ keep ≤ 9223372036854775807) :
 Calls Tryz.prog 34 #[.slice ad len cap, .int .i64 keep] w (OldDoes w snapP ns keep) := by
 have CB := Lib.hid (bases_any w ad len cap ns h hL hs)
 have hbl : (ns.filterMap snapP).length ≤ 100000 := by
  have h1 := List.length_filterMap_le snapP ns
  have := h.length
  omega
 have HS1 := Lib.hid (namesOf_asc hone)
 have HS2 : Hid (∀ x, x ∈ namesOf ns ↔ x ∈ snapsP snapP ns) := fun x => mem_namesOf
 have HSL := Lib.hid (namesOf_len ns)
 have hso : namesOf ns = (sorted (ns.filterMap snapP)).map snapN := rfl
 obtain ⟨l, hl⟩ : ∃ l, l = ns.filterMap snapP := ⟨_, rfl⟩
 have HR : Hid (∀ x ∈ sorted l, 0 ≤ x ∧ x ≤ 1099511627776) := by show ∀ x ∈ sorted l, _; rw [hl]; exact fun x hx => bases_range x ((sorted_perm _).mem_iff.1 hx)
 obtain ⟨S, hS⟩ : ∃ S, S = namesOf ns := ⟨_, rfl⟩
 rw [← hl] at CB hbl hso HSL
 rw [← hS] at HS1 HS2 HSL hso
 have HSO := Lib.hid hso
 obtain ⟨n, hn⟩ : ∃ n, l.length = n := ⟨_, rfl⟩
 have HN := Lib.hid hn
 rw [hn] at hbl
 clear h hs hl hS hone hso hn
 go_enter Tryz.func34, Tryz.ntmps34
 go_wp2_with fail
 refine CB.out.mono ?_
 rintro e w1 ⟨v, rfl, ho, hb1⟩
 have HO1 := Lib.hid ho
 have HB1 := Lib.hid hb1
 clear ho hb1 CB
 go_wp2_with fail
 refine (sort_any w1 w.heap.size v l HO1.out (by rw [HN.out]; exact hbl)).mono ?_
 rintro e w2 ⟨rfl, ho2, hg2⟩
 obtain ⟨ad1, cap1, rfl, hr2, _⟩ := OwnRow.row (n := n) idK_ok ho2 (by rw [sorted_len]; exact HN.out)
 have HB2 : Hid (Below w.heap.size w w2) := HB1.out.grown hg2 HB1.out.size (fun k hk => (HO1.out.lt k hk).1)
 have HR2 := Lib.hid hr2
 obtain ⟨c, hc⟩ : ∃ c, n - keep.toNat = c := ⟨_, rfl⟩
 have hcl : c ≤ n := by omega
 have HC : Hid (S.take c = ((sorted l).take c).map snapN) := by show _ = _; rw [HSO.out, List.map_take]
 have HSC : Hid (S.length - keep.toNat = c) := by show _ = _; rw [HSL.out, HN.out]; exact hc
 have HTR := Lib.hid (HR2.out.take c hcl)
 have HLC : Hid (((sorted l).take c).length = c) := by show _ = _; rw [List.length_take, sorted_len, HN.out]; omega
 have HRC : Hid (∀ x ∈ (sorted l).take c, 0 ≤ x ∧ x ≤ 1099511627776) := fun x hx => HR.out x (List.mem_of_mem_take hx)
 have hsu : ∀ V, (Instr.slice 42 (.slice ad1 n cap1) none (some (.int .i64 (c : Int))) none).run Tryz.prog V = .ok (.slice ad1 c cap1) V := row_upto idK_ok _ n cap1 c (Nat.le_trans hcl HR2.out.fits)
 obtain ⟨Q, hQ⟩ : ∃ Q, Q = (sorted l).take c := ⟨_, rfl⟩
 rw [← hQ] at HC HTR HLC HRC
 obtain ⟨m, hm⟩ : ∃ m : Int, m = max keep 0 := ⟨_, rfl⟩
 have hmx : max keep 0 = m := hm.symm
 have hmx3 : (if keep < 0 then 0 else keep) = m := by rw [hm]; omega
 have hm0 : 0 ≤ m ∧ m ≤ 9223372036854775807 := by omega
 have hmx2 : max ((n : Int) - m) 0 = (c : Int) := by omega
 have hmx4 : (if (n : Int) - m < 0 then 0 else (n : Int) - m) = (c : Int) := by omega
 have hb64 : IntKind.i64.wrap ((n : Int) - m) = (n : Int) - m := IntWalk.i64_in _ (by omega)
 have hb65 : wrap64 ((n : Int) - m) = (n : Int) - m := by unfold wrap64; omega
 have hcb : c ≤ 100000 := by omega
 clear ho2 hg2 hr2 hc hQ hm HO1 HR HSO HSL HN
 go_wp2
 go_loopw [6, 24] (fun v6 v24 wr => ∃ (j : Nat) (u : Value), u = v6 ∧ v24 = .int .i64 (j : Int) ∧ j ≤ c ∧ Hid (OwnRow nameK wr w2.heap.size u ((Q.take j).map snapN)) ∧ Hid (Below w2.heap.size w2 wr)) (fun _ v24 _ => c - (intOf v24).toNat)
 case atStart => exact ⟨0, _, rfl, rfl, Nat.zero_le _, ownRow_nil _ _ _, Below.refl _ _⟩
 case round =>
  obtain ⟨j, u, rfl, rfl, hj, HO, HB⟩ := hrel
  clear hsu hmx hmx2 hmx3 hmx4 hb64 hb65
  obtain ⟨wo, hwo⟩ : ∃ wo : World, wo = wr := ⟨_, rfl⟩
  subst hwo
  by_cases hlt : j < c
  · have hd : decide (j < c) = true := decide_eq_true hlt
    have hjl : (j : Int) < (c : Int) := by omega
    obtain ⟨bk, off, x, rfl, hbk, hx, hcc⟩ := (HTR.out.keep HB.out).get hlt
    have c0 : wo.cell? ⟨bk, off + j, none⟩ = some (.int .i64 x) := by
     have h1 := hcc 0 _ rfl
     rwa [show off + (j * idK.size + 0) = off + j by show off + (j * 1 + 0) = _; omega] at h1
    have HTK : Hid ((Q.take (j + 1)).map snapN = (Q.take j).map snapN ++ [snapN x]) := by
     show _ = _
     rw [List.take_add_one, hx, List.map_append]
     rfl
    have HLEN : Hid (((Q.take j).map snapN).length ≤ 100000) := by
     show _ ≤ _
     rw [List.length_map, List.length_take]
     omega
    clear hcc hx hbk
    go_wp2_with fail
    refine (file_any wo x ⟨#[115, 110, 97, 112, 115, 104, 111, 116]⟩ (by decide)).mono ?_
    rintro e w3 ⟨rfl, hb3⟩
    obtain ⟨s, hs⟩ : ∃ s, s = snapN x := ⟨_, rfl⟩
    have e1 : fileV x ⟨#[115, 110, 97, 112, 115, 104, 111, 116]⟩ = s := hs.symm
    obtain ⟨ok, hok⟩ : ∃ b, b = fileO x ⟨#[115, 110, 97, 112, 115, 104, 111, 116]⟩ := ⟨_, rfl⟩
    rw [e1, ← hok]
    rw [← hs] at HTK
    have HO3 := Lib.hid (HO.out.on hb3)
    have HB3 := Lib.hid (HB.out.trans (hb3.mono HB.out.size))
    clear hs e1 hok hb3 HO HB c0
    obtain ⟨W6, hW6⟩ : ∃ z, z = w3.alloc (.cells #[.string s] 9) := ⟨_, rfl⟩
    have hb6 : Below w3.heap.size w3 W6 := by rw [hW6]; exact (Below.refl _ _).alloc (Nat.le_refl _) _
    have HLIT : Hid (RowAt nameK W6 (some ⟨w3.heap.size, 0, none⟩) 1 1 [s]) := by
     show RowAt _ _ _ _ _ _
     rw [hW6]
     exact rowAt_lit nameK_ok w3 [s] (by simp) _ rfl 1 rfl
    have HO6 := Lib.hid (HO3.out.on hb6)
    have HB6 := Lib.hid (HB3.out.trans (hb6.mono HB3.out.size))
    have HW6 := Lib.hid hW6
    clear hb6 hW6
    go_wp2_with (at_builtin; rw [← HW6.out]; refine list_row (by rfl) nameK_ok (.tmp 33) (.tmp 35) rfl w2.heap.size ((Q.take j).map snapN) [s] u rfl HO6.out HB6.out.size (some ⟨w3.heap.size, 0, none⟩) 1 1 rfl HLIT.out (by have := HLEN.out; omega) ?_)
    intro v7 w7 hap
    have HO7 : Hid (OwnRow nameK w7 w2.heap.size v7 ((Q.take (j + 1)).map snapN)) := by
     show OwnRow _ _ _ _ _
     rw [HTK.out]
     first | exact hap.1 | (rw [List.map_take]; exact hap.1)
    have HB7 : Hid (Below w2.heap.size w2 w7) := appended_below hap HO6.out HB6.out (Nat.le_refl _) HB6.out.size
    clear hap HO6 HB6 HLIT HW6 HO3 HB3
    go_wp2
    go_roundw
    case rel => exact ⟨j + 1, v7, rfl, rfl, by omega, HO7.out, HB7.out⟩
    case measure => simp [intOf]; omega
  · have hd : decide (j < c) = false := decide_eq_false hlt
    have hjn : j = c := by omega
    have HFIN : Hid (OwnRow nameK wo w2.heap.size u (S.take c)) := by
     have h1 := HO.out
     rw [hjn, List.take_of_length_le (by rw [HLC.out]; exact Nat.le_refl _), ← HC.out] at h1
     exact h1
    have hlc : (S.take c).length = c := by rw [HC.out, List.length_map]; exact HLC.out
    obtain ⟨ad9, cap9, rfl, hr9, _⟩ := OwnRow.row nameK_ok HFIN.out hlc
    have HR9 : Hid (RowAt nameK wo ad9 c cap9 (S.take (S.length - keep.toNat))) := by show RowAt _ _ _ _ _ _; rw [HSC.out]; exact hr9
    have HB9 := Lib.hid (HB2.out.trans (HB.out.mono HB2.out.size))
    clear hjn HFIN hlc hr9
    go_wp2
    go_ret
    exact ⟨ad9, c, cap9, S, rfl, HR9.out, HS1.out, HS2.out, HB9.out⟩
end Go.Proofs.YtgohekjkbgfeeaaGreat
namespace Go.Proofs.YtgohekjkbgfeeaaGreat
open Go.RowKit
open Go.SnapMath
open Go.ProdMath
set_option linter.unusedVariables false

def nm7 : ByteArray := ⟨#[48, 48, 48, 48, 48, 48, 48, 48, 48, 48, 48, 48, 48, 48, 48, 48, 48, 48, 48, 55, 46, 115, 110, 97, 112, 115, 104, 111, 116]⟩
def nm9 : ByteArray := ⟨#[48, 48, 48, 48, 48, 48, 48, 48, 48, 48, 48, 48, 48, 48, 48, 48, 48, 48, 48, 57, 46, 115, 110, 97, 112, 115, 104, 111, 116]⟩
def nm8 : ByteArray := ⟨#[48, 48, 48, 48, 48, 48, 48, 48, 48, 48, 48, 48, 48, 48, 48, 48, 48, 48, 48, 56, 46, 108, 111, 103]⟩
theorem p_nm7 : snapP nm7 = some 7 := by decide +kernel
theorem p_nm9 : snapP nm9 = some 9 := by decide +kernel
theorem p_nm8 : snapP nm8 = none := by decide +kernel
theorem snaps_789 : snapsP snapP [nm7, nm9, nm8] = [nm7, nm9] := by
 unfold snapsP
 rw [List.filter_cons_of_pos (by rw [p_nm7]; rfl), List.filter_cons_of_pos (by rw [p_nm9]; rfl), List.filter_cons_of_neg (by rw [p_nm8]; decide)]
 rfl
theorem snaps_97 : snapsP snapP [nm9, nm7] = [nm9, nm7] := by
 unfold snapsP
 rw [List.filter_cons_of_pos (by rw [p_nm9]; rfl), List.filter_cons_of_pos (by rw [p_nm7]; rfl)]
 rfl
theorem latest_789 {b : Option ByteArray} (h : BestK (keyP snapP) (snapsP snapP [nm7, nm9, nm8]) 8 b) : b = some nm7 := by
 rw [snaps_789] at h
 refine BestK.one (fun x hx y hy e => ?_) h ⟨by simp, by rw [keyP_of p_nm7]; decide, fun x hx hxe => ?_⟩
 · simp only [List.mem_cons, List.not_mem_nil, or_false] at hx hy
   rcases hx with rfl | rfl <;> rcases hy with rfl | rfl
   · rfl
   · rw [keyP_of p_nm7, keyP_of p_nm9] at e; cases e
   · rw [keyP_of p_nm7, keyP_of p_nm9] at e; cases e
   · rfl
 · simp only [List.mem_cons, List.not_mem_nil, or_false] at hx
   rcases hx with rfl | rfl
   · exact Int.le_refl _
   · rw [keyP_of p_nm9] at hxe; omega
theorem latest_nil {b : Option ByteArray} {e : Int} (h : BestK (keyP snapP) (snapsP snapP []) e b) : b = none := by
 cases b with
 | none => rfl
 | some a => cases h.1
theorem old_97 {S : List ByteArray} (h : AscK (keyP snapP) S) (hm : ∀ x, x ∈ S ↔ x ∈ snapsP snapP [nm9, nm7]) : S.take (S.length - (1 : Int).toNat) = [nm7] := by
 have e : S = [nm7, nm9] := AscK.one h (List.pairwise_cons.2 ⟨fun x hx => by rw [List.mem_singleton.1 hx, keyP_of p_nm7, keyP_of p_nm9]; decide, List.pairwise_singleton _ _⟩) fun x => by
  rw [hm, snaps_97]
  simp only [List.mem_cons, List.not_mem_nil, or_false]
  exact or_comm
 rw [e]
 rfl
theorem one_97 : [nm9, nm7].Pairwise (· ≠ ·) := List.pairwise_cons.2 ⟨fun x hx => by rw [List.mem_singleton.1 hx]; decide +kernel, List.pairwise_singleton _ _⟩
theorem small_names {s : ByteArray} (h : s = nm7 ∨ s = nm9 ∨ s = nm8) : s.size ≤ 1073741824 := by
 rcases h with rfl | rfl | rfl <;> decide
set_option maxRecDepth 100000 in
set_option maxHeartbeats 8000000 in
theorem known12_any {T : World → Addr → List Pd → Prop} (C : SnapCode T) (hnew : ∀ W, Calls Tryz.prog 36 #[] W (FoldDoes T W [])) (w : World) : Calls Tryz.prog 15 #[] w (GivesBool w true) := by
 have HC := Lib.hid C
 have HN := Lib.hid hnew
 clear C hnew
 go_enter Tryz.func15, Tryz.ntmps15
 go_wp2_with fail
 refine (HN.out w).mono ?_
 rintro e w1 ⟨a, rfl, ht, hb1⟩
 have HT1 := Lib.hid ht
 have HB1 := Lib.hid hb1
 clear ht hb1
 go_wp2_with fail
 refine (HC.out.bytes w1 a [] 7 HT1.out AccOk.nil (by decide) (by decide) (by decide)).mono ?_
 rintro e w2 ⟨v, rfl, g, cg, rfl, hcg, hg, hpre, hb2⟩
 have hsn : IsSnap (snapS [] 7) [] 7 := ⟨AccOk.nil, ⟨by decide, by decide⟩, rfl⟩
 have hall : CrcMath.AllB (snapS [] 7) := CrcMath.sealB_all (bodyS_all ⟨by decide, fun p h => (by cases h)⟩ ⟨by decide, by decide⟩)
 have hlen : (snapS [] 7).length ≤ 1048600 := snap_size AccOk.nil (by decide) ⟨by decide, by decide⟩
 obtain ⟨bs, hbs⟩ : ∃ bs, bs = snapS [] 7 := ⟨_, rfl⟩
 rw [← hbs] at hpre hcg hsn hall hlen ⊢
 have hy := hpre.byt hall cg hcg
 obtain ⟨L, hL⟩ : ∃ L, bs.length = L := ⟨_, rfl⟩
 rw [hL] at hy ⊢
 have HY := Lib.hid hy
 have HSN := Lib.hid hsn
 have HLEN := Lib.hid hlen
 have HB2 := Lib.hid (HB1.out.trans (hb2.mono HB1.out.size))
 clear hpre hcg hg hbs hall hy hL hsn hlen hb2 HT1 HB1
 go_wp2_with fail
 refine (HC.out.read w2 (some ⟨g, 0, none⟩) L cg bs HY.out HLEN.out).mono ?_
 rintro e w3 ⟨hb3, hc⟩
 rcases hc with ⟨a3, l3, n3, rfl, ht3, hs3⟩ | ⟨rfl, hno⟩
 case inr => exact absurd HSN.out (hno _ _)
 have hn7 : n3 = 7 := (IsSnap.one hs3 HSN.out HLEN.out).2
 subst hn7
 have HB3 := Lib.hid (HB2.out.trans (hb3.mono HB2.out.size))
 clear hb3 ht3 hs3 HB2 HY HSN HLEN
 go_wp2_with fail
 refine (HC.out.read w3 none 0 0 [] (Byt.nil w3) (by decide)).mono ?_
 rintro e w4 ⟨hb4, hc⟩
 rcases hc with ⟨a4, l4, n4, rfl, ht4, hs4⟩ | ⟨rfl, hno⟩
 · exact absurd hs4 (snap_short (by decide) _ _)
 have HB4 := Lib.hid (HB3.out.trans (hb4.mono HB3.out.size))
 clear hb4 hno HB3
 go_wp2_with fail
 obtain ⟨W5, hW5⟩ : ∃ z, z = w4.alloc (.cells #[.string nm7, .string nm9, .string nm8] 9) := ⟨_, rfl⟩
 have hr5 : RowAt nameK W5 (some ⟨w4.heap.size, 0, none⟩) 3 3 [nm7, nm9, nm8] := by rw [hW5]; exact rowAt_lit nameK_ok w4 [nm7, nm9, nm8] (by simp) _ rfl 3 rfl
 have hb5 : Below w4.heap.size w4 W5 := by rw [hW5]; exact (Below.refl _ _).alloc (Nat.le_refl _) _
 have HB5 := Lib.hid (HB4.out.trans (hb5.mono HB4.out.size))
 unfold nm7 nm9 nm8 at hW5
 rw [← hW5]
 clear hW5 hb5 HB4
 refine (latest_any W5 _ 3 3 _ hr5 (by decide) (fun s hs => small_names (by simpa using hs)) 8).mono ?_
 rintro e w6 ⟨b, rfl, hbk, hb6⟩
 have hb7 := latest_789 hbk
 subst hb7
 have HB6 := Lib.hid (HB5.out.trans (hb6.mono HB5.out.size))
 clear hbk hb6 hr5 HB5
 go_wp2_with fail
 refine (latest_any w6 none 0 0 [] (rowAt_nil w6) (by decide) (fun s hs => by cases hs) 5).mono ?_
 rintro e w7 ⟨b, rfl, hbk, hb7⟩
 have hb8 := latest_nil hbk
 subst hb8
 have HB7 := Lib.hid (HB6.out.trans (hb7.mono HB6.out.size))
 clear hbk hb7 HB6
 go_wp2_with fail
 obtain ⟨W8, hW8⟩ : ∃ z, z = w7.alloc (.cells #[.string nm9, .string nm7] 9) := ⟨_, rfl⟩
 have hr8 : RowAt nameK W8 (some ⟨w7.heap.size, 0, none⟩) 2 2 [nm9, nm7] := by rw [hW8]; exact rowAt_lit nameK_ok w7 [nm9, nm7] (by simp) _ rfl 2 rfl
 have hb8 : Below w7.heap.size w7 W8 := by rw [hW8]; exact (Below.refl _ _).alloc (Nat.le_refl _) _
 have HB8 := Lib.hid (HB7.out.trans (hb8.mono HB7.out.size))
 unfold nm7 nm9 at hW8
 rw [← hW8]
 clear hW8 hb8 HB7
 refine (old_any W8 _ 2 2 _ hr8 (by decide) (fun s hs => small_names (by simp only [List.mem_cons, List.not_mem_nil, or_false] at hs; rcases hs with h | h; exact .inr (.inl h); exact .inl h)) one_97 1 ⟨by decide, by decide⟩).mono ?_
 rintro e w9 ⟨oa, on, oc, S, rfl, hro, hso, hmo, hb9⟩
 have hS := old_97 hso hmo
 rw [hS] at hro
 have hon : on = 1 := hro.length.symm
 subst hon
 obtain ⟨bk, off, s, rfl, hbk, hs, hc9⟩ := hro.get (i := 0) (by decide)
 obtain rfl : nm7 = s := by simpa using hs
 have c9 : w9.cell? ⟨bk, off, none⟩ = some (.string nm7) := hc9 0 _ rfl
 have HB9 := Lib.hid (HB8.out.trans (hb9.mono HB8.out.size))
 have hnn : (nm7.toList == nm7.toList) = true := beq_self_eq_true _
 have hnn2 : (nm7.toList == [48, 48, 48, 48, 48, 48, 48, 48, 48, 48, 48, 48, 48, 48, 48, 48, 48, 48, 48, 55, 46, 115, 110, 97, 112, 115, 104, 111, 116]) = true := by
  rw [ByteArray.toList_eq]
  rfl
 have hge : (some nm7).getD (⟨#[]⟩ : ByteArray) = nm7 := rfl
 (try rw [hge])
 obtain ⟨t, ht⟩ : ∃ t, t = nm7 := ⟨_, rfl⟩
 rw [← ht] at c9 hnn hnn2 ⊢
 clear ht hS hso hmo hro hs hc9 hb9 hr8 HB8 hge
 go_wp2
 go_ret
 exact ⟨rfl, HB9.out⟩
end Go.Proofs.YtgohekjkbgfeeaaGreat
namespace Go.Proofs.YtgohekjkbgfeeaaGreat
open Go.RowKit
open Go.SnapMath
open Go.ProdMath
open Go.BatMath hiding AllB take_all
set_option linter.unusedVariables false

theorem snCode : SnapCode (TT 0) := snap_code snReadC_any
theorem snKnown (W : World) : Calls Tryz.prog 15 #[] W (GivesBool W true) := known12_any snCode (fun W => (tt_new W).mono fun e w' h => fold_low h) W
theorem in_of {n : Int} (h : (Lit.int .i64 n).wf = true) : In64 n := by
 have := bounds_i64 h
 exact ⟨by omega, by omega⟩
theorem isRow_ids {w : World} {ad : Option Addr} {len cap : Nat} {zs : List Int} (h : IsRow .i64 w ad len cap zs) : RowAt idK w ad len cap (zs.take len) := by
 rcases h with ⟨rfl, rfl, rfl, rfl⟩ | ⟨x, rfl, hl, hm, hz, hc, hw⟩
 · exact RowAt.zero _ (fun _ => rfl)
 · refine ⟨by rw [List.length_take]; omega, hl, (fun e => by cases e), ?_⟩
   by_cases h0 : len = 0
   · exact .inl h0
   · obtain ⟨b, off, spot⟩ := x
     have hc0 := hc 0 (by omega)
     have hs : spot = none := by simpa [Addr.add] using World.cell?_spot hc0
     subst hs
     refine .inr ⟨b, off, rfl, World.block_lt_of_cell? w _ hc0, fun i y hi j u hj => ?_⟩
     have hj0 : j = 0 := by
      have := (List.getElem?_eq_some_iff.1 hj).1
      simp [idK] at this
      omega
     subst hj0
     simp [idK] at hj
     subst hj
     have hi1 := (List.getElem?_eq_some_iff.1 hi).1
     rw [List.length_take] at hi1
     have h1 := hc i (by omega)
     rw [List.getElem?_take_of_lt (by omega)] at hi
     rw [List.getD_eq_getElem?_getD, hi] at h1
     have e1 : (⟨b, off, none⟩ : Addr).add i = ⟨b, off + (i * idK.size + 0), none⟩ := by simp [Addr.add, idK]
     rw [e1] at h1
     simpa using h1
end Go.Proofs.YtgohekjkbgfeeaaGreat
