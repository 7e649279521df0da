/- Parts of a proof, merged: SnOld, SnKnown, SnEnd, SnLists, SnSameS, SnSeen, Masks, SnTells, ModEnd. -/
import Derived.WalkKit
import Derived.IntWalk
import Derived.Laws.BitsAllLaws
import Derived.Test.YtgohekjkbgfeeaaGreatKg18
import Derived.Test.YtgohekjkbgfeeaaGreatKg16
import Derived.Test.YtgohekjkbgfeeaaGreatKg17
import Derived.Test.YtgohekjkbgfeeaaGreatKg2
import Derived.Test.YtgohekjkbgfeeaaGreatKg6
import Derived.Test.YtgohekjkbgfeeaaGreatKg11
import Derived.Test.YtgohekjkbgfeeaaGreatKg5
import Derived.Test.YtgohekjkbgfeeaaGreatKg15
import Derived.Test.YtgohekjkbgfeeaaGreatKg3
namespace Go.Proofs.YtgohekjkbgfeeaaGreat
open Go.RowKit
open Go.SnapMath
set_option linter.unusedVariables false

set_option maxRecDepth 100000 in
set_option maxHeartbeats 4000000 in
theorem old_any (w : World) (ad : Option Addr) (len cap : Nat) (ns : List ByteArray) (h : RowAt nameK w ad len cap ns) (hL : len ≤ 100000) (hs : ∀ s ∈ ns, s.size ≤ 1073741824) (hone : ns.Pairwise (· ≠ ·)) (keep : Int) (hk64 : -9223372036854775808 ≤ keep ∧ keep ≤ 9223372036854775807) :
    Calls Tryz.prog 34 #[.slice ad len cap, .int .i64 keep] w (OldDoes w snapP ns keep) := by
  have CB := Lib.hid (bases_any w ad len cap ns h hL hs)
  have hbl : (ns.filterMap snapP).length ≤ 100000 := by
    have h1 := List.length_filterMap_le snapP ns
    have := h.length
    omega
  have HS1 := Lib.hid (namesOf_asc hone)
  have HS2 : Hid (∀ x, x ∈ namesOf ns ↔ x ∈ snapsP snapP ns) := fun x => mem_namesOf
  have HSL := Lib.hid (namesOf_len ns)
  have hso : namesOf ns = (sorted (ns.filterMap snapP)).map snapN := rfl
  obtain ⟨l, hl⟩ : ∃ l, l = ns.filterMap snapP := ⟨_, rfl⟩
  have HR : Hid (∀ x ∈ sorted l, 0 ≤ x ∧ x ≤ 1099511627776) := by show ∀ x ∈ sorted l, _; rw [hl]; exact fun x hx => bases_range x ((sorted_perm _).mem_iff.1 hx)
  obtain ⟨S, hS⟩ : ∃ S, S = namesOf ns := ⟨_, rfl⟩
  rw [← hl] at CB hbl hso HSL
  rw [← hS] at HS1 HS2 HSL hso
  have HSO := Lib.hid hso
  obtain ⟨n, hn⟩ : ∃ n, l.length = n := ⟨_, rfl⟩
  have HN := Lib.hid hn
  rw [hn] at hbl
  clear h hs hl hS hone hso hn
  go_enter Tryz.func34, Tryz.ntmps34
  go_wp2_with fail
  refine CB.out.mono ?_
  rintro e w1 ⟨v, rfl, ho, hb1⟩
  have HO1 := Lib.hid ho
  have HB1 := Lib.hid hb1
  clear ho hb1 CB
  go_wp2_with fail
  refine (sort_any w1 w.heap.size v l HO1.out (by rw [HN.out]; exact hbl)).mono ?_
  rintro e w2 ⟨rfl, ho2, hg2⟩
  obtain ⟨ad1, cap1, rfl, hr2, _⟩ := OwnRow.row (n := n) idK_ok ho2 (by rw [sorted_len]; exact HN.out)
  have HB2 : Hid (Below w.heap.size w w2) := HB1.out.grown hg2 HB1.out.size (fun k hk => (HO1.out.lt k hk).1)
  have HR2 := Lib.hid hr2
  obtain ⟨c, hc⟩ : ∃ c, n - keep.toNat = c := ⟨_, rfl⟩
  have hcl : c ≤ n := by omega
  have HC : Hid (S.take c = ((sorted l).take c).map snapN) := by show _ = _; rw [HSO.out, List.map_take]
  have HSC : Hid (S.length - keep.toNat = c) := by show _ = _; rw [HSL.out, HN.out]; exact hc
  have HTR := Lib.hid (HR2.out.take c hcl)
  have HLC : Hid (((sorted l).take c).length = c) := by show _ = _; rw [List.length_take, sorted_len, HN.out]; omega
  have HRC : Hid (∀ x ∈ (sorted l).take c, 0 ≤ x ∧ x ≤ 1099511627776) := fun x hx => HR.out x (List.mem_of_mem_take hx)
  have hsu : ∀ V, (Instr.slice 42 (.slice ad1 n cap1) none (some (.int .i64 (c : Int))) none).run Tryz.prog V = .ok (.slice ad1 c cap1) V := row_upto idK_ok _ n cap1 c (Nat.le_trans hcl HR2.out.fits)
  obtain ⟨Q, hQ⟩ : ∃ Q, Q = (sorted l).take c := ⟨_, rfl⟩
  rw [← hQ] at HC HTR HLC HRC
  obtain ⟨m, hm⟩ : ∃ m : Int, m = max keep 0 := ⟨_, rfl⟩
  have hmx : max keep 0 = m := hm.symm
  have hmx3 : (if keep < 0 then 0 else keep) = m := by rw [hm]; omega
  have hm0 : 0 ≤ m ∧ m ≤ 9223372036854775807 := by omega
  have hmx2 : max ((n : Int) - m) 0 = (c : Int) := by omega
  have hmx4 : (if (n : Int) - m < 0 then 0 else (n : Int) - m) = (c : Int) := by omega
  have hb64 : IntKind.i64.wrap ((n : Int) - m) = (n : Int) - m := IntWalk.i64_in _ (by omega)
  have hb65 : wrap64 ((n : Int) - m) = (n : Int) - m := by unfold wrap64; omega
  have hcb : c ≤ 100000 := by omega
  clear ho2 hg2 hr2 hc hQ hm HO1 HR HSO HSL HN
  go_wp2
  go_loopw [6, 24] (fun v6 v24 wr => ∃ (j : Nat) (u : Value), u = v6 ∧ v24 = .int .i64 (j : Int) ∧ j ≤ c ∧ Hid (OwnRow nameK wr w2.heap.size u ((Q.take j).map snapN)) ∧ Hid (Below w2.heap.size w2 wr)) (fun _ v24 _ => c - (intOf v24).toNat)
  case atStart => exact ⟨0, _, rfl, rfl, Nat.zero_le _, ownRow_nil _ _ _, Below.refl _ _⟩
  case round =>
    obtain ⟨j, u, rfl, rfl, hj, HO, HB⟩ := hrel
    clear hsu hmx hmx2 hmx3 hmx4 hb64 hb65
    obtain ⟨wo, hwo⟩ : ∃ wo : World, wo = wr := ⟨_, rfl⟩
    subst hwo
    by_cases hlt : j < c
    · have hd : decide (j < c) = true := decide_eq_true hlt
      have hjl : (j : Int) < (c : Int) := by omega
      obtain ⟨bk, off, x, rfl, hbk, hx, hcc⟩ := (HTR.out.keep HB.out).get hlt
      have c0 : wo.cell? ⟨bk, off + j, none⟩ = some (.int .i64 x) := by
        have h1 := hcc 0 _ rfl
        rwa [show off + (j * idK.size + 0) = off + j by show off + (j * 1 + 0) = _; omega] at h1
      have HTK : Hid ((Q.take (j + 1)).map snapN = (Q.take j).map snapN ++ [snapN x]) := by
        show _ = _
        rw [List.take_add_one, hx, List.map_append]
        rfl
      have HLEN : Hid (((Q.take j).map snapN).length ≤ 100000) := by
        show _ ≤ _
        rw [List.length_map, List.length_take]
        omega
      clear hcc hx hbk
      go_wp2_with fail
      refine (file_any wo x ⟨#[115, 110, 97, 112, 115, 104, 111, 116]⟩ (by decide)).mono ?_
      rintro e w3 ⟨rfl, hb3⟩
      obtain ⟨s, hs⟩ : ∃ s, s = snapN x := ⟨_, rfl⟩
      have e1 : fileV x ⟨#[115, 110, 97, 112, 115, 104, 111, 116]⟩ = s := hs.symm
      obtain ⟨ok, hok⟩ : ∃ b, b = fileO x ⟨#[115, 110, 97, 112, 115, 104, 111, 116]⟩ := ⟨_, rfl⟩
      rw [e1, ← hok]
      rw [← hs] at HTK
      have HO3 := Lib.hid (HO.out.on hb3)
      have HB3 := Lib.hid (HB.out.trans (hb3.mono HB.out.size))
      clear hs e1 hok hb3 HO HB c0
      obtain ⟨W6, hW6⟩ : ∃ z, z = w3.alloc (.cells #[.string s] 9) := ⟨_, rfl⟩
      have hb6 : Below w3.heap.size w3 W6 := by rw [hW6]; exact (Below.refl _ _).alloc (Nat.le_refl _) _
      have HLIT : Hid (RowAt nameK W6 (some ⟨w3.heap.size, 0, none⟩) 1 1 [s]) := by
        show RowAt _ _ _ _ _ _
        rw [hW6]
        exact rowAt_lit nameK_ok w3 [s] (by simp) _ rfl 1 rfl
      have HO6 := Lib.hid (HO3.out.on hb6)
      have HB6 := Lib.hid (HB3.out.trans (hb6.mono HB3.out.size))
      have HW6 := Lib.hid hW6
      clear hb6 hW6
      go_wp2_with (at_builtin; rw [← HW6.out]; refine list_row (by rfl) nameK_ok (.tmp 33) (.tmp 35) rfl w2.heap.size ((Q.take j).map snapN) [s] u rfl HO6.out HB6.out.size (some ⟨w3.heap.size, 0, none⟩) 1 1 rfl HLIT.out (by have := HLEN.out; omega) ?_)
      intro v7 w7 hap
      have HO7 : Hid (OwnRow nameK w7 w2.heap.size v7 ((Q.take (j + 1)).map snapN)) := by
        show OwnRow _ _ _ _ _
        rw [HTK.out]
        first | exact hap.1 | (rw [List.map_take]; exact hap.1)
      have HB7 : Hid (Below w2.heap.size w2 w7) := appended_below hap HO6.out HB6.out (Nat.le_refl _) HB6.out.size
      clear hap HO6 HB6 HLIT HW6 HO3 HB3
      go_wp2
      go_roundw
      case rel => exact ⟨j + 1, v7, rfl, rfl, by omega, HO7.out, HB7.out⟩
      case measure => simp [intOf]; omega
    · have hd : decide (j < c) = false := decide_eq_false hlt
      have hjn : j = c := by omega
      have HFIN : Hid (OwnRow nameK wo w2.heap.size u (S.take c)) := by
        have h1 := HO.out
        rw [hjn, List.take_of_length_le (by rw [HLC.out]; exact Nat.le_refl _), ← HC.out] at h1
        exact h1
      have hlc : (S.take c).length = c := by rw [HC.out, List.length_map]; exact HLC.out
      obtain ⟨ad9, cap9, rfl, hr9, _⟩ := OwnRow.row nameK_ok HFIN.out hlc
      have HR9 : Hid (RowAt nameK wo ad9 c cap9 (S.take (S.length - keep.toNat))) := by show RowAt _ _ _ _ _ _; rw [HSC.out]; exact hr9
      have HB9 := Lib.hid (HB2.out.trans (HB.out.mono HB2.out.size))
      clear hjn HFIN hlc hr9
      go_wp2
      go_ret
      exact ⟨ad9, c, cap9, S, rfl, HR9.out, HS1.out, HS2.out, HB9.out⟩
end Go.Proofs.YtgohekjkbgfeeaaGreat
namespace Go.Proofs.YtgohekjkbgfeeaaGreat
open Go.RowKit
open Go.SnapMath
open Go.ProdMath
set_option linter.unusedVariables false

def nm7 : ByteArray := ⟨#[48, 48, 48, 48, 48, 48, 48, 48, 48, 48, 48, 48, 48, 48, 48, 48, 48, 48, 48, 55, 46, 115, 110, 97, 112, 115, 104, 111, 116]⟩
def nm9 : ByteArray := ⟨#[48, 48, 48, 48, 48, 48, 48, 48, 48, 48, 48, 48, 48, 48, 48, 48, 48, 48, 48, 57, 46, 115, 110, 97, 112, 115, 104, 111, 116]⟩
def nm8 : ByteArray := ⟨#[48, 48, 48, 48, 48, 48, 48, 48, 48, 48, 48, 48, 48, 48, 48, 48, 48, 48, 48, 56, 46, 108, 111, 103]⟩
theorem p_nm7 : snapP nm7 = some 7 := by decide +kernel
theorem p_nm9 : snapP nm9 = some 9 := by decide +kernel
theorem p_nm8 : snapP nm8 = none := by decide +kernel
theorem snaps_789 : snapsP snapP [nm7, nm9, nm8] = [nm7, nm9] := by
  unfold snapsP
  rw [List.filter_cons_of_pos (by rw [p_nm7]; rfl), List.filter_cons_of_pos (by rw [p_nm9]; rfl), List.filter_cons_of_neg (by rw [p_nm8]; decide)]
  rfl
theorem snaps_97 : snapsP snapP [nm9, nm7] = [nm9, nm7] := by
  unfold snapsP
  rw [List.filter_cons_of_pos (by rw [p_nm9]; rfl), List.filter_cons_of_pos (by rw [p_nm7]; rfl)]
  rfl
theorem latest_789 {b : Option ByteArray} (h : BestK (keyP snapP) (snapsP snapP [nm7, nm9, nm8]) 8 b) : b = some nm7 := by
  rw [snaps_789] at h
  refine BestK.one (fun x hx y hy e => ?_) h ⟨by simp, by rw [keyP_of p_nm7]; decide, fun x hx hxe => ?_⟩
  · simp only [List.mem_cons, List.not_mem_nil, or_false] at hx hy
    rcases hx with rfl | rfl <;> rcases hy with rfl | rfl
    · rfl
    · rw [keyP_of p_nm7, keyP_of p_nm9] at e; cases e
    · rw [keyP_of p_nm7, keyP_of p_nm9] at e; cases e
    · rfl
  · simp only [List.mem_cons, List.not_mem_nil, or_false] at hx
    rcases hx with rfl | rfl
    · exact Int.le_refl _
    · rw [keyP_of p_nm9] at hxe; omega
theorem latest_nil {b : Option ByteArray} {e : Int} (h : BestK (keyP snapP) (snapsP snapP []) e b) : b = none := by
  cases b with
  | none => rfl
  | some a => cases h.1
theorem old_97 {S : List ByteArray} (h : AscK (keyP snapP) S) (hm : ∀ x, x ∈ S ↔ x ∈ snapsP snapP [nm9, nm7]) : S.take (S.length - (1 : Int).toNat) = [nm7] := by
  have e : S = [nm7, nm9] := AscK.one h (List.pairwise_cons.2 ⟨fun x hx => by rw [List.mem_singleton.1 hx, keyP_of p_nm7, keyP_of p_nm9]; decide, List.pairwise_singleton _ _⟩) fun x => by
    rw [hm, snaps_97]
    simp only [List.mem_cons, List.not_mem_nil, or_false]
    exact or_comm
  rw [e]
  rfl
theorem one_97 : [nm9, nm7].Pairwise (· ≠ ·) := List.pairwise_cons.2 ⟨fun x hx => by rw [List.mem_singleton.1 hx]; decide +kernel, List.pairwise_singleton _ _⟩
theorem small_names {s : ByteArray} (h : s = nm7 ∨ s = nm9 ∨ s = nm8) : s.size ≤ 1073741824 := by
  rcases h with rfl | rfl | rfl <;> decide
set_option maxRecDepth 100000 in
set_option maxHeartbeats 8000000 in
theorem known12_any {T : World → Addr → List Pd → Prop} (C : SnapCode T) (hnew : ∀ W, Calls Tryz.prog 36 #[] W (FoldDoes T W [])) (w : World) : Calls Tryz.prog 15 #[] w (GivesBool w true) := by
  have HC := Lib.hid C
  have HN := Lib.hid hnew
  clear C hnew
  go_enter Tryz.func15, Tryz.ntmps15
  go_wp2_with fail
  refine (HN.out w).mono ?_
  rintro e w1 ⟨a, rfl, ht, hb1⟩
  have HT1 := Lib.hid ht
  have HB1 := Lib.hid hb1
  clear ht hb1
  go_wp2_with fail
  refine (HC.out.bytes w1 a [] 7 HT1.out AccOk.nil (by decide) (by decide) (by decide)).mono ?_
  rintro e w2 ⟨v, rfl, g, cg, rfl, hcg, hg, hpre, hb2⟩
  have hsn : IsSnap (snapS [] 7) [] 7 := ⟨AccOk.nil, ⟨by decide, by decide⟩, rfl⟩
  have hall : CrcMath.AllB (snapS [] 7) := CrcMath.sealB_all (bodyS_all ⟨by decide, fun p h => (by cases h)⟩ ⟨by decide, by decide⟩)
  have hlen : (snapS [] 7).length ≤ 1048600 := snap_size AccOk.nil (by decide) ⟨by decide, by decide⟩
  obtain ⟨bs, hbs⟩ : ∃ bs, bs = snapS [] 7 := ⟨_, rfl⟩
  rw [← hbs] at hpre hcg hsn hall hlen ⊢
  have hy := hpre.byt hall cg hcg
  obtain ⟨L, hL⟩ : ∃ L, bs.length = L := ⟨_, rfl⟩
  rw [hL] at hy ⊢
  have HY := Lib.hid hy
  have HSN := Lib.hid hsn
  have HLEN := Lib.hid hlen
  have HB2 := Lib.hid (HB1.out.trans (hb2.mono HB1.out.size))
  clear hpre hcg hg hbs hall hy hL hsn hlen hb2 HT1 HB1
  go_wp2_with fail
  refine (HC.out.read w2 (some ⟨g, 0, none⟩) L cg bs HY.out HLEN.out).mono ?_
  rintro e w3 ⟨hb3, hc⟩
  rcases hc with ⟨a3, l3, n3, rfl, ht3, hs3⟩ | ⟨rfl, hno⟩
  case inr => exact absurd HSN.out (hno _ _)
  have hn7 : n3 = 7 := (IsSnap.one hs3 HSN.out HLEN.out).2
  subst hn7
  have HB3 := Lib.hid (HB2.out.trans (hb3.mono HB2.out.size))
  clear hb3 ht3 hs3 HB2 HY HSN HLEN
  go_wp2_with fail
  refine (HC.out.read w3 none 0 0 [] (Byt.nil w3) (by decide)).mono ?_
  rintro e w4 ⟨hb4, hc⟩
  rcases hc with ⟨a4, l4, n4, rfl, ht4, hs4⟩ | ⟨rfl, hno⟩
  · exact absurd hs4 (snap_short (by decide) _ _)
  have HB4 := Lib.hid (HB3.out.trans (hb4.mono HB3.out.size))
  clear hb4 hno HB3
  go_wp2_with fail
  obtain ⟨W5, hW5⟩ : ∃ z, z = w4.alloc (.cells #[.string nm7, .string nm9, .string nm8] 9) := ⟨_, rfl⟩
  have hr5 : RowAt nameK W5 (some ⟨w4.heap.size, 0, none⟩) 3 3 [nm7, nm9, nm8] := by rw [hW5]; exact rowAt_lit nameK_ok w4 [nm7, nm9, nm8] (by simp) _ rfl 3 rfl
  have hb5 : Below w4.heap.size w4 W5 := by rw [hW5]; exact (Below.refl _ _).alloc (Nat.le_refl _) _
  have HB5 := Lib.hid (HB4.out.trans (hb5.mono HB4.out.size))
  unfold nm7 nm9 nm8 at hW5
  rw [← hW5]
  clear hW5 hb5 HB4
  refine (latest_any W5 _ 3 3 _ hr5 (by decide) (fun s hs => small_names (by simpa using hs)) 8).mono ?_
  rintro e w6 ⟨b, rfl, hbk, hb6⟩
  have hb7 := latest_789 hbk
  subst hb7
  have HB6 := Lib.hid (HB5.out.trans (hb6.mono HB5.out.size))
  clear hbk hb6 hr5 HB5
  go_wp2_with fail
  refine (latest_any w6 none 0 0 [] (rowAt_nil w6) (by decide) (fun s hs => by cases hs) 5).mono ?_
  rintro e w7 ⟨b, rfl, hbk, hb7⟩
  have hb8 := latest_nil hbk
  subst hb8
  have HB7 := Lib.hid (HB6.out.trans (hb7.mono HB6.out.size))
  clear hbk hb7 HB6
  go_wp2_with fail
  obtain ⟨W8, hW8⟩ : ∃ z, z = w7.alloc (.cells #[.string nm9, .string nm7] 9) := ⟨_, rfl⟩
  have hr8 : RowAt nameK W8 (some ⟨w7.heap.size, 0, none⟩) 2 2 [nm9, nm7] := by rw [hW8]; exact rowAt_lit nameK_ok w7 [nm9, nm7] (by simp) _ rfl 2 rfl
  have hb8 : Below w7.heap.size w7 W8 := by rw [hW8]; exact (Below.refl _ _).alloc (Nat.le_refl _) _
  have HB8 := Lib.hid (HB7.out.trans (hb8.mono HB7.out.size))
  unfold nm7 nm9 at hW8
  rw [← hW8]
  clear hW8 hb8 HB7
  refine (old_any W8 _ 2 2 _ hr8 (by decide) (fun s hs => small_names (by simp only [List.mem_cons, List.not_mem_nil, or_false] at hs; rcases hs with h | h; exact .inr (.inl h); exact .inl h)) one_97 1 ⟨by decide, by decide⟩).mono ?_
  rintro e w9 ⟨oa, on, oc, S, rfl, hro, hso, hmo, hb9⟩
  have hS := old_97 hso hmo
  rw [hS] at hro
  have hon : on = 1 := hro.length.symm
  subst hon
  obtain ⟨bk, off, s, rfl, hbk, hs, hc9⟩ := hro.get (i := 0) (by decide)
  obtain rfl : nm7 = s := by simpa using hs
  have c9 : w9.cell? ⟨bk, off, none⟩ = some (.string nm7) := hc9 0 _ rfl
  have HB9 := Lib.hid (HB8.out.trans (hb9.mono HB8.out.size))
  have hnn : (nm7.toList == nm7.toList) = true := beq_self_eq_true _
  have hnn2 : (nm7.toList == [48, 48, 48, 48, 48, 48, 48, 48, 48, 48, 48, 48, 48, 48, 48, 48, 48, 48, 48, 55, 46, 115, 110, 97, 112, 115, 104, 111, 116]) = true := by
    rw [ByteArray.toList_eq]
    rfl
  have hge : (some nm7).getD (⟨#[]⟩ : ByteArray) = nm7 := rfl
  (try rw [hge])
  obtain ⟨t, ht⟩ : ∃ t, t = nm7 := ⟨_, rfl⟩
  rw [← ht] at c9 hnn hnn2 ⊢
  clear ht hS hso hmo hro hs hc9 hb9 hr8 HB8 hge
  go_wp2
  go_ret
  exact ⟨rfl, HB9.out⟩
end Go.Proofs.YtgohekjkbgfeeaaGreat
namespace Go.Proofs.YtgohekjkbgfeeaaGreat
open Go.RowKit
open Go.SnapMath
open Go.ProdMath
open Go.BatMath hiding AllB getD_lt take_all
set_option linter.unusedVariables false

theorem snCode : SnapCode (TT 0) := snap_code snReadC_any
theorem snMore : SnapMore TT := snap_more snReadC_any
theorem snKnown (W : World) : Calls Tryz.prog 15 #[] W (GivesBool W true) := known12_any snCode (fun W => (tt_new W).mono fun e w' h => fold_low h) W
theorem in_of {n : Int} (h : (Lit.int .i64 n).wf = true) : In64 n := by
  have := bounds_i64 h
  exact ⟨by omega, by omega⟩
end Go.Proofs.YtgohekjkbgfeeaaGreat
namespace Go.Proofs.YtgohekjkbgfeeaaGreat
open Go.RowKit
open Go.SeqMath
open Go.ProdMath
open Go.BatMath hiding AllB getD_lt take_all
set_option linter.unusedVariables false

/-- A block that is a log without files. -/
def MBox (w : World) (km : Nat) (cap start : Int) (v : Value) : Prop := w.heap[km]? = some (.cells #[.int .i64 cap, .int .i64 start, v] 70 (0, 0))
section
variable {w w' : World} {km : Nat} {cap start : Int} {v : Value}
theorem MBox.c0 (h : MBox w km cap start v) : w.cell? ⟨km, 0, none⟩ = some (.int .i64 cap) := by rw [cell_of_row _ _ 0 _ _ _ h]; rfl
theorem MBox.c1 (h : MBox w km cap start v) : w.cell? ⟨km, 1, none⟩ = some (.int .i64 start) := by rw [cell_of_row _ _ 1 _ _ _ h]; rfl
theorem MBox.c2 (h : MBox w km cap start v) : w.cell? ⟨km, 2, none⟩ = some v := by rw [cell_of_row _ _ 2 _ _ _ h]; rfl
theorem MBox.free (h : MBox w km cap start v) (j : Nat) : w.frozen? ⟨km, j, none⟩ = false := frozen_of_row w km j _ _ h
theorem MBox.lt (h : MBox w km cap start v) : km < w.heap.size := lt_of_block h
theorem MBox.on (h : MBox w km cap start v) (hb : Below w.heap.size w w') : MBox w' km cap start v := by
  have hlt := h.lt
  unfold MBox at *
  rw [hb.block km hlt]
  exact h
theorem MBox.s2 (h : MBox w km cap start v) (u : Value) : MBox (w.setCell ⟨km, 2, none⟩ u) km cap start u := box_set h 2 _
theorem MBox.grown {r : Option Nat} (h : MBox w km cap start v) (hg : w.grownBy w' r) (hr : r ≠ some km) : MBox w' km cap start v := by
  have hlt := h.lt
  unfold MBox at *
  rw [hg.block km hlt (fun e => hr e.symm)]
  exact h
end
theorem batsOk_of {bs : List Bat} (h : RowOk bs) : BatsOk bs := fun b hb => by
  have h1 := ok_of (h b hb).1
  exact ⟨texts_of h1.texts, (h b hb).2.prod.2, by have := h1.recs; omega⟩
set_option maxRecDepth 100000 in
set_option maxHeartbeats 4000000 in
theorem refEnd_any (w : World) (start : Int) (ad : Option Addr) (len cap : Nat) (ms : List BM) (h : BatsAt w ad len cap ms) (hL : len ≤ 100000) (hok : RowOk (bats ms)) (v : Int) (hv : endD start (bats ms) = v) :
    Calls Tryz.prog 91 #[.int .i64 start, .slice ad len cap] w (Says v w) := by
  have hlen := h.row.length
  by_cases h0 : len = 0
  · subst h0
    obtain rfl : ms = [] := List.eq_nil_of_length_eq_zero hlen
    have HV : Hid (start = v) := hv
    clear h hv
    go_enter Tryz.func91, Tryz.ntmps91
    go_wp2
    go_ret
    exact says_mk HV.out (Below.refl _ _)
  · obtain ⟨bk, off, m, rfl, hbk, hm, hrec, c0, c1, c2, c3, c4, c5, c6⟩ := h.get (i := len - 1) (by omega)
    have hlast : (bats ms).getLast? = some m.b := by
      unfold bats
      rw [List.getLast?_eq_getElem?, List.length_map, hlen, List.getElem?_map, hm]; rfl
    have hmem : m.b ∈ bats ms := List.mem_of_mem_getLast? hlast
    have hob := ok_of (hok m.b hmem).1
    have h1 := hob.base0
    have h2 := hob.base1
    have h3 := hob.recs
    rw [end_last hlast] at hv
    obtain ⟨cnt, hcnt⟩ : ∃ cnt, (if m.b.marker ≠ 0 then 1 else (m.b.recs.length : Int)) = cnt := ⟨_, rfl⟩
    have hc2 : countD m.b = cnt := hcnt
    have hc3 : 0 ≤ cnt ∧ cnt ≤ 16 := by rw [← hcnt]; split <;> omega
    rw [hc2] at hv
    have HCNT := Lib.hid hcnt
    have hdl : decide ((len : Int) = 0) = false := decide_eq_false (by omega)
    have hdl2 : ((len : Int) == 0) = false := beq_false_of_ne (by omega)
    have hdl3 : (len == 0) = false := beq_false_of_ne h0
    have hw1 : wrap64 ((len : Int) - 1) = (len : Int) - 1 := by unfold wrap64; omega
    have hi1 : (1 : Int) ≤ (len : Int) := by omega
    have hi2 : (len : Int) - 1 < (len : Int) := by omega
    have hi3 : ((len : Int) - 1).toNat = len - 1 := by omega
    have HVV : Hid (m.b.base + cnt = v) := hv
    clear h hok hlast hmem hob h3 hc2 hcnt hm hrec hbk hlen hv
    go_enter Tryz.func91, Tryz.ntmps91
    go_upto_region 4 with fail
    obtain ⟨W1, hW1⟩ : ∃ W1, W1 = w.alloc (.cells #[.int .i64 m.b.base, .int .i64 m.b.prod, .int .i64 m.b.epoch, .int .i64 m.b.seq, .bool m.b.txn, .int .i64 m.b.marker, .slice m.ad m.b.recs.length m.cap] 56) := ⟨_, rfl⟩
    have HB1 : Hid (Below w.heap.size w W1) := by show Below _ _ _; rw [hW1]; exact (Below.refl _ _).alloc (Nat.le_refl _) _
    obtain ⟨K, hK⟩ : ∃ K, K = w.heap.size := ⟨_, rfl⟩
    have HX1 : Hid (BoxAt W1 K m.b.base m.b.prod m.b.epoch m.b.seq m.b.txn m.b.marker (.slice m.ad m.b.recs.length m.cap)) := by show BoxAt _ _ _ _ _ _ _ _ _; rw [hW1, hK]; exact boxAt_new w _ _ _ _ _ _ _
    rw [← hW1, ← hK]
    clear hW1 hK c0 c1 c2 c3 c4 c5 c6
    have KS : Hid (∀ W, Below W1.heap.size W1 W → (fun (W : World) => W.cell? ⟨K, 0, none⟩ = some (.int .i64 m.b.base) ∧ W.cell? ⟨K, 1, none⟩ = some (.int .i64 m.b.prod) ∧ W.cell? ⟨K, 2, none⟩ = some (.int .i64 m.b.epoch) ∧ W.cell? ⟨K, 3, none⟩ = some (.int .i64 m.b.seq) ∧ W.cell? ⟨K, 4, none⟩ = some (.bool m.b.txn) ∧ W.cell? ⟨K, 5, none⟩ = some (.int .i64 m.b.marker) ∧ W.cell? ⟨K, 6, none⟩ = some (.slice m.ad m.b.recs.length m.cap)) W) := by
      intro W hW
      have hX := HX1.out.on hW
      exact ⟨hX.c0, hX.c1, hX.c2, hX.c3, hX.c4, hX.c5, hX.c6⟩
    have hdrw : Below W1.heap.size W1 W1.drew := (Below.refl _ W1).drew
    have hwr : IntKind.i64.wrap (m.b.base + cnt) = v := by rw [HVV.out]; have := HVV.out; exact IntWalk.i64_in _ (by omega)
    refine wp_region_noPanic ?_
    refine wp_region_z [] (fun (W : World) => W.cell? ⟨K, 0, none⟩ = some (.int .i64 m.b.base) ∧ W.cell? ⟨K, 1, none⟩ = some (.int .i64 m.b.prod) ∧ W.cell? ⟨K, 2, none⟩ = some (.int .i64 m.b.epoch) ∧ W.cell? ⟨K, 3, none⟩ = some (.int .i64 m.b.seq) ∧ W.cell? ⟨K, 4, none⟩ = some (.bool m.b.txn) ∧ W.cell? ⟨K, 5, none⟩ = some (.int .i64 m.b.marker) ∧ W.cell? ⟨K, 6, none⟩ = some (.slice m.ad m.b.recs.length m.cap)) (by kernel_rfl) ?_
    have hHeld : (fun (W : World) => W.cell? ⟨K, 0, none⟩ = some (.int .i64 m.b.base) ∧ W.cell? ⟨K, 1, none⟩ = some (.int .i64 m.b.prod) ∧ W.cell? ⟨K, 2, none⟩ = some (.int .i64 m.b.epoch) ∧ W.cell? ⟨K, 3, none⟩ = some (.int .i64 m.b.seq) ∧ W.cell? ⟨K, 4, none⟩ = some (.bool m.b.txn) ∧ W.cell? ⟨K, 5, none⟩ = some (.int .i64 m.b.marker) ∧ W.cell? ⟨K, 6, none⟩ = some (.slice m.ad m.b.recs.length m.cap)) _ := KS.out _ hdrw
    obtain ⟨u0, hu0⟩ : ∃ u, u = W1.drew := ⟨_, rfl⟩
    rw [← hu0] at hHeld hdrw
    rw [← hu0]
    clear hu0
    have HU := Lib.hid hdrw
    clear hdrw
    refine wpAnyZ_take (i := 0) (oi := ⟨_, _, _, _, _, _⟩) (v := ?_) rfl (by kernel_rfl) (by kernel_rfl) (by kernel_rfl) (by kernel_rfl) (by kernel_rfl) (fun _ _ _ h => h) (Or.inl ⟨by rfl, ?_⟩) (by assumption) ?_
    rotate_left
    · intro W hSw
      (try dsimp only at hSw)
      go_simp
      (try with_reducible rfl)
    (try simp only [Act.put, List.setIfInBounds_toArray, List.set_cons_zero, List.set_cons_succ])
    refine wpAnyZ_take (i := 1) (oi := ⟨_, _, _, _, _, _⟩) (v := ?_) rfl (by kernel_rfl) (by kernel_rfl) (by kernel_rfl) (by kernel_rfl) (by kernel_rfl) (fun _ _ _ h => h) (Or.inl ⟨by rfl, ?_⟩) (by assumption) ?_
    rotate_left
    · intro W hSw
      (try dsimp only at hSw)
      go_simp
      (try with_reducible rfl)
    (try simp only [Act.put, List.setIfInBounds_toArray, List.set_cons_zero, List.set_cons_succ])
    refine wpAnyZ_take (i := 2) (oi := ⟨_, _, _, _, _, _⟩) (v := ?_) rfl (by kernel_rfl) (by kernel_rfl) (by kernel_rfl) (by kernel_rfl) (by kernel_rfl) (fun _ _ _ h => h) (Or.inl ⟨by rfl, ?_⟩) (by assumption) ?_
    rotate_left
    · intro W hSw
      (try dsimp only at hSw)
      go_simp
      (try with_reducible rfl)
    (try simp only [Act.put, List.setIfInBounds_toArray, List.set_cons_zero, List.set_cons_succ])
    refine wpAnyZ_ready (rs := [3]) (by kernel_rfl) (by simp) ?_
    refine AllReadyZ.cons (o := ⟨_, _, _, _, _, _⟩) rfl (fun C hC => ?_) AllReadyZ.nil
    go_simp
    refine (refCount_any u0 _ _ _ _ _ _ m.ad m.b.recs.length m.cap cnt HCNT.out).mono ?_
    rintro e u1 ⟨rfl, hbb⟩
    have HU1 := Lib.hid (HU.out.trans (hbb.mono HU.out.size))
    clear hbb
    go_wp2_with fail
    have hHeld : (fun (W : World) => W.cell? ⟨K, 0, none⟩ = some (.int .i64 m.b.base) ∧ W.cell? ⟨K, 1, none⟩ = some (.int .i64 m.b.prod) ∧ W.cell? ⟨K, 2, none⟩ = some (.int .i64 m.b.epoch) ∧ W.cell? ⟨K, 3, none⟩ = some (.int .i64 m.b.seq) ∧ W.cell? ⟨K, 4, none⟩ = some (.bool m.b.txn) ∧ W.cell? ⟨K, 5, none⟩ = some (.int .i64 m.b.marker) ∧ W.cell? ⟨K, 6, none⟩ = some (.slice m.ad m.b.recs.length m.cap)) u1 := KS.out _ HU1.out
    refine hC.out _ _ (fun _ => hHeld) (fun _ => ?_)
    clear hC C
    (try simp only [Act.put, List.setIfInBounds_toArray, List.set_cons_zero, List.set_cons_succ])
    refine wpAnyZ_take (i := 4) (oi := ⟨_, _, _, _, _, _⟩) (v := ?_) rfl (by kernel_rfl) (by kernel_rfl) (by kernel_rfl) (by kernel_rfl) (by kernel_rfl) (fun _ _ _ h => h) (Or.inl ⟨by rfl, ?_⟩) (by assumption) ?_
    rotate_left
    · intro W hSw
      (try dsimp only at hSw)
      go_simp
      (try with_reducible rfl)
    (try simp only [Act.put, List.setIfInBounds_toArray, List.set_cons_zero, List.set_cons_succ])
    refine wpAnyZ_take (i := 5) (oi := ⟨_, _, _, _, _, _⟩) (v := ?_) rfl (by kernel_rfl) (by kernel_rfl) (by kernel_rfl) (by kernel_rfl) (by kernel_rfl) (fun _ _ _ h => h) (Or.inl ⟨by rfl, ?_⟩) (by assumption) ?_
    rotate_left
    · intro W hSw
      (try dsimp only at hSw)
      go_simp
      (try with_reducible rfl)
    (try simp only [Act.put, List.setIfInBounds_toArray, List.set_cons_zero, List.set_cons_succ])
    refine wpAnyZ_done (by kernel_rfl) ?_ _
    refine NoPanic.normal ?_
    go_wp2
    go_ret
    exact says_mk (by first | rfl | exact HVV.out) (HB1.out.trans (HU1.out.mono HB1.out.size))
set_option maxRecDepth 100000 in
set_option maxHeartbeats 4000000 in
theorem modEnd_any (w : World) (km : Nat) (mc start : Int) (ad : Option Addr) (len cap : Nat) (ms : List BM) (hm : MBox w km mc start (.slice ad len cap)) (h : BatsAt w ad len cap ms) (hL : len ≤ 100000) (hok : RowOk (bats ms)) (v : Int) (hv : endD start (bats ms) = v) :
    Calls Tryz.prog 55 #[.pointer (some ⟨km, 0, none⟩)] w (Says v w) := by
  have HM := Lib.hid hm
  have H := Lib.hid h
  clear hm h
  go_enter Tryz.func55, Tryz.ntmps55
  go_upto_region 1 with fail
  have KS : Hid (∀ W, Below w.heap.size w W → (fun (W : World) => W.cell? ⟨km, 1, none⟩ = some (.int .i64 start) ∧ W.cell? ⟨km, 2, none⟩ = some (.slice ad len cap)) W) := by
    intro W hW
    have hX := HM.out.on hW
    exact ⟨hX.c1, hX.c2⟩
  have hdrw : Below w.heap.size w w.drew := (Below.refl _ w).drew
  refine wp_region_noPanic ?_
  refine wp_region_z [] (fun (W : World) => W.cell? ⟨km, 1, none⟩ = some (.int .i64 start) ∧ W.cell? ⟨km, 2, none⟩ = some (.slice ad len cap)) (by kernel_rfl) ?_
  have hHeld : (fun (W : World) => W.cell? ⟨km, 1, none⟩ = some (.int .i64 start) ∧ W.cell? ⟨km, 2, none⟩ = some (.slice ad len cap)) _ := KS.out _ hdrw
  obtain ⟨u0, hu0⟩ : ∃ u, u = w.drew := ⟨_, rfl⟩
  rw [← hu0] at hHeld hdrw
  rw [← hu0]
  clear hu0
  have HU := Lib.hid hdrw
  clear hdrw
  refine wpAnyZ_take (i := 0) (oi := ⟨_, _, _, _, _, _⟩) (v := ?_) rfl (by kernel_rfl) (by kernel_rfl) (by kernel_rfl) (by kernel_rfl) (by kernel_rfl) (fun _ _ _ h => h) (Or.inl ⟨by rfl, ?_⟩) (by assumption) ?_
  rotate_left
  · intro W hSw
    (try dsimp only at hSw)
    go_simp
    (try with_reducible rfl)
  (try simp only [Act.put, List.setIfInBounds_toArray, List.set_cons_zero, List.set_cons_succ])
  refine wpAnyZ_take (i := 1) (oi := ⟨_, _, _, _, _, _⟩) (v := ?_) rfl (by kernel_rfl) (by kernel_rfl) (by kernel_rfl) (by kernel_rfl) (by kernel_rfl) (fun _ _ _ h => h) (Or.inl ⟨by rfl, ?_⟩) (by assumption) ?_
  rotate_left
  · intro W hSw
    (try dsimp only at hSw)
    go_simp
    (try with_reducible rfl)
  (try simp only [Act.put, List.setIfInBounds_toArray, List.set_cons_zero, List.set_cons_succ])
  refine wpAnyZ_take (i := 2) (oi := ⟨_, _, _, _, _, _⟩) (v := ?_) rfl (by kernel_rfl) (by kernel_rfl) (by kernel_rfl) (by kernel_rfl) (by kernel_rfl) (fun _ _ _ h => h) (Or.inl ⟨by rfl, ?_⟩) (by assumption) ?_
  rotate_left
  · intro W hSw
    (try dsimp only at hSw)
    go_simp
    (try with_reducible rfl)
  (try simp only [Act.put, List.setIfInBounds_toArray, List.set_cons_zero, List.set_cons_succ])
  refine wpAnyZ_take (i := 3) (oi := ⟨_, _, _, _, _, _⟩) (v := ?_) rfl (by kernel_rfl) (by kernel_rfl) (by kernel_rfl) (by kernel_rfl) (by kernel_rfl) (fun _ _ _ h => h) (Or.inl ⟨by rfl, ?_⟩) (by assumption) ?_
  rotate_left
  · intro W hSw
    (try dsimp only at hSw)
    go_simp
    (try with_reducible rfl)
  (try simp only [Act.put, List.setIfInBounds_toArray, List.set_cons_zero, List.set_cons_succ])
  refine wpAnyZ_take (i := 4) (oi := ⟨_, _, _, _, _, _⟩) (v := ?_) rfl (by kernel_rfl) (by kernel_rfl) (by kernel_rfl) (by kernel_rfl) (by kernel_rfl) (fun _ _ _ h => h) (Or.inl ⟨by rfl, ?_⟩) (by assumption) ?_
  rotate_left
  · intro W hSw
    (try dsimp only at hSw)
    go_simp
    (try with_reducible rfl)
  (try simp only [Act.put, List.setIfInBounds_toArray, List.set_cons_zero, List.set_cons_succ])
  refine wpAnyZ_take (i := 5) (oi := ⟨_, _, _, _, _, _⟩) (v := ?_) rfl (by kernel_rfl) (by kernel_rfl) (by kernel_rfl) (by kernel_rfl) (by kernel_rfl) (fun _ _ _ h => h) (Or.inl ⟨by rfl, ?_⟩) (by assumption) ?_
  rotate_left
  · intro W hSw
    (try dsimp only at hSw)
    go_simp
    (try with_reducible rfl)
  (try simp only [Act.put, List.setIfInBounds_toArray, List.set_cons_zero, List.set_cons_succ])
  refine wpAnyZ_take (i := 6) (oi := ⟨_, _, _, _, _, _⟩) (v := ?_) rfl (by kernel_rfl) (by kernel_rfl) (by kernel_rfl) (by kernel_rfl) (by kernel_rfl) (fun _ _ _ h => h) (Or.inl ⟨by rfl, ?_⟩) (by assumption) ?_
  rotate_left
  · intro W hSw
    (try dsimp only at hSw)
    go_simp
    (try with_reducible rfl)
  (try simp only [Act.put, List.setIfInBounds_toArray, List.set_cons_zero, List.set_cons_succ])
  refine wpAnyZ_take (i := 7) (oi := ⟨_, _, _, _, _, _⟩) (v := ?_) rfl (by kernel_rfl) (by kernel_rfl) (by kernel_rfl) (by kernel_rfl) (by kernel_rfl) (fun _ _ _ h => h) (Or.inl ⟨by rfl, ?_⟩) (by assumption) ?_
  rotate_left
  · intro W hSw
    (try dsimp only at hSw)
    go_simp
    (try with_reducible rfl)
  (try simp only [Act.put, List.setIfInBounds_toArray, List.set_cons_zero, List.set_cons_succ])
  refine wpAnyZ_ready (rs := [8]) (by kernel_rfl) (by simp) ?_
  refine AllReadyZ.cons (o := ⟨_, _, _, _, _, _⟩) rfl (fun C hC => ?_) AllReadyZ.nil
  go_simp
  refine (refEnd_any u0 start ad len cap ms (H.out.keep HU.out) hL hok v hv).mono ?_
  rintro e u1 ⟨rfl, hbb⟩
  have HU1 := Lib.hid (HU.out.trans (hbb.mono HU.out.size))
  clear hbb
  go_wp2_with fail
  have hHeld : (fun (W : World) => W.cell? ⟨km, 1, none⟩ = some (.int .i64 start) ∧ W.cell? ⟨km, 2, none⟩ = some (.slice ad len cap)) u1 := KS.out _ HU1.out
  refine hC.out _ _ (fun _ => hHeld) (fun _ => ?_)
  clear hC C
  (try simp only [Act.put, List.setIfInBounds_toArray, List.set_cons_zero, List.set_cons_succ])
  refine wpAnyZ_take (i := 9) (oi := ⟨_, _, _, _, _, _⟩) (v := ?_) rfl (by kernel_rfl) (by kernel_rfl) (by kernel_rfl) (by kernel_rfl) (by kernel_rfl) (fun _ _ _ h => h) (Or.inl ⟨by rfl, ?_⟩) (by assumption) ?_
  rotate_left
  · intro W hSw
    (try dsimp only at hSw)
    go_simp
    (try with_reducible rfl)
  (try simp only [Act.put, List.setIfInBounds_toArray, List.set_cons_zero, List.set_cons_succ])
  refine wpAnyZ_done (by kernel_rfl) ?_ _
  refine NoPanic.normal ?_
  go_wp2
  go_ret
  exact says_mk rfl HU1.out
def SizeLoop (w : World) (bs : List Bat) (j : Nat) (v3 : Value) (wr : World) : Prop := v3 = .int .i64 (bytesD (bs.take j)) ∧ Below w.heap.size w wr
set_option maxRecDepth 100000 in
set_option maxHeartbeats 4000000 in
theorem modSize_any (w : World) (km : Nat) (mc start : Int) (ad : Option Addr) (len cap : Nat) (ms : List BM) (hm : MBox w km mc start (.slice ad len cap)) (h : BatsAt w ad len cap ms) (hL : len ≤ 100000) (hok : RowOk (bats ms)) (v : Int) (hv : bytesD (bats ms) = v) :
    Calls Tryz.prog 88 #[.pointer (some ⟨km, 0, none⟩)] w (Says v w) := by
  have H := Lib.hid h
  have hlen := h.row.length
  obtain ⟨bs, hbs⟩ : ∃ bs, bs = bats ms := ⟨_, rfl⟩
  have hbl : bs.length = len := by rw [hbs]; unfold bats; rw [List.length_map]; exact hlen
  have HGET : Hid (∀ (i : Nat) m, ms[i]? = some m → bs[i]? = some m.b) := by
    intro i m hm
    rw [hbs]; unfold bats
    rw [List.getElem?_map, hm]; rfl
  rw [← hbs] at hok hv
  have HOK := Lib.hid hok
  have HV := Lib.hid hv
  have m2 := hm.c2
  clear h hbs hlen hok hv hm
  go_enter Tryz.func88, Tryz.ntmps88
  go_wp2
  clear m2
  go_loopw [3, 11] (fun v3 v11 wr => ∃ j : Nat, v11 = .int .i64 (j : Int) ∧ j ≤ len ∧ SizeLoop w bs j v3 wr) (fun _ v11 _ => len - (intOf v11).toNat)
  case atStart => exact ⟨0, rfl, Nat.zero_le _, rfl, Below.refl _ _⟩
  case round =>
    obtain ⟨j, rfl, hj, rfl, hbel⟩ := hrel
    have HB := Lib.hid hbel
    clear hbel
    obtain ⟨wo, hwo⟩ : ∃ wo : World, wo = wr := ⟨_, rfl⟩
    subst hwo
    obtain ⟨x, hx⟩ : ∃ x, bytesD (bs.take j) = x := ⟨_, rfl⟩
    have hxb : 0 ≤ x ∧ x ≤ 240400000 := by
      have h1 := bytesD_bd (bs.take j)
      rw [hx, List.length_take] at h1
      omega
    obtain ⟨hx0, hx1⟩ := hxb
    rw [hx]
    have HX := Lib.hid hx
    clear hx
    by_cases hlt : j < len
    · have hd : decide (j < len) = true := decide_eq_true hlt
      have hjl : (j : Int) < (len : Int) := by omega
      obtain ⟨bk, off, m, rfl, hbk, hm, hrec, c0, c1, c2, c3, c4, c5, c6⟩ := (H.out.keep HB.out).get hlt
      have hbm := HGET.out j m hm
      have hmem := List.mem_of_getElem? hbm
      have hob := ok_of (HOK.out m.b hmem).1
      have HTX := Lib.hid (texts_of hob.texts)
      have hr16 := hob.recs
      have hpr := (HOK.out m.b hmem).2.prod.2
      obtain ⟨s, hs⟩ : ∃ s, sizeB m.b = s := ⟨_, rfl⟩
      have hsb : 0 ≤ s ∧ s ≤ 2404 := by rw [← hs]; exact size_bd _
      obtain ⟨hs0, hs1⟩ := hsb
      have HNX : Hid (bytesD (bs.take (j + 1)) = x + s) := by
        show _ = _
        rw [List.take_add_one, hbm]
        show bytesD (bs.take j ++ [m.b]) = _
        rw [bytesD_snoc, HX.out, hs]
      have HS := Lib.hid hs
      have HRC := Lib.hid hrec
      clear hbm hmem hob hs hm hrec hbk
      go_upto_region 5 with fail
      obtain ⟨W1, hW1⟩ : ∃ W1, W1 = wo.alloc (.cells #[.int .i64 m.b.base, .int .i64 m.b.prod, .int .i64 m.b.epoch, .int .i64 m.b.seq, .bool m.b.txn, .int .i64 m.b.marker, .slice m.ad m.b.recs.length m.cap] 56) := ⟨_, rfl⟩
      have hb1 : Below wo.heap.size wo W1 := by rw [hW1]; exact (Below.refl _ _).alloc (Nat.le_refl _) _
      obtain ⟨K, hK⟩ : ∃ K, K = wo.heap.size := ⟨_, rfl⟩
      have HX1 : Hid (BoxAt W1 K m.b.base m.b.prod m.b.epoch m.b.seq m.b.txn m.b.marker (.slice m.ad m.b.recs.length m.cap)) := by show BoxAt _ _ _ _ _ _ _ _ _; rw [hW1, hK]; exact boxAt_new wo _ _ _ _ _ _ _
      have HRC1 := Lib.hid (HRC.out.keep hb1)
      have HB1 := Lib.hid (HB.out.trans (hb1.mono HB.out.size))
      rw [← hW1, ← hK]
      clear hW1 hK hb1 c0 c1 c2 c3 c4 c5 c6 HB
      have p0 := HX1.out.c0
      have p1 := HX1.out.c1
      have p2 := HX1.out.c2
      have p3 := HX1.out.c3
      have p4 := HX1.out.c4
      have p5 := HX1.out.c5
      have p6 := HX1.out.c6
      go_wp2_with fail
      have CS := refSize_any W1 m.b m.ad m.b.recs.length m.cap HRC1.out HTX.out (by omega) hpr
      rw [HS.out] at CS
      refine CS.mono ?_
      clear CS
      rintro e w2 ⟨rfl, hb2⟩
      have HB2 := Lib.hid (HB1.out.trans (hb2.mono HB1.out.size))
      clear hb2 p0 p1 p2 p3 p4 p5 p6
      go_wp2
      go_roundw
      case rel => exact ⟨j + 1, by go_num, by omega, by rw [HNX.out], HB2.out⟩
      case measure => simp [intOf]; omega
    · have hd : decide (j < len) = false := decide_eq_false hlt
      have HE : Hid (x = v) := by show x = v; rw [← HX.out, List.take_of_length_le (by omega), HV.out]
      go_wp2
      go_ret
      exact says_mk HE.out HB.out
end Go.Proofs.YtgohekjkbgfeeaaGreat
