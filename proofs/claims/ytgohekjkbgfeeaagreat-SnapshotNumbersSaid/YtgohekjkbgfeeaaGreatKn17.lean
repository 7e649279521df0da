/- Parts of a proof, merged: SnSameS, SnSeen, Masks, SnTells, ModEnd. -/
import Derived.WalkKit
import Derived.IntWalk
import Derived.Laws.BitsAllLaws
import Derived.Test.YtgohekjkbgfeeaaGreatKn1
import Derived.Test.YtgohekjkbgfeeaaGreatKn13
import Derived.Test.YtgohekjkbgfeeaaGreatKn7
import Derived.Test.YtgohekjkbgfeeaaGreatKn5
import Derived.Test.YtgohekjkbgfeeaaGreatKn15
import Derived.Test.YtgohekjkbgfeeaaGreatKn16
import Derived.Test.YtgohekjkbgfeeaaGreatKn14
import Derived.Test.YtgohekjkbgfeeaaGreatKn10
import Derived.Test.YtgohekjkbgfeeaaGreatKn3
namespace Go.Proofs.YtgohekjkbgfeeaaGreat
open Go.RowKit
open Go.SnapMath
set_option linter.unusedVariables false

set_option maxRecDepth 100000 in
set_option maxHeartbeats 4000000 in
theorem sameS_any (w : World) (a1 a2 : Option Addr) (n c1 c2 : Nat) (l : List ByteArray) (h1 : RowAt nameK w a1 n c1 l) (h2 : RowAt nameK w a2 n c2 l) (hn : n ≤ 100000) :
 Calls Tryz.prog 35 #[.slice a1 n c1, .slice a2 n c2] w (GivesBool w true) := by
 have H1 := Lib.hid h1
 have H2 := Lib.hid h2
 clear h1 h2
 go_enter Tryz.func35, Tryz.ntmps35
 go_wp2
 go_loopw [5] (fun v5 wr => ∃ i : Nat, v5 = .int .i64 (i : Int) ∧ i ≤ n ∧ Hid (Below w.heap.size w wr)) (fun v5 _ => n - (intOf v5).toNat)
 case atStart => exact ⟨0, rfl, Nat.zero_le _, Below.refl _ _⟩
 case round =>
  obtain ⟨i, rfl, hi, HB⟩ := hrel
  obtain ⟨wo, hwo⟩ : ∃ wo : World, wo = wr := ⟨_, rfl⟩
  subst hwo
  by_cases hlt : i < n
  · have hd : decide (i < n) = true := decide_eq_true hlt
    have hil : (i : Int) < (n : Int) := by omega
    obtain ⟨b1, o1, s, rfl, hb1, hs, hc1⟩ := (H1.out.keep HB.out).get hlt
    obtain ⟨b2, o2, s2, rfl, hb2, hs2, hc2⟩ := (H2.out.keep HB.out).get hlt
    obtain rfl : s = s2 := by rw [hs] at hs2; exact Option.some.inj hs2
    have c0 : wo.cell? ⟨b1, o1 + i, none⟩ = some (.string s) := by
     have h1 := hc1 0 _ rfl
     rwa [show o1 + (i * nameK.size + 0) = o1 + i by show o1 + (i * 1 + 0) = _; omega] at h1
    have d0 : wo.cell? ⟨b2, o2 + i, none⟩ = some (.string s) := by
     have h1 := hc2 0 _ rfl
     rwa [show o2 + (i * nameK.size + 0) = o2 + i by show o2 + (i * 1 + 0) = _; omega] at h1
    have hss : (s.toList == s.toList) = true := beq_self_eq_true _
    have hi0 : (0 : Int) ≤ (i : Int) := by omega
    have KS : Hid (∀ V, Below wo.heap.size wo V → (fun (V : World) => V.cell? ⟨b1, o1 + i, none⟩ = some (.string s) ∧ V.cell? ⟨b2, o2 + i, none⟩ = some (.string s)) V) := fun V hV => ⟨(hV.cell (p := ⟨b1, o1 + i, none⟩) hb1).trans c0, (hV.cell (p := ⟨b2, o2 + i, none⟩) hb2).trans d0⟩
    clear hs hs2 hc1 hc2 c0 d0
    go_upto_region 6 with fail
    have hdrw : Below wo.heap.size wo wo.drew := (Below.refl _ wo).drew
    refine wp_region_noPanic ?_
    refine wp_region_z [] (fun (V : World) => V.cell? ⟨b1, o1 + i, none⟩ = some (.string s) ∧ V.cell? ⟨b2, o2 + i, none⟩ = some (.string s)) (by kernel_rfl) ?_
    have hHeld := KS.out _ hdrw
    obtain ⟨u0, hu0⟩ : ∃ u, u = wo.drew := ⟨_, rfl⟩
    rw [← hu0] at hHeld hdrw
    rw [← hu0]
    clear hu0
    have HU0 := Lib.hid hdrw
    clear hdrw
    refine zt 0 ?_
    refine zt 1 ?_
    refine zt 2 ?_
    refine zt 3 ?_
    refine zt 4 ?_
    refine zt 5 ?_
    refine zt 6 ?_
    refine zt 7 ?_
    refine zt 8 ?_
    refine wpAnyZ_done (by kernel_rfl) ?_ _
    refine NoPanic.normal ?_
    clear hHeld
    have HBZ := Lib.hid (HB.out.trans (HU0.out.mono HB.out.size))
    clear KS HU0 hb1 hb2
    go_wp2
    go_roundw
    case rel => exact ⟨i + 1, rfl, by omega, HBZ.out⟩
    case measure => simp [intOf]; omega
  · have hd : decide (i < n) = false := decide_eq_false hlt
    go_wp2
    go_ret
    exact ⟨rfl, HB.out⟩
end Go.Proofs.YtgohekjkbgfeeaaGreat
namespace Go.Proofs.YtgohekjkbgfeeaaGreat
open Go.RowKit
set_option linter.unusedVariables false

theorem keyS : Maps.Keyed Tryz.prog 9 := Maps.string_keyed Tryz.underlying9
theorem seenT : Tryz.prog.underlying 44 = some (.map 9 3) := Tryz.underlying44
def seenE (p : ByteArray × Nat) : Value × Value := (.string p.1, .int .i64 (p.2 : Int))
def SeenAt (w : World) (km : Nat) (ps : List (ByteArray × Nat)) : Prop := MapAs Tryz.prog 9 seenE w km ps
def seenC (ps : List (ByteArray × Nat)) (s : ByteArray) : Nat := match ps.find? fun p => decide (p.1 = s) with
 | some p => p.2
 | none => 0
theorem key_str (s : ByteArray) (hs : s.size ≤ 1000000) : ∃ l, keyOf Tryz.prog 9 (.string s) = some l := ⟨_, WideMaps.keyOf_string_mk Tryz.underlying9 (Nat.le_trans hs (by decide))⟩
theorem zero_int (w : World) : (zeroValue 3).run Tryz.prog w = .ok (.int .i64 0) w := Tryz.zeroValue3 w
theorem seen_cases (ps : List (ByteArray × Nat)) (s : ByteArray) : (seenC ps s = 0 ∧ ∀ p ∈ ps, p.1 ≠ s) ∨ (∃ p ∈ ps, p.1 = s ∧ seenC ps s = p.2) := by
 unfold seenC
 cases hf : ps.find? fun p => decide (p.1 = s) with
 | none =>
   refine .inl ⟨rfl, fun p hp e => ?_⟩
   have := List.find?_eq_none.1 hf p hp
   exact this (by simp [e])
 | some p =>
   refine .inr ⟨p, List.mem_of_find?_eq_some hf, ?_, rfl⟩
   exact of_decide_eq_true (List.find?_some (p := fun p : ByteArray × Nat => decide (p.1 = s)) hf)
theorem seen_look {w : World} {km : Nat} {ps : List (ByteArray × Nat)} (h : SeenAt w km ps) (s : ByteArray) (hs : s.size ≤ 1000000) : (Instr.lookup 44 (.map (some km)) (.string s) false).run Tryz.prog w = .ok (.int .i64 (seenC ps s : Int)) w := by
 rcases seen_cases ps s with ⟨e, hn⟩ | ⟨p, hp, e, e2⟩
 · rw [e]
   exact mapAs_none seenT keyS h _ (key_str s hs) (fun q hq e => hn q hq (by simpa [seenE] using e)) _ (zero_int w) false
 · subst e
   have h1 := mapAs_some seenT keyS h p hp false
   rw [e2]
   exact h1
theorem seen_put {w : World} {km N : Nat} {ps : List (ByteArray × Nat)} (h : SeenAt w km ps) (s : ByteArray) (hs : s.size ≤ 1000000) (hN : ∀ p ∈ ps, 1 ≤ p.2 ∧ p.2 ≤ N) :
 ∃ w' qs, (Instr.mapUpdate 44 (.map (some km)) (.string s) (.int .i64 ((seenC ps s : Int) + 1))).run Tryz.prog w = .ok () w' ∧ SeenAt w' km qs ∧ (∀ p ∈ qs, 1 ≤ p.2 ∧ p.2 ≤ N + 1) ∧ (∀ p ∈ ps, ∃ q ∈ qs, q.1 = p.1) ∧ (∃ q ∈ qs, q.1 = s) ∧ w.grownBy w' (some km) := by
 rcases seen_cases ps s with ⟨e, hn⟩ | ⟨p, hp, e, e2⟩
 · obtain ⟨w', hrun, hmap, hg, _⟩ := mapAs_put seenT keyS h (s, 1) (key_str s hs) (fun q hq e => hn q hq (by simpa [seenE] using e))
   refine ⟨w', _, by rw [e]; exact hrun, hmap, fun q hq => ?_, fun q hq => ⟨q, by simp [hq], rfl⟩, ⟨(s, 1), by simp, rfl⟩, hg⟩
   rcases List.mem_cons.1 hq with rfl | hq
   · exact ⟨Nat.le_refl _, by show 1 ≤ N + 1; omega⟩
   · have := hN q hq; omega
 · obtain ⟨a, b, hab⟩ := List.append_of_mem hp
   have hperm : ps.Perm (p :: (a ++ b)) := by rw [hab]; exact List.perm_middle
   obtain ⟨w', hrun, hmap, hg, _⟩ := mapAs_set seenT keyS (h.perm hperm) (s, p.2 + 1) (by show Value.string p.1 = .string s; rw [e])
   refine ⟨w', _, by rw [e2]; exact hrun, hmap, fun q hq => ?_, fun q hq => ?_, ⟨(s, p.2 + 1), by simp, rfl⟩, hg⟩
   · rcases List.mem_cons.1 hq with rfl | hq
     · have := hN p hp
       exact ⟨by show 1 ≤ p.2 + 1; omega, by show p.2 + 1 ≤ N + 1; omega⟩
     · have := hN q (hperm.mem_iff.2 (by simp [hq])); omega
   · rcases List.mem_cons.1 (hperm.mem_iff.1 hq) with rfl | hq
     · exact ⟨(s, q.2 + 1), by simp, e.symm⟩
     · exact ⟨q, by simp [hq], rfl⟩
theorem seen_zero {ps : List (ByteArray × Nat)} {s : ByteArray} {N : Nat} (hN : ∀ p ∈ ps, 1 ≤ p.2 ∧ p.2 ≤ N) (h : seenC ps s = 0) : ∀ p ∈ ps, p.1 ≠ s := by
 rcases seen_cases ps s with ⟨_, hn⟩ | ⟨p, hp, e, e2⟩
 · exact hn
 · have := hN p hp; omega
theorem seen_le {ps : List (ByteArray × Nat)} {s : ByteArray} {N : Nat} (hN : ∀ p ∈ ps, 1 ≤ p.2 ∧ p.2 ≤ N) : seenC ps s ≤ N := by
 rcases seen_cases ps s with ⟨e, hn⟩ | ⟨p, hp, e, e2⟩
 · omega
 · have := hN p hp; omega
theorem mask63 (a : Int) : bits .and .i64 a 63 = a % 64 := by
 have h1 : (BitVec.ofInt 64 63).toNat = 2 ^ 6 - 1 := by decide
 have key : (BitVec.ofInt 64 a &&& BitVec.ofInt 64 63).toNat = (a % ((2 ^ 64 : Nat) : Int)).toNat % 2 ^ 6 := by
  rw [BitVec.toNat_and, BitVec.toNat_ofInt, h1, Nat.and_two_pow_sub_one_eq_mod]
 show IntKind.i64.wrap ((BitVec.ofInt 64 a &&& BitVec.ofInt 64 63).toNat : Nat) = _
 rw [key, IntKind.wrap_i64]
 omega
theorem mask7 (a : Int) : bits .and .i64 a 7 = a % 8 := by
 have h1 : (BitVec.ofInt 64 7).toNat = 2 ^ 3 - 1 := by decide
 have key : (BitVec.ofInt 64 a &&& BitVec.ofInt 64 7).toNat = (a % ((2 ^ 64 : Nat) : Int)).toNat % 2 ^ 3 := by
  rw [BitVec.toNat_and, BitVec.toNat_ofInt, h1, Nat.and_two_pow_sub_one_eq_mod]
 show IntKind.i64.wrap ((BitVec.ofInt 64 a &&& BitVec.ofInt 64 7).toNat : Nat) = _
 rw [key, IntKind.wrap_i64]
 omega
end Go.Proofs.YtgohekjkbgfeeaaGreat
namespace Go.Proofs.YtgohekjkbgfeeaaGreat
open Go.RowKit

theorem mask16 (a : Int) : bits .and .i64 a 65535 = a % 65536 := by
 have h1 : (BitVec.ofInt 64 65535).toNat = 2 ^ 16 - 1 := by decide
 have key : (BitVec.ofInt 64 a &&& BitVec.ofInt 64 65535).toNat = (a % ((2 ^ 64 : Nat) : Int)).toNat % 2 ^ 16 := by
  rw [BitVec.toNat_and, BitVec.toNat_ofInt, h1, Nat.and_two_pow_sub_one_eq_mod]
 show IntKind.i64.wrap ((BitVec.ofInt 64 a &&& BitVec.ofInt 64 65535).toNat : Nat) = _
 rw [key, IntKind.wrap_i64]
 omega
end Go.Proofs.YtgohekjkbgfeeaaGreat
namespace Go.Proofs.YtgohekjkbgfeeaaGreat
open Go.RowKit
open Go.SnapMath
open Go.ProdMath
open Go.BatMath hiding AllB take_all
set_option linter.unusedVariables false

/-- What the walk over lists wants of some names. -/
theorem lists_do (w : World) (ad : Option Addr) (len cap : Nat) (ns : List ByteArray) (h : RowAt nameK w ad len cap ns) (hL : len ≤ 100000) (hs : ∀ s ∈ ns, s.size ≤ 1073741824) (hone : ns.Pairwise (· ≠ ·)) (end0 keep : Int) (hk64 : -9223372036854775808 ≤ keep ∧ keep ≤ 9223372036854775807) :
 Calls Tryz.prog 14 #[.slice ad len cap, .int .i64 end0, .int .i64 keep] w (GivesBool w true) :=
 snLists_any w ad len cap ns snapP h hL (names_are hs) end0 keep hk64 (fun W hb => latest_any W ad len cap ns (h.keep hb) hL hs end0) (fun W hb => old_any W ad len cap ns (h.keep hb) hL hs hone keep hk64) (fun W a1 a2 n c1 c2 l h1 h2 hn => sameS_any W a1 a2 n c1 c2 l h1 h2 hn)
def kd3 (r : Nat) : ByteArray := if r = 2 then ⟨#[108, 111, 103]⟩ else ⟨#[115, 110, 97, 112, 115, 104, 111, 116]⟩
theorem kd3_size (r : Nat) : (kd3 r).size ≤ 8 := by unfold kd3; split <;> decide
theorem lit3 (w : World) (r : Nat) (hr : r < 3) : (w.alloc (.cells #[.string ⟨#[115, 110, 97, 112, 115, 104, 111, 116]⟩, .string ⟨#[115, 110, 97, 112, 115, 104, 111, 116]⟩, .string ⟨#[108, 111, 103]⟩] 9)).cell? ⟨w.heap.size, r, none⟩ = some (.string (kd3 r)) := by
 rw [cell_of_row _ _ _ _ _ _ (heap_alloc_new w _)]
 match r, hr with
 | 0, _ => rfl
 | 1, _ => rfl
 | 2, _ => rfl
theorem file_size {y : Int} {k : ByteArray} (hk : k.size ≤ 8) : (fileV y k).size ≤ 1000 := by
 unfold fileV Go.RuneMath.fileS
 rw [bs_size]
 split
 · rw [Go.RuneMath.file_len, ← Lib.size_eq]
   omega
 · decide
set_option maxRecDepth 100000 in
set_option maxHeartbeats 8000000 in
theorem snTells_any {T : World → Addr → List Pd → Prop} (C : SnapCode T) (K : ∀ W, Calls Tryz.prog 15 #[] W (GivesBool W true)) (w : World) (tad : Option Addr) (tlen tcap : Nat)
 (hrow : Calls Tryz.prog 7 #[.slice tad tlen tcap, .int .i64 0, .int .i64 25] w (RowDoes w 0 25)) (at0 : Int)
 (rad : Option Addr) (rlen rcap : Nat) (raw : List Nat) (hraw : Row w rad rlen rcap raw) (hrl : rlen ≤ 1048590) (place : Int) (hpl : In64 place) (turn : Nat)
 (bad : Option Addr) (bl bcap : Nat) (zs : List Int) (hbases : RowAt idK w bad bl bcap zs) (hbl : bl ≤ 100000000) (end0 keep : Int) (hk64 : -9223372036854775808 ≤ keep ∧ keep ≤ 9223372036854775807) :
 Calls Tryz.prog 4 #[.slice tad tlen tcap, .int .i64 at0, .slice rad rlen rcap, .int .i64 place, .int .u8 (turn : Int), .slice bad bl bcap, .int .i64 end0, .int .i64 keep] w (GivesBool w true) := by
 have HC := Lib.hid C
 have HK := Lib.hid K
 have HR := Lib.hid hrow
 have HRAW := Lib.hid hraw
 have HBAS := Lib.hid hbases
 clear C K hrow hraw hbases
 have hmk : bits .and .i64 at0 65535 = at0 % 65536 := mask16 at0
 obtain ⟨n, hn⟩ : ∃ n : Int, n = at0 % 65536 := ⟨_, rfl⟩
 rw [← hn] at hmk
 have hn0 : 0 ≤ n ∧ n ≤ 65535 := by omega
 have hn64 : In64 n := ⟨by omega, by omega⟩
 have HMK := Lib.hid hmk
 clear hn
 go_enter Tryz.func4, Tryz.ntmps4
 go_wp2_with fail
 refine HR.out.mono ?_
 rintro e w1 ⟨ad, len, cap, ms, rfl, hba, hok, hrd, hlen, hb1⟩
 have hacc := row_acc hrd (by decide) (by decide)
 have hfl : (foldP [] (bats ms)).length ≤ 5000 := by
  have h1 := fold_len (bats ms) []
  have h2 : (bats ms).length = len := by unfold bats; rw [List.length_map]; exact hba.row.length
  rw [h2, List.length_nil] at h1
  omega
 obtain ⟨l, hl⟩ : ∃ l, foldP [] (bats ms) = l := ⟨_, rfl⟩
 rw [hl] at hacc hfl
 have HACC := Lib.hid hacc
 have HFL : Hid (l.length ≤ 5000) := hfl
 have HE := Lib.hid hl
 have HBA := Lib.hid hba
 have HOK := Lib.hid hok
 have HRD := Lib.hid hrd
 have HB1 := Lib.hid hb1
 clear hba hok hrd hb1 hacc hfl hl HR
 go_wp2_with fail
 refine (fold_any w1 ad len cap ms HBA.out (by omega) HOK.out).mono ?_
 rintro e w2 ⟨kt, fad, flen, fcap, ps, dd, dn, dc, rfl, htab, hps, _, _, hb2⟩
 rw [HE.out] at hps
 have HTAB := Lib.hid htab
 have HPS := Lib.hid hps
 have HB2 := Lib.hid (HB1.out.trans (hb2.mono HB1.out.size))
 have HBA2 := Lib.hid (HBA.out.keep hb2)
 clear htab hps hb2 HB1 HBA
 have t0 := HTAB.out.tab.box.c0
 go_wp2_with fail
 refine (snBytes_any w2 fad flen fcap ps HTAB.out.tab.pds (by rw [HPS.out]; exact ⟨Nat.le_trans HFL.out (by omega), HACC.out.pdIn⟩) (by rw [HPS.out]; exact HACC.out.few) n hn64).mono ?_
 rintro e w3 ⟨v, rfl, g, cg, rfl, hcg, hg, hpre, hb3⟩
 rw [HPS.out] at hpre hcg ⊢
 have hallB : CrcMath.AllB (bodyS l n) := bodyS_all ⟨Nat.le_trans HFL.out (by omega), HACC.out.pdIn⟩ hn64
 have hsn : snapS l n = CrcMath.sealB (bodyS l n) := rfl
 have hall : CrcMath.AllB (snapS l n) := by rw [hsn]; exact CrcMath.sealB_all hallB
 have h6 := snap_long l hn64 HFL.out
 have hsz := snap_size HACC.out HFL.out hn64
 have hbd : (snapS l n).drop 4 = bodyS l n := by rw [hsn]; exact CrcMath.drop_sealB _
 obtain ⟨bs, hbs⟩ : ∃ bs, bs = snapS l n := ⟨_, rfl⟩
 rw [← hbs] at hpre hcg hall h6 hsz hbd ⊢
 obtain ⟨B, hBB⟩ : ∃ B, B = bodyS l n := ⟨_, rfl⟩
 rw [← hBB] at hallB hbd
 obtain ⟨L, hL⟩ : ∃ L, bs.length = L := ⟨_, rfl⟩
 have hBL : B.length = L - 4 := by rw [← hbd, List.length_drop, hL]
 rw [hL] at hcg h6 hsz ⊢
 have hy : Byt w3 (some ⟨g, 0, none⟩) L cg bs := by
  have h1 := hpre.byt hall cg (by rw [hL]; exact hcg)
  rw [hL] at h1
  exact h1
 have hrow3 : RowAt byteK w3 (some ⟨g, 0, none⟩) L cg bs := row_bytes ⟨hy, fun e => by cases e⟩
 obtain ⟨fa, fc, hsf, hfr, _⟩ := row_from byteK_ok hrow3 4 (by omega)
 rw [hbd] at hfr
 have HFR := Lib.hid hfr
 have HALB : Hid (CrcMath.AllB B) := hallB
 have HBL := Lib.hid hBL
 have HB3 := Lib.hid (HB2.out.trans (hb3.mono HB2.out.size))
 have HBA3 := Lib.hid (HBA2.out.keep hb3)
 have hsf2 : ∀ W, (Instr.slice 31 (.slice (some ⟨g, 0, none⟩) L cg) (some (.int .i64 4)) none none).run Tryz.prog W = .ok (.slice fa (L - 4) fc) W := hsf
 clear hpre hcg hg hbs hall hsn hallB hbd hL hBL hy hrow3 hsf hfr hBB hb3 HB2 HBA2 HTAB HPS t0 hmk
 obtain ⟨W4, hW4⟩ : ∃ z, z = w3.alloc (.cells #[] 5) := ⟨_, rfl⟩
 have hb4 : Below w3.heap.size w3 W4 := by rw [hW4]; exact (Below.refl _ _).alloc (Nat.le_refl _) _
 have HLIT : Hid (OwnRow byteK W4 w3.heap.size (.slice (some ⟨w3.heap.size, 0, none⟩) 0 0) []) := by
  show OwnRow _ _ _ _ _
  rw [hW4]
  exact ownRow_lit byteK_ok w3 _ [] (Nat.le_refl _) (by decide) _ rfl 0 rfl
 have HFR4 := Lib.hid (HFR.out.keep hb4)
 have HB4 : Hid (w3.heap.size ≤ W4.heap.size) := hb4.size
 have HW4 := Lib.hid hW4
 have HBW4 := Lib.hid hb4
 clear hb4 hW4
 go_wp2_with (at_builtin; rw [← HW4.out]; refine list_row (by rfl) byteK_ok (.tmp 41) (.tmp 43) rfl w3.heap.size [] B _ rfl HLIT.out HB4.out fa (L - 4) fc rfl HFR4.out (by simp only [List.length_nil]; omega) ?_)
 intro v5 w5 hap
 (try rw [List.nil_append] at hap)
 obtain ⟨N, hN⟩ : ∃ N, N = L - 4 := ⟨_, rfl⟩
 have hN2 : 2 ≤ N := by omega
 have hNs : N ≤ 1048596 := by omega
 rw [← hN] at HBL
 obtain ⟨gx, cx, cur, rfl, _, hgx, _⟩ := OwnRow.block hap.1 HBL.out (by omega)
 have HO5 : Hid (w5.ownsRow w3.heap.size 5 1 (.slice (some ⟨gx, 0, none⟩) N cx) N (vals B)) := by
  have h1 := own_bytes.1 hap.1
  rw [HBL.out] at h1
  exact h1
 have HB5 : Hid (Below w3.heap.size w3 w5) := appended_below hap HLIT.out HBW4.out (Nat.le_refl _) HB4.out
 have HGX : Hid (w3.heap.size ≤ gx) := hgx
 clear hap hgx HLIT HFR HFR4 HB4 HW4 HBW4 hN hsf2 h6 hsz
 have hi4 : wrap64 ((N : Int) - 1) = (N : Int) - 1 := by unfold wrap64; omega
 have hi5 : IntKind.i64.wrap ((N : Int) - 1) = (N : Int) - 1 := IntWalk.i64_in _ (by omega)
 go_wp2_with fail
 refine (within_any place ((N : Int) - 1) w5 hpl (by omega)).mono ?_
 rintro e w5' ⟨k, rfl, hk, rfl⟩
 have hkN : k < N := by omega
 have hk0 : (0 : Int) ≤ (k : Int) := by omega
 have hk1 : (k : Int) < (N : Int) := by omega
 have c0 := (pre_owns HO5.out).1.cell k (by rw [HBL.out]; exact hkN)
 have f0 := (pre_owns HO5.out).1.free k
 obtain ⟨b8, hb8⟩ : ∃ b8 : Nat, B.getD k 0 = b8 := ⟨_, rfl⟩
 rw [hb8] at c0
 obtain ⟨z, hz8, hz⟩ := xor_some (b8 : Int) (turn : Int)
 clear hb8 hi4 hi5
 go_upto_region 6 with fail
 clear c0 f0 hk0 hk1
 obtain ⟨B', hB'⟩ : ∃ B', B' = B.set k z := ⟨_, rfl⟩
 have HAB' : Hid (CrcMath.AllB B') := by show CrcMath.AllB _; rw [hB']; exact all_set HALB.out k z hz8
 have hBl' : B'.length = N := by rw [hB', List.length_set]; exact HBL.out
 obtain ⟨W6, hW6⟩ : ∃ w3, w3 = w5.setCell ⟨gx, k, none⟩ (.int .u8 (z : Int)) := ⟨_, rfl⟩
 have HO6 : Hid (W6.ownsRow w3.heap.size 5 1 (.slice (some ⟨gx, 0, none⟩) N cx) N (vals B')) := by show World.ownsRow _ _ _ _ _ _ _; rw [hW6, hB']; exact own_turned HO5.out rfl
 have HB6 : Hid (Below w3.heap.size w3 W6) := by show Below _ _ _; rw [hW6]; exact HB5.out.setCell HGX.out _
 have HXR : Hid (Byt W6 (some ⟨gx, 0, none⟩) N cx B') := by
  have h1 := own_bytes.2 (show W6.ownsRow w3.heap.size 5 1 (.slice (some ⟨gx, 0, none⟩) N cx) B'.length (vals B') by rw [hBl']; exact HO6.out)
  obtain ⟨a9, c9, e9, hr9⟩ := own_byt h1 HAB'.out hBl'
  cases e9
  exact hr9.1
 have HBA6 := Lib.hid (HBA3.out.keep HB6.out)
 have HBX := Lib.hid (HB3.out.trans (HB6.out.mono HB3.out.size))
 have HRAW6 : Hid (Row W6 rad rlen rcap raw) := HRAW.out.keep HBX.out (Nat.le_refl _)
 have HBAS6 := Lib.hid (HBAS.out.keep HBX.out)
 have HBl' := Lib.hid hBl'
 rw [← hW6]
 clear hW6 hB' hBl' HO5 HO6 HB5 HB6 HGX HALB HBL hz8 hz hkN hk HRAW HBAS HBA3 HB3
 have hmm := @run_makeMap Tryz.prog
 obtain ⟨km, hkm⟩ : ∃ km, km = W6.heap.size := ⟨_, rfl⟩
 obtain ⟨W7, hW7⟩ : ∃ z, z = W6.alloc (.map #[] 0) := ⟨_, rfl⟩
 have HM7 : Hid (SeenAt W7 km []) := by show SeenAt _ _ _; rw [hW7, hkm]; exact mapAs_new _ _ _ _
 have HB7 : Hid (Below W6.heap.size W6 W7) := by show Below _ _ _; rw [hW7]; exact (Below.refl _ _).alloc (Nat.le_refl _) _
 have HKM : Hid (km < W7.heap.size) := HM7.out.lt
 have HKW : Hid (W6.heap.size ≤ km) := by show _ ≤ _; rw [hkm]; exact Nat.le_refl _
 go_upto_region 8 with fail
 rw [← hW7, ← hkm]
 clear hW7 hkm hmm
 go_wp2
 go_loopw [23, 24] (fun v23 v24 wr => ∃ (j : Nat) (u : Value) (so : List ByteArray) (ps : List (ByteArray × Nat)), u = v23 ∧ v24 = .int .i64 (j : Int) ∧ j ≤ bl ∧ j ≤ 10 ∧ Hid (OwnRow nameK wr W7.heap.size u so) ∧ Hid (SeenAt wr km ps) ∧ Hid (∀ p ∈ ps, 1 ≤ p.2 ∧ p.2 ≤ j) ∧ Hid (∀ s ∈ so, ∃ q ∈ ps, q.1 = s) ∧ Hid (so.Pairwise (· ≠ ·)) ∧ Hid (so.length ≤ j) ∧ Hid (∀ s ∈ so, s.size ≤ 1000) ∧ Hid (W7.heap.size ≤ wr.heap.size) ∧ Hid (Below W6.heap.size W6 wr)) (fun _ v24 _ => 10 - (intOf v24).toNat)
 case atStart => exact ⟨0, _, [], [], rfl, rfl, Nat.zero_le _, Nat.zero_le _, ownRow_nil _ _ _, HM7.out, (fun p hp => by cases hp), (fun s hs => by cases hs), List.Pairwise.nil, Nat.le_refl _, (fun s hs => by cases hs), Nat.le_refl _, HB7.out⟩
 case round =>
  obtain ⟨j, u, so, ps, rfl, rfl, hj, hj10, HO, HM, HN, HIN, HPW, HSL, HSZ, HS7, HB⟩ := hrel
  clear HM7 HB7
  obtain ⟨wo, hwo⟩ : ∃ wo : World, wo = wr := ⟨_, rfl⟩
  subst hwo
  by_cases hlt : j < bl ∧ j < 10
  · obtain ⟨hl1, hl2⟩ := hlt
    have hd : decide (j < bl) = true := decide_eq_true hl1
    have hd2 : decide ((j : Int) < 10) = true := decide_eq_true (by omega)
    have hd3 : decide (j < 10) = true := decide_eq_true hl2
    have hjl : (j : Int) < (bl : Int) := by omega
    have hj0 : (0 : Int) ≤ (j : Int) := by omega
    obtain ⟨bk, off, x, rfl, hbk, hx, hc⟩ := (HBAS6.out.keep HB.out).get hl1
    have c0 : wo.cell? ⟨bk, off + j, none⟩ = some (.int .i64 x) := by
     have h1 := hc 0 _ rfl
     rwa [show off + (j * idK.size + 0) = off + j by show off + (j * 1 + 0) = _; omega] at h1
    have KS : Hid (∀ V, Below wo.heap.size wo V → (fun (V : World) => V.cell? ⟨bk, off + j, none⟩ = some (.int .i64 x)) V) := fun V hV => (hV.cell (p := ⟨bk, off + j, none⟩) hbk).trans c0
    have hmask : bits .and .i64 x 63 = x % 64 := mask63 x
    obtain ⟨y, hy⟩ : ∃ y : Int, y = x % 64 := ⟨_, rfl⟩
    rw [← hy] at hmask
    obtain ⟨r, hr⟩ : ∃ r, r = j % 3 := ⟨_, rfl⟩
    have hr3 : r < 3 := by omega
    have hrm : (j : Int).tmod 3 = (r : Int) := by rw [Int.tmod_eq_emod_of_nonneg (by omega)]; omega
    have hrw : IntKind.i64.wrap ((j : Int).tmod 3) = (r : Int) := by rw [hrm]; exact IntWalk.i64_in _ (by omega)
    have hrw2 : IntKind.i64.wrap (r : Int) = (r : Int) := IntWalk.i64_in _ (by omega)
    have hr0 : (0 : Int) ≤ (r : Int) := by omega
    have hr33 : (r : Int) < 3 := by omega
    clear hc hx hbk c0 hy hr
    go_upto_region 11 with fail
    have hdrw : Below wo.heap.size wo wo.drew := (Below.refl _ wo).drew
    refine wp_region_noPanic ?_
    refine wp_region_z [] (fun (V : World) => V.cell? ⟨bk, off + j, none⟩ = some (.int .i64 x)) (by kernel_rfl) ?_
    have hHeld := KS.out _ hdrw
    obtain ⟨u0, hu0⟩ : ∃ u, u = wo.drew := ⟨_, rfl⟩
    rw [← hu0] at hHeld hdrw
    rw [← hu0]
    clear hu0
    have HU0 := Lib.hid hdrw
    clear hdrw
    refine zt 0 ?_
    refine zt 1 ?_
    refine zt 2 ?_
    refine zt 3 ?_
    refine zt 4 ?_
    refine zt 6 ?_
    refine zt 7 ?_
    refine zr 5 (fun C hC => ?_)
    go_simp
    obtain ⟨u1, hu1⟩ : ∃ z, z = u0.alloc (.cells #[.string ⟨#[115, 110, 97, 112, 115, 104, 111, 116]⟩, .string ⟨#[115, 110, 97, 112, 115, 104, 111, 116]⟩, .string ⟨#[108, 111, 103]⟩] 9) := ⟨_, rfl⟩
    obtain ⟨ga, hga⟩ : ∃ z, z = u0.heap.size := ⟨_, rfl⟩
    have HL3 : Hid (u1.cell? ⟨ga, r, none⟩ = some (.string (kd3 r))) := by show _ = _; rw [hu1, hga]; exact lit3 u0 r hr3
    have HU1 : Hid (Below wo.heap.size wo u1) := by show Below _ _ _; rw [hu1]; exact HU0.out.trans ((Below.refl _ _).alloc HU0.out.size _)
    have HGA : Hid (ga < u1.heap.size) := by show _ < _; rw [hu1, hga]; simp
    rw [← hu1, ← hga]
    clear hu1 hga
    have hHeld := KS.out _ HU1.out
    refine zc hC hHeld ?_
    clear hC C
    refine wpAnyZ_strengthen (S' := (fun (V : World) => V.cell? ⟨bk, off + j, none⟩ = some (.int .i64 x) ∧ V.cell? ⟨ga, r, none⟩ = some (.string (kd3 r)))) (fun V h => h.1) _ _ _ _ ?_
    have hHeld0 := Lib.hid hHeld
    clear hHeld
    have hHeld : (fun (V : World) => V.cell? ⟨bk, off + j, none⟩ = some (.int .i64 x) ∧ V.cell? ⟨ga, r, none⟩ = some (.string (kd3 r))) u1 := ⟨hHeld0.out, HL3.out⟩
    refine zt 8 ?_
    refine zt 9 ?_
    refine zr 10 (fun C hC => ?_)
    go_simp
    refine (ref_file_any u1 y (kd3 r) (Nat.le_trans (kd3_size r) (by omega))).mono ?_
    rintro e u9 ⟨rfl, hb9⟩
    have HU : Hid (Below wo.heap.size wo u9) := HU1.out.trans (hb9.mono HU1.out.size)
    have HL9 : Hid (u9.cell? ⟨ga, r, none⟩ = some (.string (kd3 r))) := (hb9.cell (p := ⟨ga, r, none⟩) HGA.out).trans HL3.out
    clear hb9
    have hHeld : (fun (V : World) => V.cell? ⟨bk, off + j, none⟩ = some (.int .i64 x) ∧ V.cell? ⟨ga, r, none⟩ = some (.string (kd3 r))) u9 := ⟨KS.out _ HU.out, HL9.out⟩
    refine zc hC hHeld ?_
    clear hC C
    refine zt 11 ?_
    refine zt 12 ?_
    refine zt 13 ?_
    refine zt 14 ?_
    refine zt 15 ?_
    refine wpAnyZ_done (by kernel_rfl) ?_ _
    refine NoPanic.normal ?_
    clear hHeld hHeld0 KS HU0 HU1 HL3 HL9 HGA
    obtain ⟨s, hs⟩ : ∃ s, s = fileV y (kd3 r) := ⟨_, rfl⟩
    obtain ⟨ok, hok⟩ : ∃ ok, ok = fileO y (kd3 r) := ⟨_, rfl⟩
    have HZ : Hid (s.size ≤ 1000) := by show _ ≤ _; rw [hs]; exact file_size (kd3_size r)
    (try rw [← hs, ← hok])
    clear hs hok hmask hrm hrw hrw2 hr0 hr33 hr3
    have HO9 := Lib.hid (HO.out.on HU.out)
    have HM9 : Hid (SeenAt u9 km ps) := MapAs.on HM.out HU.out
    have HB9 := Lib.hid (HB.out.trans (HU.out.mono HB.out.size))
    have HS9 : Hid (W7.heap.size ≤ u9.heap.size) := Nat.le_trans HS7.out HU.out.size
    clear HU HO HM HB
    have hlk : (Instr.lookup 44 (.map (some km)) (.string s) false).run Tryz.prog u9 = .ok (.int .i64 (seenC ps s : Int)) u9 := seen_look HM9.out s (Nat.le_trans HZ.out (by omega))
    have HCL : Hid (seenC ps s ≤ 10) := Nat.le_trans (seen_le HN.out) (by omega)
    have HZERO : Hid (seenC ps s = 0 → ∀ p ∈ ps, p.1 ≠ s) := seen_zero HN.out
    obtain ⟨c, hc⟩ : ∃ c, c = seenC ps s := ⟨_, rfl⟩
    rw [← hc] at hlk HCL HZERO
    have HCC := Lib.hid hc
    clear hc
    have hc10 := HCL.out
    have hcw : IntKind.i64.wrap ((c : Int) + 1) = (c : Int) + 1 := IntWalk.i64_in _ (by omega)
    have hcw2 : wrap64 ((c : Int) + 1) = (c : Int) + 1 := by unfold wrap64; omega
    by_cases hgo : ok = true ∧ c = 0
    · obtain ⟨rfl, hc0⟩ := hgo
      have hc00 : ((c : Int) == 0) = true := by rw [hc0]; rfl
      obtain ⟨WA, hWA⟩ : ∃ z, z = u9.alloc (.cells #[.string s] 9) := ⟨_, rfl⟩
      have hbA : Below u9.heap.size u9 WA := by rw [hWA]; exact (Below.refl _ _).alloc (Nat.le_refl _) _
      have HLIT : Hid (RowAt nameK WA (some ⟨u9.heap.size, 0, none⟩) 1 1 [s]) := by
       show RowAt _ _ _ _ _ _
       rw [hWA]
       exact rowAt_lit nameK_ok u9 [s] (by simp) _ rfl 1 rfl
      have HOA := Lib.hid (HO9.out.on hbA)
      have HBA := Lib.hid (HB9.out.trans (hbA.mono HB9.out.size))
      have HMA : Hid (SeenAt WA km ps) := MapAs.on HM9.out hbA
      have HSA : Hid (W7.heap.size ≤ WA.heap.size) := Nat.le_trans HS9.out hbA.size
      have HWA := Lib.hid hWA
      clear hbA hWA
      go_wp2_with (at_builtin; rw [← HWA.out]; refine list_row (by rfl) nameK_ok (.tmp 88) (.tmp 90) rfl W7.heap.size so [s] u rfl HOA.out HSA.out (some ⟨u9.heap.size, 0, none⟩) 1 1 rfl HLIT.out (by have := HSL.out; omega) ?_)
      intro vB wB hap
      have HOB := Lib.hid hap.1
      have HNB : Hid (∀ q, u.ownBlock = some q → W7.heap.size ≤ q) := fun q hq => (HOA.out.lt q hq).1
      have HMB : Hid (SeenAt wB km ps) := MapAs.grown HMA.out hap.2.1 (fun e => by have := HNB.out km e; have := HKM.out; omega)
      have HBB : Hid (Below W6.heap.size W6 wB) := HBA.out.grown hap.2.1 HBA.out.size (fun q hq => by have := HNB.out q hq; have := HKW.out; have := HKM.out; omega)
      have hlk2 : (Instr.lookup 44 (.map (some km)) (.string s) false).run Tryz.prog wB = .ok (.int .i64 (c : Int)) wB := by rw [HCC.out]; exact seen_look HMB.out s (Nat.le_trans HZ.out (by omega))
      obtain ⟨wC, qs, hrun, hmap, hq1, hq2, hq3, hg⟩ := seen_put HMB.out s (Nat.le_trans HZ.out (by omega)) HN.out
      rw [← HCC.out, hc0] at hrun
      have hrun1 : (Instr.mapUpdate 44 (.map (some km)) (.string s) (.int .i64 1)).run Tryz.prog wB = .ok () wC := hrun
      clear hrun
      have HOC : Hid (OwnRow nameK wC W7.heap.size vB (so ++ [s])) := HOB.out.grown hg (fun q hq e => by have := (HOB.out.lt q hq).1; have := HKM.out; cases e; omega)
      have HMC := Lib.hid hmap
      have HN2 := Lib.hid hq1
      have HIN2 : Hid (∀ t ∈ so ++ [s], ∃ q ∈ qs, q.1 = t) := fun t ht => by
       rcases List.mem_append.1 ht with ht | ht
       · obtain ⟨q, hq, e⟩ := HIN.out t ht
         obtain ⟨q', hq', e'⟩ := hq2 q hq
         exact ⟨q', hq', e'.trans e⟩
       · rw [List.mem_singleton.1 ht]
         exact hq3
      have HPW2 : Hid ((so ++ [s]).Pairwise (· ≠ ·)) := List.pairwise_append.2 ⟨HPW.out, List.pairwise_singleton _ _, fun a ha b hb => by
       rw [List.mem_singleton.1 hb]
       intro e
       obtain ⟨q, hq, e'⟩ := HIN.out a ha
       exact HZERO.out hc0 q hq (e'.trans e)⟩
      have HSL2 : Hid ((so ++ [s]).length ≤ j + 1) := by show _ ≤ _; rw [List.length_append, List.length_singleton]; have := HSL.out; omega
      have HSZ2 : Hid (∀ t ∈ so ++ [s], t.size ≤ 1000) := fun t ht => by
       rcases List.mem_append.1 ht with ht | ht
       · exact HSZ.out t ht
       · rw [List.mem_singleton.1 ht]; exact HZ.out
      have HSC : Hid (W7.heap.size ≤ wC.heap.size) := Nat.le_trans HSA.out (Nat.le_trans hap.2.1.size hg.size)
      have HBC : Hid (Below W6.heap.size W6 wC) := HBB.out.grown hg HBB.out.size (fun q hq => by have := HKW.out; cases hq; omega)
      clear hap hlk hmap hq1 hq2 hq3 hg HOA HMA HBA HLIT HWA HNB HMB HBB HO9 HM9 HB9 HIN HPW HSL HSZ HN HZERO HOB HCL
      go_wp2
      go_roundw
      case rel => exact ⟨j + 1, vB, so ++ [s], qs, rfl, by first | rfl | go_num, by omega, by omega, HOC.out, HMC.out, HN2.out, HIN2.out, HPW2.out, HSL2.out, HSZ2.out, HSC.out, HBC.out⟩
      case measure => simp [intOf]; omega
    · have hstop : ok = false ∨ (ok = true ∧ ((c : Int) == 0) = false) := by
       cases ok
       · exact .inl rfl
       · refine .inr ⟨rfl, ?_⟩
         rw [beq_eq_false_iff_ne]
         intro e
         exact hgo ⟨rfl, Int.ofNat.inj e⟩
      obtain ⟨wC, qs, hrun, hmap, hq1, hq2, hq3, hg⟩ := seen_put HM9.out s (Nat.le_trans HZ.out (by omega)) HN.out
      rw [← HCC.out] at hrun
      have HOC : Hid (OwnRow nameK wC W7.heap.size u so) := HO9.out.grown hg (fun q hq e => by have := (HO9.out.lt q hq).1; have := HKM.out; cases e; omega)
      have HMC := Lib.hid hmap
      have HN2 := Lib.hid hq1
      have HIN2 : Hid (∀ t ∈ so, ∃ q ∈ qs, q.1 = t) := fun t ht => by
       obtain ⟨q, hq, e⟩ := HIN.out t ht
       obtain ⟨q', hq', e'⟩ := hq2 q hq
       exact ⟨q', hq', e'.trans e⟩
      have HSL2 : Hid (so.length ≤ j + 1) := Nat.le_succ_of_le HSL.out
      have HSC : Hid (W7.heap.size ≤ wC.heap.size) := Nat.le_trans HS9.out hg.size
      have HBC : Hid (Below W6.heap.size W6 wC) := HB9.out.grown hg HB9.out.size (fun q hq => by have := HKW.out; cases hq; omega)
      clear hgo hmap hq1 hq2 hq3 hg HO9 HM9 HB9 HIN HSL HN HZERO HCL
      rcases hstop with rfl | ⟨rfl, hc0⟩
      · go_wp2
        go_roundw
        case rel => exact ⟨j + 1, u, so, qs, rfl, by first | rfl | go_num, by omega, by omega, HOC.out, HMC.out, HN2.out, HIN2.out, HPW.out, HSL2.out, HSZ.out, HSC.out, HBC.out⟩
        case measure => simp [intOf]; omega
      · go_wp2
        go_roundw
        case rel => exact ⟨j + 1, u, so, qs, rfl, by first | rfl | go_num, by omega, by omega, HOC.out, HMC.out, HN2.out, HIN2.out, HPW.out, HSL2.out, HSZ.out, HSC.out, HBC.out⟩
        case measure => simp [intOf]; omega
  · obtain ⟨sn, hsn⟩ : ∃ sn, so.length = sn := ⟨_, rfl⟩
    obtain ⟨sa, sc, rfl, hsr, _⟩ := OwnRow.row nameK_ok HO.out hsn
    have hsn10 : sn ≤ 10 := by have := HSL.out; omega
    have HSR := Lib.hid hsr
    have HSZ3 : Hid (∀ s ∈ so, s.size ≤ 1073741824) := fun s hs => Nat.le_trans (HSZ.out s hs) (by omega)
    have HXR9 : Hid (Byt wo (some ⟨gx, 0, none⟩) N cx B') := HXR.out.keep HB.out (Nat.le_refl _)
    have HBA9 := Lib.hid (HBA6.out.keep HB.out)
    have HRW9 : Hid (Row wo rad rlen rcap raw) := HRAW6.out.keep HB.out (Nat.le_refl _)
    have HBZ := Lib.hid (HBX.out.trans (HB.out.mono HBX.out.size))
    have HLT := Lib.hid hlt
    clear hsr hsn HO HM HN HIN HSL HSZ HS7 HXR HBA6 HRAW6 HBX HB HBAS6 hlt
    have hm2 : bits .and .i64 at0 65535 = n := HMK.out
    have hm63 : bits .and .i64 end0 63 = end0 % 64 := mask63 end0
    have hm7 : bits .and .i64 keep 7 = keep % 8 := mask7 keep
    obtain ⟨e63, he63⟩ : ∃ e : Int, e = end0 % 64 := ⟨_, rfl⟩
    obtain ⟨k7, hk7⟩ : ∃ e : Int, e = keep % 8 := ⟨_, rfl⟩
    have hk7b : -9223372036854775808 ≤ k7 ∧ k7 ≤ 9223372036854775807 := by omega
    rw [← he63] at hm63
    rw [← hk7] at hm7
    clear he63 hk7
    have hdd : decide (j < bl) = false ∨ (decide (j < bl) = true ∧ decide ((j : Int) < 10) = false ∧ decide (j < 10) = false) := by
     by_cases h : j < bl
     · have := HLT.out
       exact .inr ⟨decide_eq_true h, decide_eq_false (by omega), decide_eq_false (by omega)⟩
     · exact .inl (decide_eq_false h)
    clear HLT
    rcases hdd with hd | ⟨hd, hd2, hd3⟩
    · skip
      go_wp2_with fail
      refine (snSame_any HC.out wo ad len cap ms HBA9.out (by omega) HOK.out HRD.out (by decide) (by decide) n hn0.1 (by omega)).mono ?_
      rintro e wa ⟨rfl, hb⟩
      have HXRa := Lib.hid (HXR9.out.keep hb (Nat.le_refl _))
      have HRWa := Lib.hid (HRW9.out.keep hb (Nat.le_refl _))
      have HSRa := Lib.hid (HSR.out.keep hb)
      have HBZa := Lib.hid (HBZ.out.trans (hb.mono HBZ.out.size))
      clear hb HXR9 HRW9 HSR HBZ HBA9
      go_wp2_with fail
      refine (sealed_any wa _ N cx B' HXRa.out (fun e => by cases e) (by omega)).mono ?_
      rintro e wb ⟨v, rfl, g1, c1, rfl, hc1, hg1, hpre, hb⟩
      have HY : Hid (Byt wb (some ⟨g1, 0, none⟩) (CrcMath.sealB B').length c1 (CrcMath.sealB B')) := hpre.byt (CrcMath.sealB_all HAB'.out) c1 hc1
      have HLE : Hid ((CrcMath.sealB B').length ≤ 1048600) := by show _ ≤ _; rw [CrcMath.length_sealB, HBl'.out]; omega
      have HRWb := Lib.hid (HRWa.out.keep hb (Nat.le_refl _))
      have HSRb := Lib.hid (HSRa.out.keep hb)
      have HBZb := Lib.hid (HBZa.out.trans (hb.mono HBZa.out.size))
      obtain ⟨Q, hQ⟩ : ∃ Q, Q = CrcMath.sealB B' := ⟨_, rfl⟩
      rw [← hQ] at HY HLE ⊢
      obtain ⟨q, hq⟩ : ∃ q, q = Q.length := ⟨_, rfl⟩
      rw [← hq] at HY ⊢
      clear hpre hc1 hg1 hb HXRa HRWa HSRa HBZa hQ hq
      go_wp2_with fail
      refine (snReads_any T HC.out.keep HC.out.all wb _ q c1 Q HY.out HLE.out (HC.out.read wb _ q c1 Q HY.out HLE.out)).mono ?_
      rintro e wc ⟨rfl, hb⟩
      have HRWc := Lib.hid (HRWb.out.keep hb (Nat.le_refl _))
      have HSRc := Lib.hid (HSRb.out.keep hb)
      have HBZc := Lib.hid (HBZb.out.trans (hb.mono HBZb.out.size))
      clear hb HY HLE HRWb HSRb HBZb
      go_wp2_with fail
      refine (snReads_any T HC.out.keep HC.out.all wc rad rlen rcap raw HRWc.out.1 (by rw [HRWc.out.1.length]; omega) (HC.out.read wc rad rlen rcap raw HRWc.out.1 (by rw [HRWc.out.1.length]; omega))).mono ?_
      rintro e wd ⟨rfl, hb⟩
      have HRWd := Lib.hid (HRWc.out.keep hb (Nat.le_refl _))
      have HSRd := Lib.hid (HSRc.out.keep hb)
      have HBZd := Lib.hid (HBZc.out.trans (hb.mono HBZc.out.size))
      clear hb HRWc HSRc HBZc
      go_wp2_with fail
      refine (sealed_any wd rad rlen rcap raw HRWd.out.1 HRWd.out.2 (by omega)).mono ?_
      rintro e we ⟨v, rfl, g1, c1, rfl, hc1, hg1, hpre, hb⟩
      have HY : Hid (Byt we (some ⟨g1, 0, none⟩) (CrcMath.sealB raw).length c1 (CrcMath.sealB raw)) := hpre.byt (CrcMath.sealB_all HRWd.out.1.all) c1 hc1
      have HLE : Hid ((CrcMath.sealB raw).length ≤ 1048600) := by show _ ≤ _; rw [CrcMath.length_sealB, HRWd.out.1.length]; omega
      have HSRe := Lib.hid (HSRd.out.keep hb)
      have HBZe := Lib.hid (HBZd.out.trans (hb.mono HBZd.out.size))
      obtain ⟨Q, hQ⟩ : ∃ Q, Q = CrcMath.sealB raw := ⟨_, rfl⟩
      rw [← hQ] at HY HLE ⊢
      obtain ⟨q, hq⟩ : ∃ q, q = Q.length := ⟨_, rfl⟩
      rw [← hq] at HY ⊢
      clear hpre hc1 hg1 hb HRWd HSRd HBZd hQ hq
      go_wp2_with fail
      refine (snReads_any T HC.out.keep HC.out.all we _ q c1 Q HY.out HLE.out (HC.out.read we _ q c1 Q HY.out HLE.out)).mono ?_
      rintro e wf ⟨rfl, hb⟩
      have HSRf := Lib.hid (HSRe.out.keep hb)
      have HBZf := Lib.hid (HBZe.out.trans (hb.mono HBZe.out.size))
      clear hb HY HLE HSRe HBZe
      go_wp2_with fail
      refine (lists_do wf sa sn sc so HSRf.out (by omega) HSZ3.out HPW.out e63 k7 hk7b).mono ?_
      rintro e wg ⟨rfl, hb⟩
      have HSRg := Lib.hid (HSRf.out.keep hb)
      have HBZg := Lib.hid (HBZf.out.trans (hb.mono HBZf.out.size))
      clear hb HSRf HBZf
      go_wp2_with fail
      refine (lists_do wg sa sn sc so HSRg.out (by omega) HSZ3.out HPW.out end0 keep hk64).mono ?_
      rintro e wh ⟨rfl, hb⟩
      have HBZh := Lib.hid (HBZg.out.trans (hb.mono HBZg.out.size))
      clear hb HSRg HBZg
      go_wp2_with fail
      refine (HK.out wh).mono ?_
      rintro e wi ⟨rfl, hb⟩
      have HBZi := Lib.hid (HBZh.out.trans (hb.mono HBZh.out.size))
      clear hb HBZh
      go_wp2
      go_ret
      exact ⟨rfl, HBZi.out⟩
    · skip
      go_wp2_with fail
      refine (snSame_any HC.out wo ad len cap ms HBA9.out (by omega) HOK.out HRD.out (by decide) (by decide) n hn0.1 (by omega)).mono ?_
      rintro e wa ⟨rfl, hb⟩
      have HXRa := Lib.hid (HXR9.out.keep hb (Nat.le_refl _))
      have HRWa := Lib.hid (HRW9.out.keep hb (Nat.le_refl _))
      have HSRa := Lib.hid (HSR.out.keep hb)
      have HBZa := Lib.hid (HBZ.out.trans (hb.mono HBZ.out.size))
      clear hb HXR9 HRW9 HSR HBZ HBA9
      go_wp2_with fail
      refine (sealed_any wa _ N cx B' HXRa.out (fun e => by cases e) (by omega)).mono ?_
      rintro e wb ⟨v, rfl, g1, c1, rfl, hc1, hg1, hpre, hb⟩
      have HY : Hid (Byt wb (some ⟨g1, 0, none⟩) (CrcMath.sealB B').length c1 (CrcMath.sealB B')) := hpre.byt (CrcMath.sealB_all HAB'.out) c1 hc1
      have HLE : Hid ((CrcMath.sealB B').length ≤ 1048600) := by show _ ≤ _; rw [CrcMath.length_sealB, HBl'.out]; omega
      have HRWb := Lib.hid (HRWa.out.keep hb (Nat.le_refl _))
      have HSRb := Lib.hid (HSRa.out.keep hb)
      have HBZb := Lib.hid (HBZa.out.trans (hb.mono HBZa.out.size))
      obtain ⟨Q, hQ⟩ : ∃ Q, Q = CrcMath.sealB B' := ⟨_, rfl⟩
      rw [← hQ] at HY HLE ⊢
      obtain ⟨q, hq⟩ : ∃ q, q = Q.length := ⟨_, rfl⟩
      rw [← hq] at HY ⊢
      clear hpre hc1 hg1 hb HXRa HRWa HSRa HBZa hQ hq
      go_wp2_with fail
      refine (snReads_any T HC.out.keep HC.out.all wb _ q c1 Q HY.out HLE.out (HC.out.read wb _ q c1 Q HY.out HLE.out)).mono ?_
      rintro e wc ⟨rfl, hb⟩
      have HRWc := Lib.hid (HRWb.out.keep hb (Nat.le_refl _))
      have HSRc := Lib.hid (HSRb.out.keep hb)
      have HBZc := Lib.hid (HBZb.out.trans (hb.mono HBZb.out.size))
      clear hb HY HLE HRWb HSRb HBZb
      go_wp2_with fail
      refine (snReads_any T HC.out.keep HC.out.all wc rad rlen rcap raw HRWc.out.1 (by rw [HRWc.out.1.length]; omega) (HC.out.read wc rad rlen rcap raw HRWc.out.1 (by rw [HRWc.out.1.length]; omega))).mono ?_
      rintro e wd ⟨rfl, hb⟩
      have HRWd := Lib.hid (HRWc.out.keep hb (Nat.le_refl _))
      have HSRd := Lib.hid (HSRc.out.keep hb)
      have HBZd := Lib.hid (HBZc.out.trans (hb.mono HBZc.out.size))
      clear hb HRWc HSRc HBZc
      go_wp2_with fail
      refine (sealed_any wd rad rlen rcap raw HRWd.out.1 HRWd.out.2 (by omega)).mono ?_
      rintro e we ⟨v, rfl, g1, c1, rfl, hc1, hg1, hpre, hb⟩
      have HY : Hid (Byt we (some ⟨g1, 0, none⟩) (CrcMath.sealB raw).length c1 (CrcMath.sealB raw)) := hpre.byt (CrcMath.sealB_all HRWd.out.1.all) c1 hc1
      have HLE : Hid ((CrcMath.sealB raw).length ≤ 1048600) := by show _ ≤ _; rw [CrcMath.length_sealB, HRWd.out.1.length]; omega
      have HSRe := Lib.hid (HSRd.out.keep hb)
      have HBZe := Lib.hid (HBZd.out.trans (hb.mono HBZd.out.size))
      obtain ⟨Q, hQ⟩ : ∃ Q, Q = CrcMath.sealB raw := ⟨_, rfl⟩
      rw [← hQ] at HY HLE ⊢
      obtain ⟨q, hq⟩ : ∃ q, q = Q.length := ⟨_, rfl⟩
      rw [← hq] at HY ⊢
      clear hpre hc1 hg1 hb HRWd HSRd HBZd hQ hq
      go_wp2_with fail
      refine (snReads_any T HC.out.keep HC.out.all we _ q c1 Q HY.out HLE.out (HC.out.read we _ q c1 Q HY.out HLE.out)).mono ?_
      rintro e wf ⟨rfl, hb⟩
      have HSRf := Lib.hid (HSRe.out.keep hb)
      have HBZf := Lib.hid (HBZe.out.trans (hb.mono HBZe.out.size))
      clear hb HY HLE HSRe HBZe
      go_wp2_with fail
      refine (lists_do wf sa sn sc so HSRf.out (by omega) HSZ3.out HPW.out e63 k7 hk7b).mono ?_
      rintro e wg ⟨rfl, hb⟩
      have HSRg := Lib.hid (HSRf.out.keep hb)
      have HBZg := Lib.hid (HBZf.out.trans (hb.mono HBZf.out.size))
      clear hb HSRf HBZf
      go_wp2_with fail
      refine (lists_do wg sa sn sc so HSRg.out (by omega) HSZ3.out HPW.out end0 keep hk64).mono ?_
      rintro e wh ⟨rfl, hb⟩
      have HBZh := Lib.hid (HBZg.out.trans (hb.mono HBZg.out.size))
      clear hb HSRg HBZg
      go_wp2_with fail
      refine (HK.out wh).mono ?_
      rintro e wi ⟨rfl, hb⟩
      have HBZi := Lib.hid (HBZh.out.trans (hb.mono HBZh.out.size))
      clear hb HBZh
      go_wp2
      go_ret
      exact ⟨rfl, HBZi.out⟩
end Go.Proofs.YtgohekjkbgfeeaaGreat
namespace Go.Proofs.YtgohekjkbgfeeaaGreat
open Go.RowKit
open Go.SeqMath
open Go.ProdMath
open Go.BatMath hiding AllB take_all
set_option linter.unusedVariables false

/-- A block that is a log without files. -/
def MBox (w : World) (km : Nat) (cap start : Int) (v : Value) : Prop := w.heap[km]? = some (.cells #[.int .i64 cap, .int .i64 start, v] 70 (0, 0))
section
variable {w w' : World} {km : Nat} {cap start : Int} {v : Value}
theorem MBox.c0 (h : MBox w km cap start v) : w.cell? ⟨km, 0, none⟩ = some (.int .i64 cap) := by rw [cell_of_row _ _ 0 _ _ _ h]; rfl
theorem MBox.c1 (h : MBox w km cap start v) : w.cell? ⟨km, 1, none⟩ = some (.int .i64 start) := by rw [cell_of_row _ _ 1 _ _ _ h]; rfl
theorem MBox.c2 (h : MBox w km cap start v) : w.cell? ⟨km, 2, none⟩ = some v := by rw [cell_of_row _ _ 2 _ _ _ h]; rfl
theorem MBox.free (h : MBox w km cap start v) (j : Nat) : w.frozen? ⟨km, j, none⟩ = false := frozen_of_row w km j _ _ h
theorem MBox.lt (h : MBox w km cap start v) : km < w.heap.size := lt_of_block h
theorem MBox.on (h : MBox w km cap start v) (hb : Below w.heap.size w w') : MBox w' km cap start v := by
 have hlt := h.lt
 unfold MBox at *
 rw [hb.block km hlt]
 exact h
theorem MBox.s2 (h : MBox w km cap start v) (u : Value) : MBox (w.setCell ⟨km, 2, none⟩ u) km cap start u := box_set h 2 _
theorem MBox.grown {r : Option Nat} (h : MBox w km cap start v) (hg : w.grownBy w' r) (hr : r ≠ some km) : MBox w' km cap start v := by
 have hlt := h.lt
 unfold MBox at *
 rw [hg.block km hlt (fun e => hr e.symm)]
 exact h
end
theorem batsOk_of {bs : List Bat} (h : RowOk bs) : BatsOk bs := fun b hb => by
 have h1 := ok_of (h b hb).1
 exact ⟨texts_of h1.texts, (h b hb).2.prod.2, by have := h1.recs; omega⟩
set_option maxRecDepth 100000 in
set_option maxHeartbeats 4000000 in
theorem refEnd_any (w : World) (start : Int) (ad : Option Addr) (len cap : Nat) (ms : List BM) (h : BatsAt w ad len cap ms) (hL : len ≤ 100000) (hok : RowOk (bats ms)) (v : Int) (hv : endD start (bats ms) = v) :
 Calls Tryz.prog 91 #[.int .i64 start, .slice ad len cap] w (Says v w) := by
 have hlen := h.row.length
 by_cases h0 : len = 0
 · subst h0
   obtain rfl : ms = [] := List.eq_nil_of_length_eq_zero hlen
   have HV : Hid (start = v) := hv
   clear h hv
   go_enter Tryz.func91, Tryz.ntmps91
   go_wp2
   go_ret
   exact says_mk HV.out (Below.refl _ _)
 · obtain ⟨bk, off, m, rfl, hbk, hm, hrec, c0, c1, c2, c3, c4, c5, c6⟩ := h.get (i := len - 1) (by omega)
   have hlast : (bats ms).getLast? = some m.b := by
    unfold bats
    rw [List.getLast?_eq_getElem?, List.length_map, hlen, List.getElem?_map, hm]; rfl
   have hmem : m.b ∈ bats ms := List.mem_of_mem_getLast? hlast
   have hob := ok_of (hok m.b hmem).1
   have h1 := hob.base0
   have h2 := hob.base1
   have h3 := hob.recs
   rw [end_last hlast] at hv
   obtain ⟨cnt, hcnt⟩ : ∃ cnt, (if m.b.marker ≠ 0 then 1 else (m.b.recs.length : Int)) = cnt := ⟨_, rfl⟩
   have hc2 : countD m.b = cnt := hcnt
   have hc3 : 0 ≤ cnt ∧ cnt ≤ 16 := by rw [← hcnt]; split <;> omega
   rw [hc2] at hv
   have HCNT := Lib.hid hcnt
   have hdl : decide ((len : Int) = 0) = false := decide_eq_false (by omega)
   have hdl2 : ((len : Int) == 0) = false := beq_false_of_ne (by omega)
   have hdl3 : (len == 0) = false := beq_false_of_ne h0
   have hw1 : wrap64 ((len : Int) - 1) = (len : Int) - 1 := by unfold wrap64; omega
   have hi1 : (1 : Int) ≤ (len : Int) := by omega
   have hi2 : (len : Int) - 1 < (len : Int) := by omega
   have hi3 : ((len : Int) - 1).toNat = len - 1 := by omega
   have HVV : Hid (m.b.base + cnt = v) := hv
   clear h hok hlast hmem hob h3 hc2 hcnt hm hrec hbk hlen hv
   go_enter Tryz.func91, Tryz.ntmps91
   go_upto_region 4 with fail
   obtain ⟨W1, hW1⟩ : ∃ W1, W1 = w.alloc (.cells #[.int .i64 m.b.base, .int .i64 m.b.prod, .int .i64 m.b.epoch, .int .i64 m.b.seq, .bool m.b.txn, .int .i64 m.b.marker, .slice m.ad m.b.recs.length m.cap] 56) := ⟨_, rfl⟩
   have HB1 : Hid (Below w.heap.size w W1) := by show Below _ _ _; rw [hW1]; exact (Below.refl _ _).alloc (Nat.le_refl _) _
   obtain ⟨K, hK⟩ : ∃ K, K = w.heap.size := ⟨_, rfl⟩
   have HX1 : Hid (BoxAt W1 K m.b.base m.b.prod m.b.epoch m.b.seq m.b.txn m.b.marker (.slice m.ad m.b.recs.length m.cap)) := by show BoxAt _ _ _ _ _ _ _ _ _; rw [hW1, hK]; exact boxAt_new w _ _ _ _ _ _ _
   rw [← hW1, ← hK]
   clear hW1 hK c0 c1 c2 c3 c4 c5 c6
   have KS : Hid (∀ W, Below W1.heap.size W1 W → (fun (W : World) => W.cell? ⟨K, 0, none⟩ = some (.int .i64 m.b.base) ∧ W.cell? ⟨K, 1, none⟩ = some (.int .i64 m.b.prod) ∧ W.cell? ⟨K, 2, none⟩ = some (.int .i64 m.b.epoch) ∧ W.cell? ⟨K, 3, none⟩ = some (.int .i64 m.b.seq) ∧ W.cell? ⟨K, 4, none⟩ = some (.bool m.b.txn) ∧ W.cell? ⟨K, 5, none⟩ = some (.int .i64 m.b.marker) ∧ W.cell? ⟨K, 6, none⟩ = some (.slice m.ad m.b.recs.length m.cap)) W) := by
    intro W hW
    have hX := HX1.out.on hW
    exact ⟨hX.c0, hX.c1, hX.c2, hX.c3, hX.c4, hX.c5, hX.c6⟩
   have hdrw : Below W1.heap.size W1 W1.drew := (Below.refl _ W1).drew
   have hwr : IntKind.i64.wrap (m.b.base + cnt) = v := by rw [HVV.out]; have := HVV.out; exact IntWalk.i64_in _ (by omega)
   refine wp_region_noPanic ?_
   refine wp_region_z [] (fun (W : World) => W.cell? ⟨K, 0, none⟩ = some (.int .i64 m.b.base) ∧ W.cell? ⟨K, 1, none⟩ = some (.int .i64 m.b.prod) ∧ W.cell? ⟨K, 2, none⟩ = some (.int .i64 m.b.epoch) ∧ W.cell? ⟨K, 3, none⟩ = some (.int .i64 m.b.seq) ∧ W.cell? ⟨K, 4, none⟩ = some (.bool m.b.txn) ∧ W.cell? ⟨K, 5, none⟩ = some (.int .i64 m.b.marker) ∧ W.cell? ⟨K, 6, none⟩ = some (.slice m.ad m.b.recs.length m.cap)) (by kernel_rfl) ?_
   have hHeld := KS.out _ hdrw
   obtain ⟨u0, hu0⟩ : ∃ u, u = W1.drew := ⟨_, rfl⟩
   rw [← hu0] at hHeld hdrw
   rw [← hu0]
   clear hu0
   have HU := Lib.hid hdrw
   clear hdrw
   refine zt 0 ?_
   refine zt 1 ?_
   refine zt 2 ?_
   refine zr 3 (fun C hC => ?_)
   go_simp
   refine (refCount_any u0 _ _ _ _ _ _ m.ad m.b.recs.length m.cap cnt HCNT.out).mono ?_
   rintro e u1 ⟨rfl, hbb⟩
   have HU1 := Lib.hid (HU.out.trans (hbb.mono HU.out.size))
   clear hbb
   go_wp2_with fail
   have hHeld := KS.out _ HU1.out
   refine zc hC hHeld ?_
   clear hC C
   refine zt 4 ?_
   refine zt 5 ?_
   refine wpAnyZ_done (by kernel_rfl) ?_ _
   refine NoPanic.normal ?_
   go_wp2
   go_ret
   exact says_mk (by first | rfl | exact HVV.out) (HB1.out.trans (HU1.out.mono HB1.out.size))
set_option maxRecDepth 100000 in
set_option maxHeartbeats 4000000 in
theorem modEnd_any (w : World) (km : Nat) (mc start : Int) (ad : Option Addr) (len cap : Nat) (ms : List BM) (hm : MBox w km mc start (.slice ad len cap)) (h : BatsAt w ad len cap ms) (hL : len ≤ 100000) (hok : RowOk (bats ms)) (v : Int) (hv : endD start (bats ms) = v) :
 Calls Tryz.prog 55 #[.pointer (some ⟨km, 0, none⟩)] w (Says v w) := by
 have HM := Lib.hid hm
 have H := Lib.hid h
 clear hm h
 go_enter Tryz.func55, Tryz.ntmps55
 go_upto_region 1 with fail
 have KS : Hid (∀ W, Below w.heap.size w W → (fun (W : World) => W.cell? ⟨km, 1, none⟩ = some (.int .i64 start) ∧ W.cell? ⟨km, 2, none⟩ = some (.slice ad len cap)) W) := by
  intro W hW
  have hX := HM.out.on hW
  exact ⟨hX.c1, hX.c2⟩
 have hdrw : Below w.heap.size w w.drew := (Below.refl _ w).drew
 refine wp_region_noPanic ?_
 refine wp_region_z [] (fun (W : World) => W.cell? ⟨km, 1, none⟩ = some (.int .i64 start) ∧ W.cell? ⟨km, 2, none⟩ = some (.slice ad len cap)) (by kernel_rfl) ?_
 have hHeld := KS.out _ hdrw
 obtain ⟨u0, hu0⟩ : ∃ u, u = w.drew := ⟨_, rfl⟩
 rw [← hu0] at hHeld hdrw
 rw [← hu0]
 clear hu0
 have HU := Lib.hid hdrw
 clear hdrw
 refine zt 0 ?_
 refine zt 1 ?_
 refine zt 2 ?_
 refine zt 3 ?_
 refine zt 4 ?_
 refine zt 5 ?_
 refine zt 6 ?_
 refine zt 7 ?_
 refine zr 8 (fun C hC => ?_)
 go_simp
 refine (refEnd_any u0 start ad len cap ms (H.out.keep HU.out) hL hok v hv).mono ?_
 rintro e u1 ⟨rfl, hbb⟩
 have HU1 := Lib.hid (HU.out.trans (hbb.mono HU.out.size))
 clear hbb
 go_wp2_with fail
 have hHeld := KS.out _ HU1.out
 refine zc hC hHeld ?_
 clear hC C
 refine zt 9 ?_
 refine wpAnyZ_done (by kernel_rfl) ?_ _
 refine NoPanic.normal ?_
 go_wp2
 go_ret
 exact says_mk rfl HU1.out
def SizeLoop (w : World) (bs : List Bat) (j : Nat) (v3 : Value) (wr : World) : Prop := v3 = .int .i64 (bytesD (bs.take j)) ∧ Below w.heap.size w wr
set_option maxRecDepth 100000 in
set_option maxHeartbeats 4000000 in
theorem modSize_any (w : World) (km : Nat) (mc start : Int) (ad : Option Addr) (len cap : Nat) (ms : List BM) (hm : MBox w km mc start (.slice ad len cap)) (h : BatsAt w ad len cap ms) (hL : len ≤ 100000) (hok : RowOk (bats ms)) (v : Int) (hv : bytesD (bats ms) = v) :
 Calls Tryz.prog 88 #[.pointer (some ⟨km, 0, none⟩)] w (Says v w) := by
 have H := Lib.hid h
 have hlen := h.row.length
 obtain ⟨bs, hbs⟩ : ∃ bs, bs = bats ms := ⟨_, rfl⟩
 have hbl : bs.length = len := by rw [hbs]; unfold bats; rw [List.length_map]; exact hlen
 have HGET : Hid (∀ (i : Nat) m, ms[i]? = some m → bs[i]? = some m.b) := by
  intro i m hm
  rw [hbs]; unfold bats
  rw [List.getElem?_map, hm]; rfl
 rw [← hbs] at hok hv
 have HOK := Lib.hid hok
 have HV := Lib.hid hv
 have m2 := hm.c2
 clear h hbs hlen hok hv hm
 go_enter Tryz.func88, Tryz.ntmps88
 go_wp2
 clear m2
 go_loopw [3, 11] (fun v3 v11 wr => ∃ j : Nat, v11 = .int .i64 (j : Int) ∧ j ≤ len ∧ SizeLoop w bs j v3 wr) (fun _ v11 _ => len - (intOf v11).toNat)
 case atStart => exact ⟨0, rfl, Nat.zero_le _, rfl, Below.refl _ _⟩
 case round =>
  obtain ⟨j, rfl, hj, rfl, hbel⟩ := hrel
  have HB := Lib.hid hbel
  clear hbel
  obtain ⟨wo, hwo⟩ : ∃ wo : World, wo = wr := ⟨_, rfl⟩
  subst hwo
  obtain ⟨x, hx⟩ : ∃ x, bytesD (bs.take j) = x := ⟨_, rfl⟩
  have hxb : 0 ≤ x ∧ x ≤ 240400000 := by
   have h1 := bytesD_bd (bs.take j)
   rw [hx, List.length_take] at h1
   omega
  obtain ⟨hx0, hx1⟩ := hxb
  rw [hx]
  have HX := Lib.hid hx
  clear hx
  by_cases hlt : j < len
  · have hd : decide (j < len) = true := decide_eq_true hlt
    have hjl : (j : Int) < (len : Int) := by omega
    obtain ⟨bk, off, m, rfl, hbk, hm, hrec, c0, c1, c2, c3, c4, c5, c6⟩ := (H.out.keep HB.out).get hlt
    have hbm := HGET.out j m hm
    have hmem := List.mem_of_getElem? hbm
    have hob := ok_of (HOK.out m.b hmem).1
    have HTX := Lib.hid (texts_of hob.texts)
    have hr16 := hob.recs
    have hpr := (HOK.out m.b hmem).2.prod.2
    obtain ⟨s, hs⟩ : ∃ s, sizeB m.b = s := ⟨_, rfl⟩
    have hsb : 0 ≤ s ∧ s ≤ 2404 := by rw [← hs]; exact size_bd _
    obtain ⟨hs0, hs1⟩ := hsb
    have HNX : Hid (bytesD (bs.take (j + 1)) = x + s) := by
     show _ = _
     rw [List.take_add_one, hbm]
     show bytesD (bs.take j ++ [m.b]) = _
     rw [bytesD_snoc, HX.out, hs]
    have HS := Lib.hid hs
    have HRC := Lib.hid hrec
    clear hbm hmem hob hs hm hrec hbk
    go_upto_region 5 with fail
    obtain ⟨W1, hW1⟩ : ∃ W1, W1 = wo.alloc (.cells #[.int .i64 m.b.base, .int .i64 m.b.prod, .int .i64 m.b.epoch, .int .i64 m.b.seq, .bool m.b.txn, .int .i64 m.b.marker, .slice m.ad m.b.recs.length m.cap] 56) := ⟨_, rfl⟩
    have hb1 : Below wo.heap.size wo W1 := by rw [hW1]; exact (Below.refl _ _).alloc (Nat.le_refl _) _
    obtain ⟨K, hK⟩ : ∃ K, K = wo.heap.size := ⟨_, rfl⟩
    have HX1 : Hid (BoxAt W1 K m.b.base m.b.prod m.b.epoch m.b.seq m.b.txn m.b.marker (.slice m.ad m.b.recs.length m.cap)) := by show BoxAt _ _ _ _ _ _ _ _ _; rw [hW1, hK]; exact boxAt_new wo _ _ _ _ _ _ _
    have HRC1 := Lib.hid (HRC.out.keep hb1)
    have HB1 := Lib.hid (HB.out.trans (hb1.mono HB.out.size))
    rw [← hW1, ← hK]
    clear hW1 hK hb1 c0 c1 c2 c3 c4 c5 c6 HB
    have p0 := HX1.out.c0
    have p1 := HX1.out.c1
    have p2 := HX1.out.c2
    have p3 := HX1.out.c3
    have p4 := HX1.out.c4
    have p5 := HX1.out.c5
    have p6 := HX1.out.c6
    go_wp2_with fail
    have CS := refSize_any W1 m.b m.ad m.b.recs.length m.cap HRC1.out HTX.out (by omega) hpr
    rw [HS.out] at CS
    refine CS.mono ?_
    clear CS
    rintro e w2 ⟨rfl, hb2⟩
    have HB2 := Lib.hid (HB1.out.trans (hb2.mono HB1.out.size))
    clear hb2 p0 p1 p2 p3 p4 p5 p6
    go_wp2
    go_roundw
    case rel => exact ⟨j + 1, by go_num, by omega, by rw [HNX.out], HB2.out⟩
    case measure => simp [intOf]; omega
  · have hd : decide (j < len) = false := decide_eq_false hlt
    have HE : Hid (x = v) := by show x = v; rw [← HX.out, List.take_of_length_le (by omega), HV.out]
    go_wp2
    go_ret
    exact says_mk HE.out HB.out
end Go.Proofs.YtgohekjkbgfeeaaGreat
