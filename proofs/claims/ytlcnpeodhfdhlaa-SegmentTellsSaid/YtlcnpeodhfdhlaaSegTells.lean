/- Chapter 9's law SegmentTells. -/
import Derived.Test.YtlcnpeodhfdhlaaGSegL
import Derived.Test.YtlcnpeodhfdhlaaGRows
namespace Go.Proofs.Ytlcnpeodhfdhlaa
open Go.RowKit
open Go.ProdMath
open Go.SegMath
open Go.IxMath
open Go.BatMath hiding AllB getD_lt take_all
set_option linter.unusedVariables false

theorem mask16 (a : Int) : bits .and .i64 a 65535 = a % 65536 := by
  have h1 : (BitVec.ofInt 64 65535).toNat = 2 ^ 16 - 1 := by decide
  have key : (BitVec.ofInt 64 a &&& BitVec.ofInt 64 65535).toNat = (a % ((2 ^ 64 : Nat) : Int)).toNat % 2 ^ 16 := by
    rw [BitVec.toNat_and, BitVec.toNat_ofInt, h1, Nat.and_two_pow_sub_one_eq_mod]
  show IntKind.i64.wrap ((BitVec.ofInt 64 a &&& BitVec.ofInt 64 65535).toNat : Nat) = _
  rw [key, IntKind.wrap_i64]
  omega
theorem mask8 (a : Int) : bits .and .i64 a 255 = a % 256 := by
  have h1 : (BitVec.ofInt 64 255).toNat = 2 ^ 8 - 1 := by decide
  have key : (BitVec.ofInt 64 a &&& BitVec.ofInt 64 255).toNat = (a % ((2 ^ 64 : Nat) : Int)).toNat % 2 ^ 8 := by
    rw [BitVec.toNat_and, BitVec.toNat_ofInt, h1, Nat.and_two_pow_sub_one_eq_mod]
  show IntKind.i64.wrap ((BitVec.ofInt 64 a &&& BitVec.ofInt 64 255).toNat : Nat) = _
  rw [key, IntKind.wrap_i64]
  omega
theorem mask5 (a : Int) : bits .and .i64 a 31 = a % 32 := by
  have h1 : (BitVec.ofInt 64 31).toNat = 2 ^ 5 - 1 := by decide
  have key : (BitVec.ofInt 64 a &&& BitVec.ofInt 64 31).toNat = (a % ((2 ^ 64 : Nat) : Int)).toNat % 2 ^ 5 := by
    rw [BitVec.toNat_and, BitVec.toNat_ofInt, h1, Nat.and_two_pow_sub_one_eq_mod]
  show IntKind.i64.wrap ((BitVec.ofInt 64 a &&& BitVec.ofInt 64 31).toNat : Nat) = _
  rw [key, IntKind.wrap_i64]
  omega
theorem Row.kept8 {w3 w6 w7 : World} {ad : Option Addr} {n cap : Nat} {l : List Nat} (h : Row w6 ad n cap l) (h1 : Below w3.heap.size w3 w6) (h2 : Below w3.heap.size w3 w7) (hb : ∀ q, ad = some q → 0 < n → q.block < w3.heap.size) : Row w7 ad n cap l := by
  have hr := row_bytes h
  refine ⟨byt_of ⟨hr.length, hr.fits, hr.room, ?_⟩ h.all, h.2⟩
  rcases hr.cells with h0 | ⟨b, off, e, hlt, hc⟩
  · exact .inl h0
  · rcases Nat.eq_zero_or_pos n with hn | hn
    · exact .inl hn
    · have hb3 : b < w3.heap.size := hb _ e hn
      refine .inr ⟨b, off, e, Nat.lt_of_lt_of_le hb3 h2.size, fun i x hi j u hj => ?_⟩
      have h3 := hc i x hi j u hj
      rw [h1.cell (p := ⟨b, off + (i * byteK.size + j), none⟩) hb3] at h3
      rw [h2.cell (p := ⟨b, off + (i * byteK.size + j), none⟩) hb3]
      exact h3
theorem own_heap {w : World} {b n : Nat} {v : Value} {l : List Nat} (h : OwnRow byteK w b v l) (hn : l.length = n) (h0 : 0 < n) : ∃ g cap cur, v = .slice (some ⟨g, 0, none⟩) n cap ∧ b ≤ g ∧ w.heap[g]? = some (.cells cur 5 (0, 0)) := by
  subst hn
  rcases h.2 with ⟨_, h1⟩ | ⟨g, cap, cur, h1, h2, h3, _⟩
  · omega
  · exact ⟨g, cap, cur, h1, h2, h3⟩
/-- A row of bytes that is the call's own, one of them turned. -/
theorem own_xor {w : World} {b g n cap i : Nat} {l : List Nat} {y : Nat} (h : OwnRow byteK w b (.slice (some ⟨g, 0, none⟩) n cap) l) (hn : l.length = n) (hy : y < 256) : OwnRow byteK (w.setCell ⟨g, i, none⟩ (.int .u8 (y : Int))) b (.slice (some ⟨g, 0, none⟩) n cap) (l.set i y) := by
  have h1 := own_bytes.1 h
  rw [hn] at h1
  have h2 := own_turned (k := i) (z := (y : Int)) (y := y) h1 rfl
  refine own_bytes.2 ?_
  rw [List.length_set, hn]
  exact h2
set_option maxRecDepth 100000 in
set_option maxHeartbeats 32000000 in
theorem segTells_any (w : World) (tad : Option Addr) (tlen tcap : Nat) (zs : List Int) (h : Nums w tad tlen zs) (hL : tlen ≤ 140737488355328) (base nn every : Int) (hb : I64 base) (hn : I64 nn) (he : I64 every) (rad : Option Addr) (rlen rcap : Nat) (rbl : List Nat) (hr : Row w rad rlen rcap rbl) (hrl : rlen ≤ 140737488355328) (at_ turn off : Int) (ha : I64 at_) (ht : 0 ≤ turn ∧ turn < 256) (ho : I64 off) :
    Calls Try.prog 4 #[.slice tad tlen tcap, .int .i64 base, .int .i64 nn, .int .i64 every, .slice rad rlen rcap, .int .i64 at_, .int .u8 turn, .int .i64 off] w fun e w' => e = .returned (.bool true) ∧ Below w.heap.size w w' := by
  have HNU := Lib.hid h
  have HRW := Lib.hid hr
  have HBA := Lib.hid hb
  have HEV := Lib.hid he
  have HOF := Lib.hid ho
  clear h hr
  have hm1 := mask16 base
  have hm2 := mask8 every
  have hm3 := mask5 off
  obtain ⟨b, hbb⟩ : ∃ b, b = base % 65536 := ⟨_, rfl⟩
  obtain ⟨ev, hev⟩ : ∃ b, b = every % 256 := ⟨_, rfl⟩
  obtain ⟨of5, hof5⟩ : ∃ b, b = off % 32 := ⟨_, rfl⟩
  rw [← hbb] at hm1
  rw [← hev] at hm2
  rw [← hof5] at hm3
  have hb0 : 0 ≤ b ∧ b < 65536 := by omega
  have hev0 : 0 ≤ ev ∧ ev < 256 := by omega
  have hof0 : 0 ≤ of5 ∧ of5 < 32 := by omega
  clear hbb hev hof5
  go_enter Try.func4, Try.ntmps4
  go_wp2_with fail
  refine (within_any nn 9 w hn (by omega)).mono ?_
  rintro e w' ⟨k, rfl, hk, rfl⟩
  go_wp2_with fail
  refine (book_any w tad tlen tcap zs HNU.out hL b (by omega) (by omega) k (by omega)).mono ?_
  rintro e w2 ⟨ad, n, cap, ms, rfl, hnk, _, HC2⟩
  obtain ⟨N, CB⟩ := HC2.out
  clear HC2 HNU
  go_wp2_with fail
  refine CB.mono ?_
  rintro e w3 ⟨pad, pcap, rfl, H3⟩
  clear CB
  have hsz := H3.out.size
  have hN : N ≤ 30000 := by omega
  have HR3 := Lib.hid (HRW.out.keep H3.out.below (Nat.le_refl _))
  clear HRW
  obtain ⟨p, hp⟩ : ∃ p, p = flat (bats ms) := ⟨_, rfl⟩
  have HP3 : Hid (Row w3 pad N pcap p) := by show Row _ _ _ _ _; rw [hp]; exact H3.out.row
  have HPL : Hid (p.length = N) := HP3.out.len
  have HPA : Hid (AllB p) := HP3.out.all
  have HBW : Hid (Below w.heap.size w w3) := H3.out.below
  clear H3 hp
  obtain ⟨w5, hw5⟩ : ∃ z, z = w3.alloc (.cells #[] 5) := ⟨_, rfl⟩
  have HB5 : Hid (Below w3.heap.size w3 w5) := by show Below _ _ _; rw [hw5]; exact (Below.refl _ _).alloc (Nat.le_refl _) _
  have HO5 : Hid (OwnRow byteK w5 w3.heap.size (.slice (some ⟨w3.heap.size, 0, none⟩) 0 0) []) := by show OwnRow _ _ _ _ _; rw [hw5]; exact ownRow_lit byteK_ok w3 _ [] (Nat.le_refl _) (by simp) _ rfl 0 rfl
  obtain ⟨g5, hg5⟩ : ∃ z, z = w3.heap.size := ⟨_, rfl⟩
  rw [← hg5] at HO5
  have HG5 := Lib.hid hg5
  have HW5 := Lib.hid hw5
  clear hw5 hg5
  go_upto_region 3 with fail
  go_wp2_with (at_builtin; rw [← HW5.out]; try rw [← HG5.out]; refine list_row (by rfl) byteK_ok (.tmp 30) (.tmp 31) rfl g5 [] p (.slice (some ⟨g5, 0, none⟩) 0 0) rfl HO5.out (by rw [HG5.out]; exact HB5.out.size) pad N pcap rfl (row_bytes (HP3.out.keep HB5.out (Nat.le_refl _))) (by rw [List.length_nil]; omega) ?_)
  intro v6 w6 hap
  have HO6 : Hid (OwnRow byteK w6 g5 v6 p) := hap.1
  have HB6 : Hid (Below w3.heap.size w3 w6) := HB5.out.grown hap.2.1 HB5.out.size fun q hq => by have := (HO5.out.lt q hq).1; have := HG5.out; omega
  have HP6 := Lib.hid (HP3.out.keep HB6.out (Nat.le_refl _))
  have HR6 := Lib.hid (HR3.out.keep HB6.out (Nat.le_refl _))
  have HBW6 : Hid (Below w.heap.size w w6) := HBW.out.trans (HB6.out.mono HBW.out.size)
  have HG6 : Hid (g5 = w3.heap.size) := HG5.out
  have HPB : Hid (∀ q, pad = some q → 0 < N → q.block < w3.heap.size) := fun q hq h0 => by
    rcases (row_bytes HP3.out).cells with h1 | ⟨b', o', e', hlt, _⟩
    · omega
    · rw [hq] at e'; cases e'; exact hlt
  have HRB : Hid (∀ q, rad = some q → 0 < rlen → q.block < w3.heap.size) := fun q hq h0 => by
    rcases (row_bytes HR3.out).cells with h1 | ⟨b', o', e', hlt, _⟩
    · omega
    · rw [hq] at e'; cases e'; exact hlt
  clear hap HO5 HW5 HB5 HG5 HP3 HR3
  rcases Nat.eq_zero_or_pos N with hN0 | hN0
  · subst hN0
    obtain ⟨ad7, cap7, hv7, hr7⟩ := own_byt HO6.out HPA.out (n := 0) HPL.out
    subst hv7
    have HX6 : Hid (Row w6 ad7 0 cap7 p) := hr7
    have HBX : Hid (Below w3.heap.size w3 w6) := HB6.out
    clear hr7 HO6 HB6
    by_cases hr3 : 300 < rlen
    · have hd3 : decide ((300 : Int) < (rlen : Int)) = true := decide_eq_true (by omega)
      have hupr : ∀ V, (Instr.slice 26 (.slice rad rlen rcap) none (some (.int .i64 300)) none).run Try.prog V = .ok (.slice rad 300 rcap) V := fun V => row_upto byteK_ok rad rlen rcap 300 (by have := HR6.out.1.fits; omega) V
      have HRR := Lib.hid (row_first HR6.out 300 (by omega))
      clear HR6
      go_wp2_with fail
      refine (within_any at_ (0) w6 ha (by omega)).mono ?_
      rintro e w' ⟨kk, rfl, hkk, rfl⟩
      have hkN : kk ≤ 0 := by omega
      have hsum1 : IntKind.i64.wrap (b + of5) = b + of5 := by rw [IntKind.wrap_i64]; omega
      have hsum2 : IntKind.i64.wrap (b + of5 - 3) = b + of5 - 3 := by rw [IntKind.wrap_i64]; omega
      have hsum3 : IntKind.i64.wrap (1 + ev) = 1 + ev := by rw [IntKind.wrap_i64]; omega
      have hsum4 : IntKind.i64.wrap (b + 1) = b + 1 := by rw [IntKind.wrap_i64]; omega
      have hful : ∀ V, (Instr.slice 26 (.slice pad 0 pcap) none (some (.int .i64 (kk : Int))) (some (.int .i64 (kk : Int)))).run Try.prog V = .ok (.slice pad kk kk) V := fun V => row_full byteK_ok pad 0 pcap kk (by have := HP6.out.1.fits; omega) V
      go_wp2_with fail
      refine (lawSame_any w6 pad 0 pcap p HP6.out (by omega) b (1 + ev) (b + of5 - 3) ⟨by omega, by omega⟩ ⟨by omega, by omega⟩ ⟨by omega, by omega⟩).mono ?_
      rintro e y1 ⟨rfl, hy1⟩
      have HY1 := Lib.hid hy1
      clear hy1
      go_wp2_with fail
      refine (lawSame_any y1 ad7 0 cap7 p (HX6.out.keep HY1.out (Nat.le_refl _)) (by omega) b (1 + ev) (b + of5 - 3) ⟨by omega, by omega⟩ ⟨by omega, by omega⟩ ⟨by omega, by omega⟩).mono ?_
      rintro e y2 ⟨rfl, hy2⟩
      have HY2 : Hid (Below w6.heap.size w6 y2) := HY1.out.trans (hy2.mono HY1.out.size)
      clear hy2 HY1
      have HFU : Hid (RowAt byteK y2 pad kk kk (p.take kk)) := (row_bytes (HP6.out.keep HY2.out (Nat.le_refl _))).full kk hkN
      have HRU : Hid (RowAt byteK y2 rad 300 rcap (rbl.take 300)) := row_bytes (HRR.out.keep HY2.out (Nat.le_refl _))
      go_wp2_with (at_builtin; refine list_full (by rfl) byteK_ok (.tmp 81) (.tmp 82) rfl (p.take kk) (rbl.take 300) pad rad kk 300 rcap rfl HFU.out rfl HRU.out (by omega) ?_)
      intro ad11 cap11 y3 hr11 hb11
      have HB11 := Lib.hid hb11
      have HR11 : Hid (Row y3 ad11 (kk + 300) cap11 (p.take kk ++ (rbl.take 300))) := ⟨byt_of hr11 (fun x hx => by
        rcases List.mem_append.1 hx with h1 | h1
        · exact HPA.out x (List.mem_of_mem_take h1)
        · exact HRR.out.all x h1), hr11.room⟩
      have HY3 : Hid (Below w6.heap.size w6 y3) := HY2.out.trans (hb11.mono HY2.out.size)
      clear hr11 hb11 HFU HRU HY2 HB11
      go_wp2_with fail
      refine (lawSame_any y3 ad11 (kk + 300) cap11 _ HR11.out (by omega) b 9 (b + of5 - 3) ⟨by omega, by omega⟩ ⟨by omega, by omega⟩ ⟨by omega, by omega⟩).mono ?_
      rintro e y4 ⟨rfl, hy4⟩
      have HY4 : Hid (Below w6.heap.size w6 y4) := HY3.out.trans (hy4.mono HY3.out.size)
      clear hy4 HY3 HR11
      go_wp2_with fail
      refine (lawSame_any y4 rad 300 rcap (rbl.take 300) (HRR.out.keep HY4.out (Nat.le_refl _)) (by omega) base every off HBA.out HEV.out HOF.out).mono ?_
      rintro e y5 ⟨rfl, hy5⟩
      have HY5 : Hid (Below w6.heap.size w6 y5) := HY4.out.trans (hy5.mono HY4.out.size)
      clear hy5 HY4
      go_wp2_with fail
      refine (lawSame_any y5 pad 0 pcap p (HP6.out.keep HY5.out (Nat.le_refl _)) (by omega) (b + 1) 9 (b + of5 - 3) ⟨by omega, by omega⟩ ⟨by omega, by omega⟩ ⟨by omega, by omega⟩).mono ?_
      rintro e y6 ⟨rfl, hy6⟩
      have HY6 : Hid (Below w6.heap.size w6 y6) := HY5.out.trans (hy6.mono HY5.out.size)
      clear hy6 HY5
      go_wp2_with fail
      refine (segKnown_any y6).mono ?_
      rintro e y7 ⟨rfl, hy7⟩
      have HY7 : Hid (Below w.heap.size w y7) := (HBW6.out.trans (HY6.out.mono HBW6.out.size)).trans (hy7.mono (Nat.le_trans HBW6.out.size HY6.out.size))
      clear hy7 HY6
      go_wp2_with fail
      go_ret
      exact ⟨rfl, HY7.out⟩
    · have hd3 : decide ((300 : Int) < (rlen : Int)) = false := decide_eq_false (by omega)
      have HRR := Lib.hid HR6.out
      clear HR6
      go_wp2_with fail
      refine (within_any at_ (0) w6 ha (by omega)).mono ?_
      rintro e w' ⟨kk, rfl, hkk, rfl⟩
      have hkN : kk ≤ 0 := by omega
      have hsum1 : IntKind.i64.wrap (b + of5) = b + of5 := by rw [IntKind.wrap_i64]; omega
      have hsum2 : IntKind.i64.wrap (b + of5 - 3) = b + of5 - 3 := by rw [IntKind.wrap_i64]; omega
      have hsum3 : IntKind.i64.wrap (1 + ev) = 1 + ev := by rw [IntKind.wrap_i64]; omega
      have hsum4 : IntKind.i64.wrap (b + 1) = b + 1 := by rw [IntKind.wrap_i64]; omega
      have hful : ∀ V, (Instr.slice 26 (.slice pad 0 pcap) none (some (.int .i64 (kk : Int))) (some (.int .i64 (kk : Int)))).run Try.prog V = .ok (.slice pad kk kk) V := fun V => row_full byteK_ok pad 0 pcap kk (by have := HP6.out.1.fits; omega) V
      go_wp2_with fail
      refine (lawSame_any w6 pad 0 pcap p HP6.out (by omega) b (1 + ev) (b + of5 - 3) ⟨by omega, by omega⟩ ⟨by omega, by omega⟩ ⟨by omega, by omega⟩).mono ?_
      rintro e y1 ⟨rfl, hy1⟩
      have HY1 := Lib.hid hy1
      clear hy1
      go_wp2_with fail
      refine (lawSame_any y1 ad7 0 cap7 p (HX6.out.keep HY1.out (Nat.le_refl _)) (by omega) b (1 + ev) (b + of5 - 3) ⟨by omega, by omega⟩ ⟨by omega, by omega⟩ ⟨by omega, by omega⟩).mono ?_
      rintro e y2 ⟨rfl, hy2⟩
      have HY2 : Hid (Below w6.heap.size w6 y2) := HY1.out.trans (hy2.mono HY1.out.size)
      clear hy2 HY1
      have HFU : Hid (RowAt byteK y2 pad kk kk (p.take kk)) := (row_bytes (HP6.out.keep HY2.out (Nat.le_refl _))).full kk hkN
      have HRU : Hid (RowAt byteK y2 rad rlen rcap rbl) := row_bytes (HRR.out.keep HY2.out (Nat.le_refl _))
      go_wp2_with (at_builtin; refine list_full (by rfl) byteK_ok (.tmp 81) (.tmp 82) rfl (p.take kk) rbl pad rad kk rlen rcap rfl HFU.out rfl HRU.out (by omega) ?_)
      intro ad11 cap11 y3 hr11 hb11
      have HB11 := Lib.hid hb11
      have HR11 : Hid (Row y3 ad11 (kk + rlen) cap11 (p.take kk ++ rbl)) := ⟨byt_of hr11 (fun x hx => by
        rcases List.mem_append.1 hx with h1 | h1
        · exact HPA.out x (List.mem_of_mem_take h1)
        · exact HRR.out.all x h1), hr11.room⟩
      have HY3 : Hid (Below w6.heap.size w6 y3) := HY2.out.trans (hb11.mono HY2.out.size)
      clear hr11 hb11 HFU HRU HY2 HB11
      go_wp2_with fail
      refine (lawSame_any y3 ad11 (kk + rlen) cap11 _ HR11.out (by omega) b 9 (b + of5 - 3) ⟨by omega, by omega⟩ ⟨by omega, by omega⟩ ⟨by omega, by omega⟩).mono ?_
      rintro e y4 ⟨rfl, hy4⟩
      have HY4 : Hid (Below w6.heap.size w6 y4) := HY3.out.trans (hy4.mono HY3.out.size)
      clear hy4 HY3 HR11
      go_wp2_with fail
      refine (lawSame_any y4 rad rlen rcap rbl (HRR.out.keep HY4.out (Nat.le_refl _)) (by omega) base every off HBA.out HEV.out HOF.out).mono ?_
      rintro e y5 ⟨rfl, hy5⟩
      have HY5 : Hid (Below w6.heap.size w6 y5) := HY4.out.trans (hy5.mono HY4.out.size)
      clear hy5 HY4
      go_wp2_with fail
      refine (lawSame_any y5 pad 0 pcap p (HP6.out.keep HY5.out (Nat.le_refl _)) (by omega) (b + 1) 9 (b + of5 - 3) ⟨by omega, by omega⟩ ⟨by omega, by omega⟩ ⟨by omega, by omega⟩).mono ?_
      rintro e y6 ⟨rfl, hy6⟩
      have HY6 : Hid (Below w6.heap.size w6 y6) := HY5.out.trans (hy6.mono HY5.out.size)
      clear hy6 HY5
      go_wp2_with fail
      refine (segKnown_any y6).mono ?_
      rintro e y7 ⟨rfl, hy7⟩
      have HY7 : Hid (Below w.heap.size w y7) := (HBW6.out.trans (HY6.out.mono HBW6.out.size)).trans (hy7.mono (Nat.le_trans HBW6.out.size HY6.out.size))
      clear hy7 HY6
      go_wp2_with fail
      go_ret
      exact ⟨rfl, HY7.out⟩
  · obtain ⟨g7, cap7, cur7, hv7, hg7, hh7⟩ := own_heap HO6.out HPL.out hN0
    subst hv7
    have hd0 : decide ((0 : Int) < (N : Int)) = true := decide_eq_true (by omega)
    have hw1 : IntKind.i64.wrap ((N : Int) - 1) = (N : Int) - 1 := by rw [IntKind.wrap_i64]; omega
    have HH7 := Lib.hid hh7
    have hfz := frozen_of_row w6 g7
    clear hh7
    go_wp2_with fail
    refine (within_any at_ ((N : Int) - 1) w6 ha (by omega)).mono ?_
    rintro e w' ⟨i, rfl, hi, rfl⟩
    have hiN : i < N := by omega
    obtain ⟨ad8, cap8, hv8, hr8⟩ := own_byt HO6.out HPA.out (n := N) HPL.out
    have e8 : ad8 = some ⟨g7, 0, none⟩ := by injection hv8 with e1 _ _; exact e1.symm
    obtain ⟨bk, ok, z, e9, _, hz, hcz⟩ := byte_get (row_bytes hr8) hiN
    rw [e8] at e9
    have e10 : bk = g7 ∧ ok = 0 := by injection e9 with e9; injection e9 with e9a e9b _; exact ⟨e9a.symm, e9b.symm⟩
    obtain ⟨e11, e12⟩ := e10
    subst e11 e12
    rw [Nat.zero_add] at hcz
    have hzlt : z < 256 := HPA.out z (List.mem_of_getElem? hz)
    obtain ⟨y, hy, hxor⟩ := xor_some (z : Int) turn
    have hij : (i : Int) < (N : Int) := by omega
    have hf7 : w6.frozen? ⟨bk, i, none⟩ = false := frozen_of_row w6 bk i _ _ HH7.out
    have HOX := Lib.hid (own_xor (i := i) (y := y) HO6.out HPL.out hy)
    have HBX : Hid (Below w3.heap.size w3 (w6.setCell ⟨bk, i, none⟩ (.int .u8 (y : Int)))) := HB6.out.setCell (by show w3.heap.size ≤ bk; have := HG6.out; omega) _
    clear hv8 hr8 e8 e9 hz HH7
    go_upto_region 6 with fail
    obtain ⟨w7, hw7⟩ : ∃ z, z = w6.setCell ⟨bk, i, none⟩ (.int .u8 (y : Int)) := ⟨_, rfl⟩
    rw [← hw7] at HOX HBX
    rw [← hw7]
    clear hw7 hcz hf7 hxor hfz
    have hpx : (p.set i y).length = N := by rw [List.length_set]; exact HPL.out
    obtain ⟨ad9, cap9, hv9, hr9⟩ := own_byt HOX.out (all_set HPA.out i y hy) (n := N) hpx
    cases hv9
    have HX7 : Hid (Row w7 (some ⟨bk, 0, none⟩) N cap7 (p.set i y)) := hr9
    clear hr9 hpx HOX HO6
    have HP7 : Hid (Row w7 pad N pcap p) := by
      refine Row.kept8 HP6.out HB6.out HBX.out (fun q hq h0 => HPB.out q hq h0)
    have HR7 : Hid (Row w7 rad rlen rcap rbl) := by
      refine Row.kept8 HR6.out HB6.out HBX.out (fun q hq h0 => HRB.out q hq h0)
    have HBW7 : Hid (Below w.heap.size w w7) := HBW.out.trans (HBX.out.mono HBW.out.size)
    clear HP6 HR6 HB6 HBX HBW6
    by_cases hr3 : 300 < rlen
    · have hd3 : decide ((300 : Int) < (rlen : Int)) = true := decide_eq_true (by omega)
      have hupr : ∀ V, (Instr.slice 26 (.slice rad rlen rcap) none (some (.int .i64 300)) none).run Try.prog V = .ok (.slice rad 300 rcap) V := fun V => row_upto byteK_ok rad rlen rcap 300 (by have := HR7.out.1.fits; omega) V
      have HRR := Lib.hid (row_first HR7.out 300 (by omega))
      clear HR7
      go_wp2_with fail
      refine (within_any at_ ((N : Int)) w7 ha (by omega)).mono ?_
      rintro e w' ⟨kk, rfl, hkk, rfl⟩
      have hkN : kk ≤ N := by omega
      have hsum1 : IntKind.i64.wrap (b + of5) = b + of5 := by rw [IntKind.wrap_i64]; omega
      have hsum2 : IntKind.i64.wrap (b + of5 - 3) = b + of5 - 3 := by rw [IntKind.wrap_i64]; omega
      have hsum3 : IntKind.i64.wrap (1 + ev) = 1 + ev := by rw [IntKind.wrap_i64]; omega
      have hsum4 : IntKind.i64.wrap (b + 1) = b + 1 := by rw [IntKind.wrap_i64]; omega
      have hful : ∀ V, (Instr.slice 26 (.slice pad N pcap) none (some (.int .i64 (kk : Int))) (some (.int .i64 (kk : Int)))).run Try.prog V = .ok (.slice pad kk kk) V := fun V => row_full byteK_ok pad N pcap kk (by have := HP7.out.1.fits; omega) V
      go_wp2_with fail
      refine (lawSame_any w7 pad N pcap p HP7.out (by omega) b (1 + ev) (b + of5 - 3) ⟨by omega, by omega⟩ ⟨by omega, by omega⟩ ⟨by omega, by omega⟩).mono ?_
      rintro e y1 ⟨rfl, hy1⟩
      have HY1 := Lib.hid hy1
      clear hy1
      go_wp2_with fail
      refine (lawSame_any y1 (some ⟨bk, 0, none⟩) N cap7 (p.set i y) (HX7.out.keep HY1.out (Nat.le_refl _)) (by omega) b (1 + ev) (b + of5 - 3) ⟨by omega, by omega⟩ ⟨by omega, by omega⟩ ⟨by omega, by omega⟩).mono ?_
      rintro e y2 ⟨rfl, hy2⟩
      have HY2 : Hid (Below w7.heap.size w7 y2) := HY1.out.trans (hy2.mono HY1.out.size)
      clear hy2 HY1
      have HFU : Hid (RowAt byteK y2 pad kk kk (p.take kk)) := (row_bytes (HP7.out.keep HY2.out (Nat.le_refl _))).full kk hkN
      have HRU : Hid (RowAt byteK y2 rad 300 rcap (rbl.take 300)) := row_bytes (HRR.out.keep HY2.out (Nat.le_refl _))
      go_wp2_with (at_builtin; refine list_full (by rfl) byteK_ok (.tmp 81) (.tmp 82) rfl (p.take kk) (rbl.take 300) pad rad kk 300 rcap rfl HFU.out rfl HRU.out (by omega) ?_)
      intro ad11 cap11 y3 hr11 hb11
      have HB11 := Lib.hid hb11
      have HR11 : Hid (Row y3 ad11 (kk + 300) cap11 (p.take kk ++ (rbl.take 300))) := ⟨byt_of hr11 (fun x hx => by
        rcases List.mem_append.1 hx with h1 | h1
        · exact HPA.out x (List.mem_of_mem_take h1)
        · exact HRR.out.all x h1), hr11.room⟩
      have HY3 : Hid (Below w7.heap.size w7 y3) := HY2.out.trans (hb11.mono HY2.out.size)
      clear hr11 hb11 HFU HRU HY2 HB11
      go_wp2_with fail
      refine (lawSame_any y3 ad11 (kk + 300) cap11 _ HR11.out (by omega) b 9 (b + of5 - 3) ⟨by omega, by omega⟩ ⟨by omega, by omega⟩ ⟨by omega, by omega⟩).mono ?_
      rintro e y4 ⟨rfl, hy4⟩
      have HY4 : Hid (Below w7.heap.size w7 y4) := HY3.out.trans (hy4.mono HY3.out.size)
      clear hy4 HY3 HR11
      go_wp2_with fail
      refine (lawSame_any y4 rad 300 rcap (rbl.take 300) (HRR.out.keep HY4.out (Nat.le_refl _)) (by omega) base every off HBA.out HEV.out HOF.out).mono ?_
      rintro e y5 ⟨rfl, hy5⟩
      have HY5 : Hid (Below w7.heap.size w7 y5) := HY4.out.trans (hy5.mono HY4.out.size)
      clear hy5 HY4
      go_wp2_with fail
      refine (lawSame_any y5 pad N pcap p (HP7.out.keep HY5.out (Nat.le_refl _)) (by omega) (b + 1) 9 (b + of5 - 3) ⟨by omega, by omega⟩ ⟨by omega, by omega⟩ ⟨by omega, by omega⟩).mono ?_
      rintro e y6 ⟨rfl, hy6⟩
      have HY6 : Hid (Below w7.heap.size w7 y6) := HY5.out.trans (hy6.mono HY5.out.size)
      clear hy6 HY5
      go_wp2_with fail
      refine (segKnown_any y6).mono ?_
      rintro e y7 ⟨rfl, hy7⟩
      have HY7 : Hid (Below w.heap.size w y7) := (HBW7.out.trans (HY6.out.mono HBW7.out.size)).trans (hy7.mono (Nat.le_trans HBW7.out.size HY6.out.size))
      clear hy7 HY6
      go_wp2_with fail
      go_ret
      exact ⟨rfl, HY7.out⟩
    · have hd3 : decide ((300 : Int) < (rlen : Int)) = false := decide_eq_false (by omega)
      have HRR := Lib.hid HR7.out
      clear HR7
      go_wp2_with fail
      refine (within_any at_ ((N : Int)) w7 ha (by omega)).mono ?_
      rintro e w' ⟨kk, rfl, hkk, rfl⟩
      have hkN : kk ≤ N := by omega
      have hsum1 : IntKind.i64.wrap (b + of5) = b + of5 := by rw [IntKind.wrap_i64]; omega
      have hsum2 : IntKind.i64.wrap (b + of5 - 3) = b + of5 - 3 := by rw [IntKind.wrap_i64]; omega
      have hsum3 : IntKind.i64.wrap (1 + ev) = 1 + ev := by rw [IntKind.wrap_i64]; omega
      have hsum4 : IntKind.i64.wrap (b + 1) = b + 1 := by rw [IntKind.wrap_i64]; omega
      have hful : ∀ V, (Instr.slice 26 (.slice pad N pcap) none (some (.int .i64 (kk : Int))) (some (.int .i64 (kk : Int)))).run Try.prog V = .ok (.slice pad kk kk) V := fun V => row_full byteK_ok pad N pcap kk (by have := HP7.out.1.fits; omega) V
      go_wp2_with fail
      refine (lawSame_any w7 pad N pcap p HP7.out (by omega) b (1 + ev) (b + of5 - 3) ⟨by omega, by omega⟩ ⟨by omega, by omega⟩ ⟨by omega, by omega⟩).mono ?_
      rintro e y1 ⟨rfl, hy1⟩
      have HY1 := Lib.hid hy1
      clear hy1
      go_wp2_with fail
      refine (lawSame_any y1 (some ⟨bk, 0, none⟩) N cap7 (p.set i y) (HX7.out.keep HY1.out (Nat.le_refl _)) (by omega) b (1 + ev) (b + of5 - 3) ⟨by omega, by omega⟩ ⟨by omega, by omega⟩ ⟨by omega, by omega⟩).mono ?_
      rintro e y2 ⟨rfl, hy2⟩
      have HY2 : Hid (Below w7.heap.size w7 y2) := HY1.out.trans (hy2.mono HY1.out.size)
      clear hy2 HY1
      have HFU : Hid (RowAt byteK y2 pad kk kk (p.take kk)) := (row_bytes (HP7.out.keep HY2.out (Nat.le_refl _))).full kk hkN
      have HRU : Hid (RowAt byteK y2 rad rlen rcap rbl) := row_bytes (HRR.out.keep HY2.out (Nat.le_refl _))
      go_wp2_with (at_builtin; refine list_full (by rfl) byteK_ok (.tmp 81) (.tmp 82) rfl (p.take kk) rbl pad rad kk rlen rcap rfl HFU.out rfl HRU.out (by omega) ?_)
      intro ad11 cap11 y3 hr11 hb11
      have HB11 := Lib.hid hb11
      have HR11 : Hid (Row y3 ad11 (kk + rlen) cap11 (p.take kk ++ rbl)) := ⟨byt_of hr11 (fun x hx => by
        rcases List.mem_append.1 hx with h1 | h1
        · exact HPA.out x (List.mem_of_mem_take h1)
        · exact HRR.out.all x h1), hr11.room⟩
      have HY3 : Hid (Below w7.heap.size w7 y3) := HY2.out.trans (hb11.mono HY2.out.size)
      clear hr11 hb11 HFU HRU HY2 HB11
      go_wp2_with fail
      refine (lawSame_any y3 ad11 (kk + rlen) cap11 _ HR11.out (by omega) b 9 (b + of5 - 3) ⟨by omega, by omega⟩ ⟨by omega, by omega⟩ ⟨by omega, by omega⟩).mono ?_
      rintro e y4 ⟨rfl, hy4⟩
      have HY4 : Hid (Below w7.heap.size w7 y4) := HY3.out.trans (hy4.mono HY3.out.size)
      clear hy4 HY3 HR11
      go_wp2_with fail
      refine (lawSame_any y4 rad rlen rcap rbl (HRR.out.keep HY4.out (Nat.le_refl _)) (by omega) base every off HBA.out HEV.out HOF.out).mono ?_
      rintro e y5 ⟨rfl, hy5⟩
      have HY5 : Hid (Below w7.heap.size w7 y5) := HY4.out.trans (hy5.mono HY4.out.size)
      clear hy5 HY4
      go_wp2_with fail
      refine (lawSame_any y5 pad N pcap p (HP7.out.keep HY5.out (Nat.le_refl _)) (by omega) (b + 1) 9 (b + of5 - 3) ⟨by omega, by omega⟩ ⟨by omega, by omega⟩ ⟨by omega, by omega⟩).mono ?_
      rintro e y6 ⟨rfl, hy6⟩
      have HY6 : Hid (Below w7.heap.size w7 y6) := HY5.out.trans (hy6.mono HY5.out.size)
      clear hy6 HY5
      go_wp2_with fail
      refine (segKnown_any y6).mono ?_
      rintro e y7 ⟨rfl, hy7⟩
      have HY7 : Hid (Below w.heap.size w y7) := (HBW7.out.trans (HY6.out.mono HBW7.out.size)).trans (hy7.mono (Nat.le_trans HBW7.out.size HY6.out.size))
      clear hy7 HY6
      go_wp2_with fail
      go_ret
      exact ⟨rfl, HY7.out⟩
end Go.Proofs.Ytlcnpeodhfdhlaa
