/- Batches are right, written, and read, as the document says, for any. -/
import Derived.Test.YtlpmfhccfihnfaaBatLaw6
import Derived.Test.YtlpmfhccfihnfaaBatLaw2
namespace Go.Proofs.Ytlpmfhccfihnfaa
open Go.RowKit
open Go.SeqMath
open Go.BatMath hiding AllB getD_lt take_all
set_option linter.unusedVariables false

theorem mask16 (a : Int) : bits .and .i64 a 65535 = a % 65536 := by
  have h1 : (BitVec.ofInt 64 65535).toNat = 2 ^ 16 - 1 := by decide
  have key : (BitVec.ofInt 64 a &&& BitVec.ofInt 64 65535).toNat = (a % ((2 ^ 64 : Nat) : Int)).toNat % 2 ^ 16 := by
    rw [BitVec.toNat_and, BitVec.toNat_ofInt, h1, Nat.and_two_pow_sub_one_eq_mod]
  show IntKind.i64.wrap ((BitVec.ofInt 64 a &&& BitVec.ofInt 64 65535).toNat : Nat) = _
  rw [key, IntKind.wrap_i64]
  omega
theorem mask3 (a : Int) : bits .and .i64 a 7 = a % 8 := by
  have h1 : (BitVec.ofInt 64 7).toNat = 2 ^ 3 - 1 := by decide
  have key : (BitVec.ofInt 64 a &&& BitVec.ofInt 64 7).toNat = (a % ((2 ^ 64 : Nat) : Int)).toNat % 2 ^ 3 := by
    rw [BitVec.toNat_and, BitVec.toNat_ofInt, h1, Nat.and_two_pow_sub_one_eq_mod]
  show IntKind.i64.wrap ((BitVec.ofInt 64 a &&& BitVec.ofInt 64 7).toNat : Nat) = _
  rw [key, IntKind.wrap_i64]
  omega
def byteK : Kind Nat := ⟨fun n => [.int .u8 (n : Int)], 1, 5, 34⟩
theorem byteK_ok : byteK.Ok 1 where
  und := Try.underlying34
  info := by
    obtain ⟨i, hi, hz, hs, hb⟩ := info_parts info5
    exact ⟨i, _, hi, hz, hs, hb, rfl⟩
  len := fun _ => rfl
  pos := by decide
  one := fun r u hu => by
    obtain rfl := List.mem_singleton.1 hu
    rfl
  few := by decide
theorem byteK_all : ∀ l : List Nat, byteK.all l = vals l
  | [] => rfl
  | x :: l => by
    have := byteK_all l
    unfold Kind.all vals at *
    rw [List.flatMap_cons, this]
    rfl
theorem own_bytes {w : World} {base : Nat} {v : Value} {l : List Nat} : OwnRow byteK w base v l ↔ w.ownsRow base 5 1 v l.length (vals l) := by
  unfold OwnRow
  rw [byteK_all]
  exact Iff.rfl
theorem row_bytes {w : World} {ad : Option Addr} {len cap : Nat} {l : List Nat} (h : Row w ad len cap l) : RowAt byteK w ad len cap l := by
  refine ⟨h.1.length, h.1.fits, h.2, ?_⟩
  have hl := h.1.length
  rcases h.1.cells with h0 | ⟨b, off, e, hc⟩
  · exact .inl h0
  · by_cases h0 : len = 0
    · exact .inl h0
    · refine .inr ⟨b, off, e, World.block_lt_of_cell? w _ (hc 0 (by omega)), fun i x hi j u hj => ?_⟩
      have hil : i < len := by have := (List.getElem?_eq_some_iff.1 hi).1; omega
      rcases j with _ | j
      · cases hj
        have := hc i hil
        rw [List.getD_eq_getElem?_getD, hi] at this
        show w.cell? ⟨b, off + (i * 1 + 0), none⟩ = _
        rw [Nat.mul_one, Nat.add_zero]
        exact this
      · simp [byteK] at hj
/-- 'x[k] ^= ..'. -/
theorem own_turned {w : World} {base g n cap k : Nat} {bs : List Nat} {z : Int} {y : Nat} (h : w.ownsRow base 5 1 (.slice (some ⟨g, 0, none⟩) n cap) n (vals bs)) (hz : z = (y : Int)) : (w.setCell ⟨g, k, none⟩ (.int .u8 z)).ownsRow base 5 1 (.slice (some ⟨g, 0, none⟩) n cap) n (vals (bs.set k y)) := by
  subst hz
  have := (World.ownsRow.stored h k (.int .u8 (y : Int))).1
  have e : (vals bs).set k (.int .u8 (y : Int)) = vals (bs.set k y) := by unfold vals; rw [List.map_set]; rfl
  rwa [e] at this
theorem all_set {bs : List Nat} (h : AllB bs) (k y : Nat) (hy : y < 256) : AllB (bs.set k y) := by
  intro x hx
  rcases List.mem_or_eq_of_mem_set hx with h1 | rfl
  · exact h x h1
  · exact hy
theorem bytes_own (w : World) (b : Bat) (ad : Option Addr) (len cap n : Nat) (hr : RecsAt w ad len cap b.recs) (h0 : rightE b = 0) (hw : b.wf) (hn : (bytesB b).length = n) :
    Calls Try.prog 12 #[.agg #[.int .i64 b.base, .int .i64 b.prod, .int .i64 b.epoch, .int .i64 b.seq, .bool b.txn, .int .i64 b.marker, .slice ad len cap]] w fun e w' =>
      ∃ g c, e = .returned (.tuple #[.slice (some ⟨g, 0, none⟩) n c, .int .i64 0]) ∧ Hid (w'.ownsRow w.heap.size 5 1 (.slice (some ⟨g, 0, none⟩) n c) n (vals (bytesB b))) ∧ Hid (Below w.heap.size w w') := by
  have ho := ok_of h0
  have hlr := hr.length
  have h16 := ho.recs
  subst hn
  refine (refBytes_any w b ad len cap hr (texts_of ho.texts) (by omega) hw.prod.2).mono ?_
  rintro e w' (⟨_, g, c, rfl, h, hb⟩ | ⟨hne, _, _⟩)
  · exact ⟨g, c, rfl, h, hb⟩
  · exact absurd h0 hne
set_option maxRecDepth 100000 in
set_option maxHeartbeats 16000000 in
theorem tells_any (w : World) (td : Option Addr) (tlen tcap : Nat) (zs : List Int) (h : Nums w td tlen zs) (hL : tlen ≤ 140737488355328) (what n : Int) (hwh : -9223372036854775808 ≤ what ∧ what ≤ 9223372036854775807) (hn : -9223372036854775808 ≤ n ∧ n ≤ 9223372036854775807)
    (b0 b1 b2 b3 : Int) (b4 : Bool) (b5 : Int) (rl : List Rc) (rd : Option Addr) (rlen rcap : Nat) (hrr : RecsAt w rd rlen rcap rl) (hrt : TextsOk rl) (hrL : rlen ≤ 140737488355328) (hrw : Bat.wf ⟨b0, b1, b2, b3, b4, b5, rl⟩)
    (pd : Option Addr) (plen pcap : Nat) (ps : List Nat) (hp : Row w pd plen pcap ps) (at_ : Int) (hat : -9223372036854775808 ≤ at_ ∧ at_ ≤ 9223372036854775807) (turn : Int) :
    Calls Try.prog 4 #[.slice td tlen tcap, .int .i64 what, .int .i64 n, .agg #[.int .i64 b0, .int .i64 b1, .int .i64 b2, .int .i64 b3, .bool b4, .int .i64 b5, .slice rd rlen rcap], .slice pd plen pcap, .int .i64 at_, .int .u8 turn] w fun e w' => e = .returned (.bool true) ∧ Below w.heap.size w w' := by
  have hma := mask16 n
  have hm7 := mask3 n
  obtain ⟨x, hx⟩ : ∃ x, x = n % 65536 := ⟨_, rfl⟩
  obtain ⟨y7, hy7⟩ : ∃ x, x = n % 8 := ⟨_, rfl⟩
  have hx0 : 0 ≤ x ∧ x ≤ 1099511627776 := by omega
  have hy0 : -9223372036854775808 ≤ y7 ∧ y7 ≤ 9223372036854775807 := by omega
  rw [← hx] at hma
  rw [← hy7] at hm7
  have HM7 := Lib.hid hm7
  clear hx hy7 hm7
  obtain ⟨W0, hW0⟩ : ∃ W0, W0 = w.alloc (.cells #[.int .i64 b0, .int .i64 b1, .int .i64 b2, .int .i64 b3, .bool b4, .int .i64 b5, .slice rd rlen rcap] 24) := ⟨_, rfl⟩
  have HB0 : Hid (Below w.heap.size w W0) := by show Below _ _ _; rw [hW0]; exact (Below.refl _ _).alloc (Nat.le_refl _) _
  have HXR0 : Hid (BoxAt W0 w.heap.size b0 b1 b2 b3 b4 b5 (.slice rd rlen rcap)) := by show BoxAt _ _ _ _ _ _ _ _ _; rw [hW0]; exact boxAt_new w _ _ _ _ _ _ _
  have HT0 := Lib.hid (h.keep HB0.out (Nat.le_refl _))
  have HRR0 := Lib.hid (hrr.keep HB0.out)
  have HP0 := Lib.hid (hp.keep HB0.out (Nat.le_refl _))
  clear h hrr hp
  go_enter Try.func4, Try.ntmps4
  go_upto_region 1 with fail
  rw [← hW0]
  obtain ⟨R, hR⟩ : ∃ B, B = w.heap.size := ⟨_, rfl⟩
  rw [← hR] at HXR0
  rw [← hR]
  clear hW0 hR
  go_wp2_with fail
  refine (made_bat W0 td tlen tcap zs HT0.out hL x hx0.1 hx0.2).mono ?_
  rintro e w1 ⟨e1, e2, e3, e4, e5, l, ad1, n1, cap1, rfl, HR, HW, HRE1, HB1⟩
  clear hma
  go_upto_region 2 with fail
  obtain ⟨wb, hwb⟩ : ∃ W1, W1 = w1.alloc (.cells #[.int .i64 x, .int .i64 e1, .int .i64 e2, .int .i64 e3, .bool e4, .int .i64 e5, .slice ad1 n1 cap1] 24) := ⟨_, rfl⟩
  have hB1b : Below w1.heap.size w1 wb := by rw [hwb]; exact (Below.refl _ _).alloc (Nat.le_refl _) _
  have HB0b := Lib.hid (HB1.out.trans (hB1b.mono HB1.out.size))
  have HBb := Lib.hid (HB0.out.trans (HB0b.out.mono HB0.out.size))
  have HREb := Lib.hid (HRE1.out.keep hB1b)
  have HXRb := Lib.hid (HXR0.out.on HB0b.out)
  have HRRb := Lib.hid (HRR0.out.keep HB0b.out)
  have HPb := Lib.hid (HP0.out.keep HB0b.out (Nat.le_refl _))
  have HXBb : Hid (BoxAt wb w1.heap.size x e1 e2 e3 e4 e5 (.slice ad1 n1 cap1)) := by show BoxAt _ _ _ _ _ _ _ _ _; rw [hwb]; exact boxAt_new w1 _ _ _ _ _ _ _
  obtain ⟨B, hB⟩ : ∃ B, B = w1.heap.size := ⟨_, rfl⟩
  rw [← hB] at HXBb
  rw [← hwb, ← hB]
  clear hwb hB hB1b HB0 HB0b HB1 HRE1 HXR0 HRR0 HP0 HT0
  have hok := ok_of HR.out
  have HTX := Lib.hid (texts_of hok.texts)
  have hn16 : n1 ≤ 16 := by have h1 : l.length ≤ 16 := hok.recs; have h2 : l.length = n1 := HREb.out.length; omega
  have hn5 : n1 ≤ 140737488355328 := by omega
  obtain ⟨L, hLL⟩ : ∃ L, L = bytesB ⟨x, e1, e2, e3, e4, e5, l⟩ := ⟨_, rfl⟩
  have hl36 : 36 ≤ L.length ∧ L.length ≤ 2404 := by rw [hLL]; exact ⟨(ok_len hok).2, (ok_len hok).1⟩
  have HAL : Hid (AllB L) := by show AllB _; rw [hLL]; exact bytes_all hok
  obtain ⟨N, hN⟩ : ∃ N, L.length = N := ⟨_, rfl⟩
  rw [hN] at hl36
  have CBY : Hid (Calls Try.prog 12 #[.agg #[.int .i64 x, .int .i64 e1, .int .i64 e2, .int .i64 e3, .bool e4, .int .i64 e5, .slice ad1 n1 cap1]] wb fun e w' => ∃ g c, e = .returned (.tuple #[.slice (some ⟨g, 0, none⟩) N c, .int .i64 0]) ∧ Hid (w'.ownsRow wb.heap.size 5 1 (.slice (some ⟨g, 0, none⟩) N c) N (vals L)) ∧ Hid (Below wb.heap.size wb w')) := by
    have := bytes_own wb ⟨x, e1, e2, e3, e4, e5, l⟩ ad1 n1 cap1 N HREb.out HR.out HW.out (by rw [← hLL]; exact hN)
    rw [← hLL] at this
    exact this
  clear hok hLL
  have p0 := HXBb.out.c0
  have p1 := HXBb.out.c1
  have p2 := HXBb.out.c2
  have p3 := HXBb.out.c3
  have p4 := HXBb.out.c4
  have p5 := HXBb.out.c5
  have p6 := HXBb.out.c6
  go_wp2_with fail
  refine CBY.out.mono ?_
  rintro e w2 ⟨g, c, rfl, HO2, HB2⟩
  clear CBY p0 p1 p2 p3 p4 p5 p6
  go_wp2_with fail
  refine (within_any at_ ((N : Int) - 1) w2 hat (by omega)).mono ?_
  rintro e w3 ⟨k, rfl, hk, rfl⟩
  have hkN : k < N := by omega
  have hk0 : (0 : Int) ≤ (k : Int) := by omega
  have hk1 : (k : Int) < (N : Int) := by omega
  have c0 := (pre_owns HO2.out).1.cell k (by rw [hN]; exact hkN)
  have f0 := (pre_owns HO2.out).1.free k
  obtain ⟨b8, hb8⟩ : ∃ b8 : Nat, L.getD k 0 = b8 := ⟨_, rfl⟩
  rw [hb8] at c0
  obtain ⟨z, hz8, hz⟩ := xor_some (b8 : Int) turn
  clear hb8
  go_upto_if 42 with (fail)
  clear c0 f0
  obtain ⟨L', hL'⟩ : ∃ L', L' = L.set k z := ⟨_, rfl⟩
  have HL' : Hid (AllB L') := by show AllB _; rw [hL']; exact all_set HAL.out k z hz8
  have hN' : L'.length = N := by rw [hL', List.length_set]; exact hN
  have HN' := Lib.hid hN'
  obtain ⟨w3, hw3⟩ : ∃ w3, w3 = w2.setCell ⟨g, k, none⟩ (.int .u8 (z : Int)) := ⟨_, rfl⟩
  have HO3 : Hid (w3.ownsRow wb.heap.size 5 1 (.slice (some ⟨g, 0, none⟩) N c) N (vals L')) := by show World.ownsRow _ _ _ _ _ _ _; rw [hw3, hL']; exact own_turned HO2.out rfl
  have HB3 : Hid (Below wb.heap.size wb w3) := by show Below _ _ _; rw [hw3]; exact HB2.out.setCell ((pre_owns HO2.out).2.2.2.1) _
  rw [← hw3]
  clear hw3 hL' HO2 HB2 HAL hN hz hk hk0 hk1 hkN hN'
  have hpl := HPb.out.1.length
  have hpf := HPb.out.1.fits
  go_cut [4] from 40 (fun s4 wx => wx = w3 ∧ ∃ plen', plen' ≤ 5000 ∧ s4 = .slice pd plen' pcap ∧ Hid (Row wb pd plen' pcap (ps.take plen')))
  case first =>
    by_cases hlt : 5000 < plen
    · obtain ⟨ap, hap⟩ : ∃ a, pd = some a := by
        cases hpd : pd with
        | none => have := HPb.out.2 hpd; omega
        | some a => exact ⟨a, rfl⟩
      have hup : ∀ W, (Instr.slice 34 (.slice pd plen pcap) none (some (.int .i64 5000)) none).run Try.prog W = .ok (.slice pd 5000 pcap) W := run_upto pd plen pcap 5000 (by omega)
      have hrow : Row wb pd 5000 pcap (ps.take 5000) := ⟨byt_upto HPb.out.1 5000 (by omega), HPb.out.2⟩
      have HROW := Lib.hid hrow
      have hd : decide ((5000 : Int) < (plen : Int)) = true := decide_eq_true (by omega)
      clear hrow
      go_wp2
      go_meet
      case rel => exact ⟨rfl, 5000, Nat.le_refl _, by rw [hap], HROW.out⟩
    · have hrow : Row wb pd plen pcap (ps.take plen) := by rw [List.take_of_length_le (by omega)]; exact HPb.out
      have HROW := Lib.hid hrow
      have hd : decide ((5000 : Int) < (plen : Int)) = false := decide_eq_false (by omega)
      clear hrow
      go_wp2
      go_meet
      case rel => exact ⟨rfl, plen, by omega, rfl, HROW.out⟩
  case rest =>
    obtain ⟨hwx, pl, hpl5, rfl, HQ⟩ := hcut
    have hwx := hwx.symm
    subst hwx
    clear HPb hpl hpf
    obtain ⟨qs, hqs⟩ : ∃ q, q = ps.take pl := ⟨_, rfl⟩
    rw [← hqs] at HQ
    clear hqs
    obtain ⟨rr, hrr⟩ : ∃ r : Bool, r = true ↔ (⟨x, e1, e2, e3, e4, e5, l⟩ : Bat) = ⟨b0, b1, b2, b3, b4, b5, rl⟩ := by
      by_cases e : (⟨x, e1, e2, e3, e4, e5, l⟩ : Bat) = ⟨b0, b1, b2, b3, b4, b5, rl⟩
      · exact ⟨true, by simp [e]⟩
      · exact ⟨false, by simp [e]⟩
    have CSB : Hid (∀ W, Below wb.heap.size wb W → Calls Try.prog 10 #[.agg #[.int .i64 x, .int .i64 e1, .int .i64 e2, .int .i64 e3, .bool e4, .int .i64 e5, .slice ad1 n1 cap1]] W fun e w' => e = .returned (.bool true) ∧ Below W.heap.size W w') := fun W hW =>
      lawSame_parts W x e1 e2 e3 e4 e5 l ad1 n1 cap1 (HREb.out.keep hW) HTX.out hn5 HW.out
    have CSR : Hid (∀ W, Below wb.heap.size wb W → Calls Try.prog 10 #[.agg #[.int .i64 b0, .int .i64 b1, .int .i64 b2, .int .i64 b3, .bool b4, .int .i64 b5, .slice rd rlen rcap]] W fun e w' => e = .returned (.bool true) ∧ Below W.heap.size W w') := fun W hW =>
      lawSame_parts W b0 b1 b2 b3 b4 b5 rl rd rlen rcap (HRRb.out.keep hW) hrt hrL hrw
    have COD : Hid (∀ W, Below wb.heap.size wb W → Calls Try.prog 11 #[.agg #[.int .i64 x, .int .i64 e1, .int .i64 e2, .int .i64 e3, .bool e4, .int .i64 e5, .slice ad1 n1 cap1], .int .i64 what, .int .i64 n] W (GivesOdd W n1)) := fun W hW =>
      odd_any W x e1 e2 e3 e4 e5 l ad1 n1 cap1 (HREb.out.keep hW) HTX.out (by omega) HW.out what n hwh hn
    have CM1 : Hid (∀ W, Below wb.heap.size wb W → Calls Try.prog 16 #[.agg #[.int .i64 x, .int .i64 e1, .int .i64 e2, .int .i64 e3, .bool e4, .int .i64 e5, .slice ad1 n1 cap1], .agg #[.int .i64 b0, .int .i64 b1, .int .i64 b2, .int .i64 b3, .bool b4, .int .i64 b5, .slice rd rlen rcap]] W (SaysB rr W)) := fun W hW =>
      batSame_any W ⟨x, e1, e2, e3, e4, e5, l⟩ ⟨b0, b1, b2, b3, b4, b5, rl⟩ _ _ n1 rlen _ _ (HREb.out.keep hW) (HRRb.out.keep hW) hn5 rr hrr
    have CM2 : Hid (∀ W, Below wb.heap.size wb W → Calls Try.prog 17 #[.agg #[.int .i64 x, .int .i64 e1, .int .i64 e2, .int .i64 e3, .bool e4, .int .i64 e5, .slice ad1 n1 cap1], .agg #[.int .i64 b0, .int .i64 b1, .int .i64 b2, .int .i64 b3, .bool b4, .int .i64 b5, .slice rd rlen rcap]] W (SaysB rr W)) := fun W hW =>
      refSame_any W ⟨x, e1, e2, e3, e4, e5, l⟩ ⟨b0, b1, b2, b3, b4, b5, rl⟩ _ _ n1 rlen _ _ (HREb.out.keep hW) (HRRb.out.keep hW) hn5 rr hrr
    have KS : Hid (∀ W, Below wb.heap.size wb W → Below wb.heap.size wb W ∧ W.cell? ⟨B, 0, none⟩ = some (.int .i64 x) ∧ W.cell? ⟨B, 1, none⟩ = some (.int .i64 e1) ∧ W.cell? ⟨B, 2, none⟩ = some (.int .i64 e2) ∧ W.cell? ⟨B, 3, none⟩ = some (.int .i64 e3) ∧ W.cell? ⟨B, 4, none⟩ = some (.bool e4) ∧ W.cell? ⟨B, 5, none⟩ = some (.int .i64 e5) ∧ W.cell? ⟨B, 6, none⟩ = some (.slice ad1 n1 cap1) ∧ W.cell? ⟨R, 0, none⟩ = some (.int .i64 b0) ∧ W.cell? ⟨R, 1, none⟩ = some (.int .i64 b1) ∧ W.cell? ⟨R, 2, none⟩ = some (.int .i64 b2) ∧ W.cell? ⟨R, 3, none⟩ = some (.int .i64 b3) ∧ W.cell? ⟨R, 4, none⟩ = some (.bool b4) ∧ W.cell? ⟨R, 5, none⟩ = some (.int .i64 b5) ∧ W.cell? ⟨R, 6, none⟩ = some (.slice rd rlen rcap)) := by
      intro W hW
      have hX := HXBb.out.on hW
      have hY := HXRb.out.on hW
      exact ⟨hW, hX.c0, hX.c1, hX.c2, hX.c3, hX.c4, hX.c5, hX.c6, hY.c0, hY.c1, hY.c2, hY.c3, hY.c4, hY.c5, hY.c6⟩
    have HQP : Hid (∀ W, Below wb.heap.size wb W → Row W pd pl pcap qs) := fun W hW => HQ.out.keep hW (Nat.le_refl _)
    clear hrr HREb HXBb HXRb HRRb HQ hrt hrw HTX HR HW
    go_upto_region 6 with fail
    have HBd : Hid (Below wb.heap.size wb w3.drew) := HB3.out.drew
    have HOd : Hid (w3.drew.ownsRow wb.heap.size 5 1 (.slice (some ⟨g, 0, none⟩) N c) N (vals L')) := owns_keep HO3.out ((Below.refl _ w3).drew) (Nat.le_refl _)
    refine wp_region_noPanic ?_
    refine wp_region_z [] (fun W => Below wb.heap.size wb W ∧ W.cell? ⟨B, 0, none⟩ = some (.int .i64 x) ∧ W.cell? ⟨B, 1, none⟩ = some (.int .i64 e1) ∧ W.cell? ⟨B, 2, none⟩ = some (.int .i64 e2) ∧ W.cell? ⟨B, 3, none⟩ = some (.int .i64 e3) ∧ W.cell? ⟨B, 4, none⟩ = some (.bool e4) ∧ W.cell? ⟨B, 5, none⟩ = some (.int .i64 e5) ∧ W.cell? ⟨B, 6, none⟩ = some (.slice ad1 n1 cap1) ∧ W.cell? ⟨R, 0, none⟩ = some (.int .i64 b0) ∧ W.cell? ⟨R, 1, none⟩ = some (.int .i64 b1) ∧ W.cell? ⟨R, 2, none⟩ = some (.int .i64 b2) ∧ W.cell? ⟨R, 3, none⟩ = some (.int .i64 b3) ∧ W.cell? ⟨R, 4, none⟩ = some (.bool b4) ∧ W.cell? ⟨R, 5, none⟩ = some (.int .i64 b5) ∧ W.cell? ⟨R, 6, none⟩ = some (.slice rd rlen rcap)) (by kernel_rfl) ?_
    have hHeld : (fun W => Below wb.heap.size wb W ∧ W.cell? ⟨B, 0, none⟩ = some (.int .i64 x) ∧ W.cell? ⟨B, 1, none⟩ = some (.int .i64 e1) ∧ W.cell? ⟨B, 2, none⟩ = some (.int .i64 e2) ∧ W.cell? ⟨B, 3, none⟩ = some (.int .i64 e3) ∧ W.cell? ⟨B, 4, none⟩ = some (.bool e4) ∧ W.cell? ⟨B, 5, none⟩ = some (.int .i64 e5) ∧ W.cell? ⟨B, 6, none⟩ = some (.slice ad1 n1 cap1) ∧ W.cell? ⟨R, 0, none⟩ = some (.int .i64 b0) ∧ W.cell? ⟨R, 1, none⟩ = some (.int .i64 b1) ∧ W.cell? ⟨R, 2, none⟩ = some (.int .i64 b2) ∧ W.cell? ⟨R, 3, none⟩ = some (.int .i64 b3) ∧ W.cell? ⟨R, 4, none⟩ = some (.bool b4) ∧ W.cell? ⟨R, 5, none⟩ = some (.int .i64 b5) ∧ W.cell? ⟨R, 6, none⟩ = some (.slice rd rlen rcap)) _ := KS.out _ HBd.out
    obtain ⟨u0, hu0⟩ : ∃ x, x = w3.drew := ⟨_, rfl⟩
    rw [← hu0] at hHeld HBd HOd
    rw [← hu0]
    clear hu0
    have HBu0 := HBd
    have HOu0 := HOd
    clear HBd HOd
    refine wpAnyZ_take (i := 0) (oi := ⟨_, _, _, _, _, _⟩) (v := ?_) rfl (by kernel_rfl) (by kernel_rfl) (by kernel_rfl) (by kernel_rfl) (by kernel_rfl) (fun _ _ _ h => h) (Or.inl ⟨by rfl, ?_⟩) (by assumption) ?_
    rotate_left
    · intro W hSw
      (try dsimp only at hSw)
      go_simp
      (try with_reducible rfl)
    (try simp only [Act.put, List.setIfInBounds_toArray, List.set_cons_zero, List.set_cons_succ])
    refine wpAnyZ_ready (rs := [1]) (by kernel_rfl) (by simp) ?_
    refine AllReadyZ.cons (o := ⟨_, _, _, _, _, _⟩) rfl (fun C hC => ?_) AllReadyZ.nil
    go_simp
    refine (CSB.out u0 HBu0.out).mono ?_
    rintro e u1 ⟨rfl, hbb⟩
    have HBu1 := Lib.hid (HBu0.out.trans (hbb.mono HBu0.out.size))
    have HOu1 := Lib.hid (owns_keep HOu0.out hbb (Nat.le_refl _))
    clear hbb
    go_wp2_with fail
    have hHeld : (fun W => Below wb.heap.size wb W ∧ W.cell? ⟨B, 0, none⟩ = some (.int .i64 x) ∧ W.cell? ⟨B, 1, none⟩ = some (.int .i64 e1) ∧ W.cell? ⟨B, 2, none⟩ = some (.int .i64 e2) ∧ W.cell? ⟨B, 3, none⟩ = some (.int .i64 e3) ∧ W.cell? ⟨B, 4, none⟩ = some (.bool e4) ∧ W.cell? ⟨B, 5, none⟩ = some (.int .i64 e5) ∧ W.cell? ⟨B, 6, none⟩ = some (.slice ad1 n1 cap1) ∧ W.cell? ⟨R, 0, none⟩ = some (.int .i64 b0) ∧ W.cell? ⟨R, 1, none⟩ = some (.int .i64 b1) ∧ W.cell? ⟨R, 2, none⟩ = some (.int .i64 b2) ∧ W.cell? ⟨R, 3, none⟩ = some (.int .i64 b3) ∧ W.cell? ⟨R, 4, none⟩ = some (.bool b4) ∧ W.cell? ⟨R, 5, none⟩ = some (.int .i64 b5) ∧ W.cell? ⟨R, 6, none⟩ = some (.slice rd rlen rcap)) u1 := KS.out _ HBu1.out
    refine hC.out _ _ (fun _ => hHeld) (fun _ => ?_)
    clear hC C
    (try simp only [Act.put, List.setIfInBounds_toArray, List.set_cons_zero, List.set_cons_succ])
    refine wpAnyZ_take (i := 2) (oi := ⟨_, _, _, _, _, _⟩) (v := ?_) rfl (by kernel_rfl) (by kernel_rfl) (by kernel_rfl) (by kernel_rfl) (by kernel_rfl) (fun _ _ _ h => h) (Or.inl ⟨by rfl, ?_⟩) (by assumption) ?_
    rotate_left
    · intro W hSw
      (try dsimp only at hSw)
      go_simp
      (try with_reducible rfl)
    (try simp only [Act.put, List.setIfInBounds_toArray, List.set_cons_zero, List.set_cons_succ])
    refine wpAnyZ_take (i := 3) (oi := ⟨_, _, _, _, _, _⟩) (v := ?_) rfl (by kernel_rfl) (by kernel_rfl) (by kernel_rfl) (by kernel_rfl) (by kernel_rfl) (fun _ _ _ h => h) (Or.inl ⟨by rfl, ?_⟩) (by assumption) ?_
    rotate_left
    · intro W hSw
      (try dsimp only at hSw)
      go_simp
      (try with_reducible rfl)
    (try simp only [Act.put, List.setIfInBounds_toArray, List.set_cons_zero, List.set_cons_succ])
    refine wpAnyZ_take (i := 4) (oi := ⟨_, _, _, _, _, _⟩) (v := ?_) rfl (by kernel_rfl) (by kernel_rfl) (by kernel_rfl) (by kernel_rfl) (by kernel_rfl) (fun _ _ _ h => h) (Or.inl ⟨by rfl, ?_⟩) (by assumption) ?_
    rotate_left
    · intro W hSw
      (try dsimp only at hSw)
      go_simp
      (try with_reducible rfl)
    (try simp only [Act.put, List.setIfInBounds_toArray, List.set_cons_zero, List.set_cons_succ])
    refine wpAnyZ_take (i := 5) (oi := ⟨_, _, _, _, _, _⟩) (v := ?_) rfl (by kernel_rfl) (by kernel_rfl) (by kernel_rfl) (by kernel_rfl) (by kernel_rfl) (fun _ _ _ h => h) (Or.inl ⟨by rfl, ?_⟩) (by assumption) ?_
    rotate_left
    · intro W hSw
      (try dsimp only at hSw)
      go_simp
      (try with_reducible rfl)
    (try simp only [Act.put, List.setIfInBounds_toArray, List.set_cons_zero, List.set_cons_succ])
    refine wpAnyZ_ready (rs := [6]) (by kernel_rfl) (by simp) ?_
    refine AllReadyZ.cons (o := ⟨_, _, _, _, _, _⟩) rfl (fun C hC => ?_) AllReadyZ.nil
    go_simp
    refine (COD.out u1 HBu1.out).mono ?_
    rintro e u2 ⟨f0, f1, f2, f3, f4, f5, fl, fd, fn, fc, rfl, HF1, HF2, HF3, HF4, hbb⟩
    have hbb := hbb.out
    have HBu2 := Lib.hid (HBu1.out.trans (hbb.mono HBu1.out.size))
    have HOu2 := Lib.hid (owns_keep HOu1.out hbb (Nat.le_refl _))
    clear hbb
    go_wp2_with fail
    have hHeld : (fun W => Below wb.heap.size wb W ∧ W.cell? ⟨B, 0, none⟩ = some (.int .i64 x) ∧ W.cell? ⟨B, 1, none⟩ = some (.int .i64 e1) ∧ W.cell? ⟨B, 2, none⟩ = some (.int .i64 e2) ∧ W.cell? ⟨B, 3, none⟩ = some (.int .i64 e3) ∧ W.cell? ⟨B, 4, none⟩ = some (.bool e4) ∧ W.cell? ⟨B, 5, none⟩ = some (.int .i64 e5) ∧ W.cell? ⟨B, 6, none⟩ = some (.slice ad1 n1 cap1) ∧ W.cell? ⟨R, 0, none⟩ = some (.int .i64 b0) ∧ W.cell? ⟨R, 1, none⟩ = some (.int .i64 b1) ∧ W.cell? ⟨R, 2, none⟩ = some (.int .i64 b2) ∧ W.cell? ⟨R, 3, none⟩ = some (.int .i64 b3) ∧ W.cell? ⟨R, 4, none⟩ = some (.bool b4) ∧ W.cell? ⟨R, 5, none⟩ = some (.int .i64 b5) ∧ W.cell? ⟨R, 6, none⟩ = some (.slice rd rlen rcap)) u2 := KS.out _ HBu2.out
    refine hC.out _ _ (fun _ => hHeld) (fun _ => ?_)
    clear hC C
    (try simp only [Act.put, List.setIfInBounds_toArray, List.set_cons_zero, List.set_cons_succ])
    refine wpAnyZ_ready (rs := [7]) (by kernel_rfl) (by simp) ?_
    refine AllReadyZ.cons (o := ⟨_, _, _, _, _, _⟩) rfl (fun C hC => ?_) AllReadyZ.nil
    go_simp
    refine (lawSame_parts u2 f0 f1 f2 f3 f4 f5 fl fd fn fc HF1.out HF2.out (by have := HF3.out; omega) HF4.out).mono ?_
    rintro e u3 ⟨rfl, hbb⟩
    have HBu3 := Lib.hid (HBu2.out.trans (hbb.mono HBu2.out.size))
    have HOu3 := Lib.hid (owns_keep HOu2.out hbb (Nat.le_refl _))
    clear HF1 HF2 HF3 HF4
    clear hbb
    go_wp2_with fail
    have hHeld : (fun W => Below wb.heap.size wb W ∧ W.cell? ⟨B, 0, none⟩ = some (.int .i64 x) ∧ W.cell? ⟨B, 1, none⟩ = some (.int .i64 e1) ∧ W.cell? ⟨B, 2, none⟩ = some (.int .i64 e2) ∧ W.cell? ⟨B, 3, none⟩ = some (.int .i64 e3) ∧ W.cell? ⟨B, 4, none⟩ = some (.bool e4) ∧ W.cell? ⟨B, 5, none⟩ = some (.int .i64 e5) ∧ W.cell? ⟨B, 6, none⟩ = some (.slice ad1 n1 cap1) ∧ W.cell? ⟨R, 0, none⟩ = some (.int .i64 b0) ∧ W.cell? ⟨R, 1, none⟩ = some (.int .i64 b1) ∧ W.cell? ⟨R, 2, none⟩ = some (.int .i64 b2) ∧ W.cell? ⟨R, 3, none⟩ = some (.int .i64 b3) ∧ W.cell? ⟨R, 4, none⟩ = some (.bool b4) ∧ W.cell? ⟨R, 5, none⟩ = some (.int .i64 b5) ∧ W.cell? ⟨R, 6, none⟩ = some (.slice rd rlen rcap)) u3 := KS.out _ HBu3.out
    refine hC.out _ _ (fun _ => hHeld) (fun _ => ?_)
    clear hC C
    (try simp only [Act.put, List.setIfInBounds_toArray, List.set_cons_zero, List.set_cons_succ])
    refine wpAnyZ_take (i := 8) (oi := ⟨_, _, _, _, _, _⟩) (v := ?_) rfl (by kernel_rfl) (by kernel_rfl) (by kernel_rfl) (by kernel_rfl) (by kernel_rfl) (fun _ _ _ h => h) (Or.inl ⟨by rfl, ?_⟩) (by assumption) ?_
    rotate_left
    · intro W hSw
      (try dsimp only at hSw)
      go_simp
      (try with_reducible rfl)
    (try simp only [Act.put, List.setIfInBounds_toArray, List.set_cons_zero, List.set_cons_succ])
    refine wpAnyZ_take (i := 9) (oi := ⟨_, _, _, _, _, _⟩) (v := ?_) rfl (by kernel_rfl) (by kernel_rfl) (by kernel_rfl) (by kernel_rfl) (by kernel_rfl) (fun _ _ _ h => h) (Or.inl ⟨by rfl, ?_⟩) (by assumption) ?_
    rotate_left
    · intro W hSw
      (try dsimp only at hSw)
      go_simp
      (try with_reducible rfl)
    (try simp only [Act.put, List.setIfInBounds_toArray, List.set_cons_zero, List.set_cons_succ])
    refine wpAnyZ_take (i := 10) (oi := ⟨_, _, _, _, _, _⟩) (v := ?_) rfl (by kernel_rfl) (by kernel_rfl) (by kernel_rfl) (by kernel_rfl) (by kernel_rfl) (fun _ _ _ h => h) (Or.inl ⟨by rfl, ?_⟩) (by assumption) ?_
    rotate_left
    · intro W hSw
      (try dsimp only at hSw)
      go_simp
      (try with_reducible rfl)
    (try simp only [Act.put, List.setIfInBounds_toArray, List.set_cons_zero, List.set_cons_succ])
    refine wpAnyZ_take (i := 11) (oi := ⟨_, _, _, _, _, _⟩) (v := ?_) rfl (by kernel_rfl) (by kernel_rfl) (by kernel_rfl) (by kernel_rfl) (by kernel_rfl) (fun _ _ _ h => h) (Or.inl ⟨by rfl, ?_⟩) (by assumption) ?_
    rotate_left
    · intro W hSw
      (try dsimp only at hSw)
      go_simp
      (try with_reducible rfl)
    (try simp only [Act.put, List.setIfInBounds_toArray, List.set_cons_zero, List.set_cons_succ])
    refine wpAnyZ_take (i := 12) (oi := ⟨_, _, _, _, _, _⟩) (v := ?_) rfl (by kernel_rfl) (by kernel_rfl) (by kernel_rfl) (by kernel_rfl) (by kernel_rfl) (fun _ _ _ h => h) (Or.inl ⟨by rfl, ?_⟩) (by assumption) ?_
    rotate_left
    · intro W hSw
      (try dsimp only at hSw)
      go_simp
      (try with_reducible rfl)
    (try simp only [Act.put, List.setIfInBounds_toArray, List.set_cons_zero, List.set_cons_succ])
    have hm7 := HM7.out
    refine wpAnyZ_take (i := 14) (oi := ⟨_, _, _, _, _, _⟩) (v := ?_) rfl (by kernel_rfl) (by kernel_rfl) (by kernel_rfl) (by kernel_rfl) (by kernel_rfl) (fun _ _ _ h => h) (Or.inl ⟨by rfl, ?_⟩) (by assumption) ?_
    rotate_left
    · intro W hSw
      (try dsimp only at hSw)
      go_simp
      (try with_reducible rfl)
    (try simp only [Act.put, List.setIfInBounds_toArray, List.set_cons_zero, List.set_cons_succ])
    refine wpAnyZ_take (i := 15) (oi := ⟨_, _, _, _, _, _⟩) (v := ?_) rfl (by kernel_rfl) (by kernel_rfl) (by kernel_rfl) (by kernel_rfl) (by kernel_rfl) (fun _ _ _ h => h) (Or.inl ⟨by rfl, ?_⟩) (by assumption) ?_
    rotate_left
    · intro W hSw
      (try dsimp only at hSw)
      go_simp
      (try with_reducible rfl)
    (try simp only [Act.put, List.setIfInBounds_toArray, List.set_cons_zero, List.set_cons_succ])
    refine wpAnyZ_take (i := 16) (oi := ⟨_, _, _, _, _, _⟩) (v := ?_) rfl (by kernel_rfl) (by kernel_rfl) (by kernel_rfl) (by kernel_rfl) (by kernel_rfl) (fun _ _ _ h => h) (Or.inl ⟨by rfl, ?_⟩) (by assumption) ?_
    rotate_left
    · intro W hSw
      (try dsimp only at hSw)
      go_simp
      (try with_reducible rfl)
    (try simp only [Act.put, List.setIfInBounds_toArray, List.set_cons_zero, List.set_cons_succ])
    clear hm7
    refine wpAnyZ_ready (rs := [13]) (by kernel_rfl) (by simp) ?_
    refine AllReadyZ.cons (o := ⟨_, _, _, _, _, _⟩) rfl (fun C hC => ?_) AllReadyZ.nil
    go_simp
    refine (COD.out u3 HBu3.out).mono ?_
    rintro e u4 ⟨i0, i1, i2, i3, i4, i5, il, id, in_, ic, rfl, HF1, HF2, HF3, HF4, hbb⟩
    have hbb := hbb.out
    have HBu4 := Lib.hid (HBu3.out.trans (hbb.mono HBu3.out.size))
    have HOu4 := Lib.hid (owns_keep HOu3.out hbb (Nat.le_refl _))
    clear hbb
    go_wp2_with fail
    have hHeld : (fun W => Below wb.heap.size wb W ∧ W.cell? ⟨B, 0, none⟩ = some (.int .i64 x) ∧ W.cell? ⟨B, 1, none⟩ = some (.int .i64 e1) ∧ W.cell? ⟨B, 2, none⟩ = some (.int .i64 e2) ∧ W.cell? ⟨B, 3, none⟩ = some (.int .i64 e3) ∧ W.cell? ⟨B, 4, none⟩ = some (.bool e4) ∧ W.cell? ⟨B, 5, none⟩ = some (.int .i64 e5) ∧ W.cell? ⟨B, 6, none⟩ = some (.slice ad1 n1 cap1) ∧ W.cell? ⟨R, 0, none⟩ = some (.int .i64 b0) ∧ W.cell? ⟨R, 1, none⟩ = some (.int .i64 b1) ∧ W.cell? ⟨R, 2, none⟩ = some (.int .i64 b2) ∧ W.cell? ⟨R, 3, none⟩ = some (.int .i64 b3) ∧ W.cell? ⟨R, 4, none⟩ = some (.bool b4) ∧ W.cell? ⟨R, 5, none⟩ = some (.int .i64 b5) ∧ W.cell? ⟨R, 6, none⟩ = some (.slice rd rlen rcap)) u4 := KS.out _ HBu4.out
    refine hC.out _ _ (fun _ => hHeld) (fun _ => ?_)
    clear hC C
    (try simp only [Act.put, List.setIfInBounds_toArray, List.set_cons_zero, List.set_cons_succ])
    refine wpAnyZ_ready (rs := [17]) (by kernel_rfl) (by simp) ?_
    refine AllReadyZ.cons (o := ⟨_, _, _, _, _, _⟩) rfl (fun C hC => ?_) AllReadyZ.nil
    go_simp
    refine (odd_any u4 i0 i1 i2 i3 i4 i5 il id in_ ic HF1.out HF2.out (by have := HF3.out; omega) HF4.out at_ y7 hat hy0).mono ?_
    rintro e u5 ⟨j0, j1, j2, j3, j4, j5, jl, jd, jn, jc, rfl, HG1, HG2, HG3, HG4, hbb⟩
    have hbb := hbb.out
    have HBu5 := Lib.hid (HBu4.out.trans (hbb.mono HBu4.out.size))
    have HOu5 := Lib.hid (owns_keep HOu4.out hbb (Nat.le_refl _))
    clear hbb
    go_wp2_with fail
    have hHeld : (fun W => Below wb.heap.size wb W ∧ W.cell? ⟨B, 0, none⟩ = some (.int .i64 x) ∧ W.cell? ⟨B, 1, none⟩ = some (.int .i64 e1) ∧ W.cell? ⟨B, 2, none⟩ = some (.int .i64 e2) ∧ W.cell? ⟨B, 3, none⟩ = some (.int .i64 e3) ∧ W.cell? ⟨B, 4, none⟩ = some (.bool e4) ∧ W.cell? ⟨B, 5, none⟩ = some (.int .i64 e5) ∧ W.cell? ⟨B, 6, none⟩ = some (.slice ad1 n1 cap1) ∧ W.cell? ⟨R, 0, none⟩ = some (.int .i64 b0) ∧ W.cell? ⟨R, 1, none⟩ = some (.int .i64 b1) ∧ W.cell? ⟨R, 2, none⟩ = some (.int .i64 b2) ∧ W.cell? ⟨R, 3, none⟩ = some (.int .i64 b3) ∧ W.cell? ⟨R, 4, none⟩ = some (.bool b4) ∧ W.cell? ⟨R, 5, none⟩ = some (.int .i64 b5) ∧ W.cell? ⟨R, 6, none⟩ = some (.slice rd rlen rcap)) u5 := KS.out _ HBu5.out
    refine hC.out _ _ (fun _ => hHeld) (fun _ => ?_)
    clear hC C
    (try simp only [Act.put, List.setIfInBounds_toArray, List.set_cons_zero, List.set_cons_succ])
    refine wpAnyZ_ready (rs := [18]) (by kernel_rfl) (by simp) ?_
    refine AllReadyZ.cons (o := ⟨_, _, _, _, _, _⟩) rfl (fun C hC => ?_) AllReadyZ.nil
    go_simp
    refine (lawSame_parts u5 j0 j1 j2 j3 j4 j5 jl jd jn jc HG1.out HG2.out (by have := HG3.out; have := HF3.out; omega) HG4.out).mono ?_
    rintro e u6 ⟨rfl, hbb⟩
    have HBu6 := Lib.hid (HBu5.out.trans (hbb.mono HBu5.out.size))
    have HOu6 := Lib.hid (owns_keep HOu5.out hbb (Nat.le_refl _))
    clear HF1 HF2 HF3 HF4 HG1 HG2 HG3 HG4
    clear hbb
    go_wp2_with fail
    have hHeld : (fun W => Below wb.heap.size wb W ∧ W.cell? ⟨B, 0, none⟩ = some (.int .i64 x) ∧ W.cell? ⟨B, 1, none⟩ = some (.int .i64 e1) ∧ W.cell? ⟨B, 2, none⟩ = some (.int .i64 e2) ∧ W.cell? ⟨B, 3, none⟩ = some (.int .i64 e3) ∧ W.cell? ⟨B, 4, none⟩ = some (.bool e4) ∧ W.cell? ⟨B, 5, none⟩ = some (.int .i64 e5) ∧ W.cell? ⟨B, 6, none⟩ = some (.slice ad1 n1 cap1) ∧ W.cell? ⟨R, 0, none⟩ = some (.int .i64 b0) ∧ W.cell? ⟨R, 1, none⟩ = some (.int .i64 b1) ∧ W.cell? ⟨R, 2, none⟩ = some (.int .i64 b2) ∧ W.cell? ⟨R, 3, none⟩ = some (.int .i64 b3) ∧ W.cell? ⟨R, 4, none⟩ = some (.bool b4) ∧ W.cell? ⟨R, 5, none⟩ = some (.int .i64 b5) ∧ W.cell? ⟨R, 6, none⟩ = some (.slice rd rlen rcap)) u6 := KS.out _ HBu6.out
    refine hC.out _ _ (fun _ => hHeld) (fun _ => ?_)
    clear hC C
    (try simp only [Act.put, List.setIfInBounds_toArray, List.set_cons_zero, List.set_cons_succ])
    refine wpAnyZ_take (i := 19) (oi := ⟨_, _, _, _, _, _⟩) (v := ?_) rfl (by kernel_rfl) (by kernel_rfl) (by kernel_rfl) (by kernel_rfl) (by kernel_rfl) (fun _ _ _ h => h) (Or.inl ⟨by rfl, ?_⟩) (by assumption) ?_
    rotate_left
    · intro W hSw
      (try dsimp only at hSw)
      go_simp
      (try with_reducible rfl)
    (try simp only [Act.put, List.setIfInBounds_toArray, List.set_cons_zero, List.set_cons_succ])
    refine wpAnyZ_take (i := 20) (oi := ⟨_, _, _, _, _, _⟩) (v := ?_) rfl (by kernel_rfl) (by kernel_rfl) (by kernel_rfl) (by kernel_rfl) (by kernel_rfl) (fun _ _ _ h => h) (Or.inl ⟨by rfl, ?_⟩) (by assumption) ?_
    rotate_left
    · intro W hSw
      (try dsimp only at hSw)
      go_simp
      (try with_reducible rfl)
    (try simp only [Act.put, List.setIfInBounds_toArray, List.set_cons_zero, List.set_cons_succ])
    refine wpAnyZ_take (i := 21) (oi := ⟨_, _, _, _, _, _⟩) (v := ?_) rfl (by kernel_rfl) (by kernel_rfl) (by kernel_rfl) (by kernel_rfl) (by kernel_rfl) (fun _ _ _ h => h) (Or.inl ⟨by rfl, ?_⟩) (by assumption) ?_
    rotate_left
    · intro W hSw
      (try dsimp only at hSw)
      go_simp
      (try with_reducible rfl)
    (try simp only [Act.put, List.setIfInBounds_toArray, List.set_cons_zero, List.set_cons_succ])
    refine wpAnyZ_ready (rs := [22]) (by kernel_rfl) (by simp) ?_
    refine AllReadyZ.cons (o := ⟨_, _, _, _, _, _⟩) rfl (fun C hC => ?_) AllReadyZ.nil
    go_simp
    refine (CSR.out u6 HBu6.out).mono ?_
    rintro e u7 ⟨rfl, hbb⟩
    have HBu7 := Lib.hid (HBu6.out.trans (hbb.mono HBu6.out.size))
    have HOu7 := Lib.hid (owns_keep HOu6.out hbb (Nat.le_refl _))
    clear hbb
    go_wp2_with fail
    have hHeld : (fun W => Below wb.heap.size wb W ∧ W.cell? ⟨B, 0, none⟩ = some (.int .i64 x) ∧ W.cell? ⟨B, 1, none⟩ = some (.int .i64 e1) ∧ W.cell? ⟨B, 2, none⟩ = some (.int .i64 e2) ∧ W.cell? ⟨B, 3, none⟩ = some (.int .i64 e3) ∧ W.cell? ⟨B, 4, none⟩ = some (.bool e4) ∧ W.cell? ⟨B, 5, none⟩ = some (.int .i64 e5) ∧ W.cell? ⟨B, 6, none⟩ = some (.slice ad1 n1 cap1) ∧ W.cell? ⟨R, 0, none⟩ = some (.int .i64 b0) ∧ W.cell? ⟨R, 1, none⟩ = some (.int .i64 b1) ∧ W.cell? ⟨R, 2, none⟩ = some (.int .i64 b2) ∧ W.cell? ⟨R, 3, none⟩ = some (.int .i64 b3) ∧ W.cell? ⟨R, 4, none⟩ = some (.bool b4) ∧ W.cell? ⟨R, 5, none⟩ = some (.int .i64 b5) ∧ W.cell? ⟨R, 6, none⟩ = some (.slice rd rlen rcap)) u7 := KS.out _ HBu7.out
    refine hC.out _ _ (fun _ => hHeld) (fun _ => ?_)
    clear hC C
    (try simp only [Act.put, List.setIfInBounds_toArray, List.set_cons_zero, List.set_cons_succ])
    refine wpAnyZ_take (i := 23) (oi := ⟨_, _, _, _, _, _⟩) (v := ?_) rfl (by kernel_rfl) (by kernel_rfl) (by kernel_rfl) (by kernel_rfl) (by kernel_rfl) (fun _ _ _ h => h) (Or.inl ⟨by rfl, ?_⟩) (by assumption) ?_
    rotate_left
    · intro W hSw
      (try dsimp only at hSw)
      go_simp
      (try with_reducible rfl)
    (try simp only [Act.put, List.setIfInBounds_toArray, List.set_cons_zero, List.set_cons_succ])
    refine wpAnyZ_take (i := 24) (oi := ⟨_, _, _, _, _, _⟩) (v := ?_) rfl (by kernel_rfl) (by kernel_rfl) (by kernel_rfl) (by kernel_rfl) (by kernel_rfl) (fun _ _ _ h => h) (Or.inl ⟨by rfl, ?_⟩) (by assumption) ?_
    rotate_left
    · intro W hSw
      (try dsimp only at hSw)
      go_simp
      (try with_reducible rfl)
    (try simp only [Act.put, List.setIfInBounds_toArray, List.set_cons_zero, List.set_cons_succ])
    refine wpAnyZ_take (i := 25) (oi := ⟨_, _, _, _, _, _⟩) (v := ?_) rfl (by kernel_rfl) (by kernel_rfl) (by kernel_rfl) (by kernel_rfl) (by kernel_rfl) (fun _ _ _ h => h) (Or.inl ⟨by rfl, ?_⟩) (by assumption) ?_
    rotate_left
    · intro W hSw
      (try dsimp only at hSw)
      go_simp
      (try with_reducible rfl)
    (try simp only [Act.put, List.setIfInBounds_toArray, List.set_cons_zero, List.set_cons_succ])
    refine wpAnyZ_take (i := 26) (oi := ⟨_, _, _, _, _, _⟩) (v := ?_) rfl (by kernel_rfl) (by kernel_rfl) (by kernel_rfl) (by kernel_rfl) (by kernel_rfl) (fun _ _ _ h => h) (Or.inl ⟨by rfl, ?_⟩) (by assumption) ?_
    rotate_left
    · intro W hSw
      (try dsimp only at hSw)
      go_simp
      (try with_reducible rfl)
    (try simp only [Act.put, List.setIfInBounds_toArray, List.set_cons_zero, List.set_cons_succ])
    refine wpAnyZ_ready (rs := [27]) (by kernel_rfl) (by simp) ?_
    refine AllReadyZ.cons (o := ⟨_, _, _, _, _, _⟩) rfl (fun C hC => ?_) AllReadyZ.nil
    go_simp
    refine (lawReads_any u7 _ N c L' (owns_row HOu7.out HL'.out).1 (by omega) n (by omega) (by omega)).mono ?_
    rintro e u8 ⟨rfl, hbb⟩
    have HBu8 := Lib.hid (HBu7.out.trans (hbb.mono HBu7.out.size))
    have HOu8 := Lib.hid (owns_keep HOu7.out hbb (Nat.le_refl _))
    clear hbb
    go_wp2_with fail
    have hHeld : (fun W => Below wb.heap.size wb W ∧ W.cell? ⟨B, 0, none⟩ = some (.int .i64 x) ∧ W.cell? ⟨B, 1, none⟩ = some (.int .i64 e1) ∧ W.cell? ⟨B, 2, none⟩ = some (.int .i64 e2) ∧ W.cell? ⟨B, 3, none⟩ = some (.int .i64 e3) ∧ W.cell? ⟨B, 4, none⟩ = some (.bool e4) ∧ W.cell? ⟨B, 5, none⟩ = some (.int .i64 e5) ∧ W.cell? ⟨B, 6, none⟩ = some (.slice ad1 n1 cap1) ∧ W.cell? ⟨R, 0, none⟩ = some (.int .i64 b0) ∧ W.cell? ⟨R, 1, none⟩ = some (.int .i64 b1) ∧ W.cell? ⟨R, 2, none⟩ = some (.int .i64 b2) ∧ W.cell? ⟨R, 3, none⟩ = some (.int .i64 b3) ∧ W.cell? ⟨R, 4, none⟩ = some (.bool b4) ∧ W.cell? ⟨R, 5, none⟩ = some (.int .i64 b5) ∧ W.cell? ⟨R, 6, none⟩ = some (.slice rd rlen rcap)) u8 := KS.out _ HBu8.out
    refine hC.out _ _ (fun _ => hHeld) (fun _ => ?_)
    clear hC C
    (try simp only [Act.put, List.setIfInBounds_toArray, List.set_cons_zero, List.set_cons_succ])
    refine wpAnyZ_take (i := 28) (oi := ⟨_, _, _, _, _, _⟩) (v := ?_) rfl (by kernel_rfl) (by kernel_rfl) (by kernel_rfl) (by kernel_rfl) (by kernel_rfl) (fun _ _ _ h => h) (Or.inl ⟨by rfl, ?_⟩) (by assumption) ?_
    rotate_left
    · intro W hSw
      (try dsimp only at hSw)
      go_simp
      (try with_reducible rfl)
    (try simp only [Act.put, List.setIfInBounds_toArray, List.set_cons_zero, List.set_cons_succ])
    refine wpAnyZ_take (i := 29) (oi := ⟨_, _, _, _, _, _⟩) (v := ?_) rfl (by kernel_rfl) (by kernel_rfl) (by kernel_rfl) (by kernel_rfl) (by kernel_rfl) (fun _ _ _ h => h) (Or.inl ⟨by rfl, ?_⟩) (by assumption) ?_
    rotate_left
    · intro W hSw
      (try dsimp only at hSw)
      go_simp
      (try with_reducible rfl)
    (try simp only [Act.put, List.setIfInBounds_toArray, List.set_cons_zero, List.set_cons_succ])
    refine wpAnyZ_take (i := 30) (oi := ⟨_, _, _, _, _, _⟩) (v := ?_) rfl (by kernel_rfl) (by kernel_rfl) (by kernel_rfl) (by kernel_rfl) (by kernel_rfl) (fun _ _ _ h => h) (Or.inl ⟨by rfl, ?_⟩) (by assumption) ?_
    rotate_left
    · intro W hSw
      (try dsimp only at hSw)
      go_simp
      (try with_reducible rfl)
    (try simp only [Act.put, List.setIfInBounds_toArray, List.set_cons_zero, List.set_cons_succ])
    refine wpAnyZ_take (i := 31) (oi := ⟨_, _, _, _, _, _⟩) (v := ?_) rfl (by kernel_rfl) (by kernel_rfl) (by kernel_rfl) (by kernel_rfl) (by kernel_rfl) (fun _ _ _ h => h) (Or.inl ⟨by rfl, ?_⟩) (by assumption) ?_
    rotate_left
    · intro W hSw
      (try dsimp only at hSw)
      go_simp
      (try with_reducible rfl)
    (try simp only [Act.put, List.setIfInBounds_toArray, List.set_cons_zero, List.set_cons_succ])
    refine wpAnyZ_ready (rs := [32]) (by kernel_rfl) (by simp) ?_
    refine AllReadyZ.cons (o := ⟨_, _, _, _, _, _⟩) rfl (fun C hC => ?_) AllReadyZ.nil
    go_simp
    refine (lawReads_any u8 pd pl pcap qs (HQP.out u8 HBu8.out).1 (by omega) n (by omega) (by omega)).mono ?_
    rintro e u9 ⟨rfl, hbb⟩
    have HBu9 := Lib.hid (HBu8.out.trans (hbb.mono HBu8.out.size))
    have HOu9 := Lib.hid (owns_keep HOu8.out hbb (Nat.le_refl _))
    clear hbb
    go_wp2_with fail
    have hHeld : (fun W => Below wb.heap.size wb W ∧ W.cell? ⟨B, 0, none⟩ = some (.int .i64 x) ∧ W.cell? ⟨B, 1, none⟩ = some (.int .i64 e1) ∧ W.cell? ⟨B, 2, none⟩ = some (.int .i64 e2) ∧ W.cell? ⟨B, 3, none⟩ = some (.int .i64 e3) ∧ W.cell? ⟨B, 4, none⟩ = some (.bool e4) ∧ W.cell? ⟨B, 5, none⟩ = some (.int .i64 e5) ∧ W.cell? ⟨B, 6, none⟩ = some (.slice ad1 n1 cap1) ∧ W.cell? ⟨R, 0, none⟩ = some (.int .i64 b0) ∧ W.cell? ⟨R, 1, none⟩ = some (.int .i64 b1) ∧ W.cell? ⟨R, 2, none⟩ = some (.int .i64 b2) ∧ W.cell? ⟨R, 3, none⟩ = some (.int .i64 b3) ∧ W.cell? ⟨R, 4, none⟩ = some (.bool b4) ∧ W.cell? ⟨R, 5, none⟩ = some (.int .i64 b5) ∧ W.cell? ⟨R, 6, none⟩ = some (.slice rd rlen rcap)) u9 := KS.out _ HBu9.out
    refine hC.out _ _ (fun _ => hHeld) (fun _ => ?_)
    clear hC C
    (try simp only [Act.put, List.setIfInBounds_toArray, List.set_cons_zero, List.set_cons_succ])
    refine wpAnyZ_take (i := 33) (oi := ⟨_, _, _, _, _, _⟩) (v := ?_) rfl (by kernel_rfl) (by kernel_rfl) (by kernel_rfl) (by kernel_rfl) (by kernel_rfl) (fun _ _ _ h => h) (Or.inl ⟨by rfl, ?_⟩) (by assumption) ?_
    rotate_left
    · intro W hSw
      (try dsimp only at hSw)
      go_simp
      (try with_reducible rfl)
    (try simp only [Act.put, List.setIfInBounds_toArray, List.set_cons_zero, List.set_cons_succ])
    refine wpAnyZ_take (i := 34) (oi := ⟨_, _, _, _, _, _⟩) (v := ?_) rfl (by kernel_rfl) (by kernel_rfl) (by kernel_rfl) (by kernel_rfl) (by kernel_rfl) (fun _ _ _ h => h) (Or.inl ⟨by rfl, ?_⟩) (by assumption) ?_
    rotate_left
    · intro W hSw
      (try dsimp only at hSw)
      go_simp
      (try with_reducible rfl)
    (try simp only [Act.put, List.setIfInBounds_toArray, List.set_cons_zero, List.set_cons_succ])
    refine wpAnyZ_take (i := 35) (oi := ⟨_, _, _, _, _, _⟩) (v := ?_) rfl (by kernel_rfl) (by kernel_rfl) (by kernel_rfl) (by kernel_rfl) (by kernel_rfl) (fun _ _ _ h => h) (Or.inl ⟨by rfl, ?_⟩) (by assumption) ?_
    rotate_left
    · intro W hSw
      (try dsimp only at hSw)
      go_simp
      (try with_reducible rfl)
    (try simp only [Act.put, List.setIfInBounds_toArray, List.set_cons_zero, List.set_cons_succ])
    refine wpAnyZ_take (i := 36) (oi := ⟨_, _, _, _, _, _⟩) (v := ?_) rfl (by kernel_rfl) (by kernel_rfl) (by kernel_rfl) (by kernel_rfl) (by kernel_rfl) (fun _ _ _ h => h) (Or.inl ⟨by rfl, ?_⟩) (by assumption) ?_
    rotate_left
    · intro W hSw
      (try dsimp only at hSw)
      go_simp
      (try with_reducible rfl)
    (try simp only [Act.put, List.setIfInBounds_toArray, List.set_cons_zero, List.set_cons_succ])
    refine wpAnyZ_ready (rs := [37]) (by kernel_rfl) (by simp) ?_
    refine AllReadyZ.cons (o := ⟨_, _, _, _, _, _⟩) rfl (fun C hC => ?_) AllReadyZ.nil
    refine held_row (by rfl) byteK_ok (.tmp 80) (.tmp 81) rfl wb.heap.size L' qs _ rfl (own_bytes.2 (by rw [HN'.out]; exact HOu9.out)) HBu9.out.size pd pl pcap rfl (row_bytes (HQP.out u9 HBu9.out)) (by rw [HN'.out]; omega) ?_
    rintro vv u10 hap
    have HBu10 : Hid (Below wb.heap.size wb u10) := HBu9.out.grown hap.2.1 HBu9.out.size fun k hk => ((HOu9.out.lt k hk).1)
    obtain ⟨yd, yc, hvv, _, _⟩ := hap.1.at byteK_ok
    obtain ⟨yn, hyn⟩ : ∃ yn, (L' ++ qs).length = yn := ⟨_, rfl⟩
    rw [hyn] at hvv
    have hyn2 : yn ≤ 10000 := by have h1 := HN'.out; have h2 := (HQP.out u9 HBu9.out).1.length; rw [List.length_append] at hyn; omega
    have HY : Hid (Byt u10 yd yn yc (L' ++ qs)) := by
      have h1 := own_bytes.1 hap.1
      rw [hyn] at h1
      obtain ⟨ad', cap', e, h2⟩ := owns_any h1 (all_append HL'.out (HQP.out u9 HBu9.out).1.all)
      rw [hvv] at e
      cases e
      exact h2.1
    subst hvv
    clear hap hyn
    have hHeld : (fun W => Below wb.heap.size wb W ∧ W.cell? ⟨B, 0, none⟩ = some (.int .i64 x) ∧ W.cell? ⟨B, 1, none⟩ = some (.int .i64 e1) ∧ W.cell? ⟨B, 2, none⟩ = some (.int .i64 e2) ∧ W.cell? ⟨B, 3, none⟩ = some (.int .i64 e3) ∧ W.cell? ⟨B, 4, none⟩ = some (.bool e4) ∧ W.cell? ⟨B, 5, none⟩ = some (.int .i64 e5) ∧ W.cell? ⟨B, 6, none⟩ = some (.slice ad1 n1 cap1) ∧ W.cell? ⟨R, 0, none⟩ = some (.int .i64 b0) ∧ W.cell? ⟨R, 1, none⟩ = some (.int .i64 b1) ∧ W.cell? ⟨R, 2, none⟩ = some (.int .i64 b2) ∧ W.cell? ⟨R, 3, none⟩ = some (.int .i64 b3) ∧ W.cell? ⟨R, 4, none⟩ = some (.bool b4) ∧ W.cell? ⟨R, 5, none⟩ = some (.int .i64 b5) ∧ W.cell? ⟨R, 6, none⟩ = some (.slice rd rlen rcap)) u10 := KS.out _ HBu10.out
    refine hC.out _ _ (fun _ => hHeld) (fun _ => ?_)
    clear hC C
    (try simp only [Act.put, List.setIfInBounds_toArray, List.set_cons_zero, List.set_cons_succ])
    refine wpAnyZ_ready (rs := [38]) (by kernel_rfl) (by simp) ?_
    refine AllReadyZ.cons (o := ⟨_, _, _, _, _, _⟩) rfl (fun C hC => ?_) AllReadyZ.nil
    go_simp
    refine (lawReads_any u10 yd yn yc (L' ++ qs) HY.out (by omega) 7 (by omega) (by omega)).mono ?_
    rintro e u11 ⟨rfl, hbb⟩
    have HBu11 := Lib.hid (HBu10.out.trans (hbb.mono HBu10.out.size))
    clear hbb
    go_wp2_with fail
    have hHeld : (fun W => Below wb.heap.size wb W ∧ W.cell? ⟨B, 0, none⟩ = some (.int .i64 x) ∧ W.cell? ⟨B, 1, none⟩ = some (.int .i64 e1) ∧ W.cell? ⟨B, 2, none⟩ = some (.int .i64 e2) ∧ W.cell? ⟨B, 3, none⟩ = some (.int .i64 e3) ∧ W.cell? ⟨B, 4, none⟩ = some (.bool e4) ∧ W.cell? ⟨B, 5, none⟩ = some (.int .i64 e5) ∧ W.cell? ⟨B, 6, none⟩ = some (.slice ad1 n1 cap1) ∧ W.cell? ⟨R, 0, none⟩ = some (.int .i64 b0) ∧ W.cell? ⟨R, 1, none⟩ = some (.int .i64 b1) ∧ W.cell? ⟨R, 2, none⟩ = some (.int .i64 b2) ∧ W.cell? ⟨R, 3, none⟩ = some (.int .i64 b3) ∧ W.cell? ⟨R, 4, none⟩ = some (.bool b4) ∧ W.cell? ⟨R, 5, none⟩ = some (.int .i64 b5) ∧ W.cell? ⟨R, 6, none⟩ = some (.slice rd rlen rcap)) u11 := KS.out _ HBu11.out
    refine hC.out _ _ (fun _ => hHeld) (fun _ => ?_)
    clear hC C
    (try simp only [Act.put, List.setIfInBounds_toArray, List.set_cons_zero, List.set_cons_succ])
    refine wpAnyZ_take (i := 39) (oi := ⟨_, _, _, _, _, _⟩) (v := ?_) rfl (by kernel_rfl) (by kernel_rfl) (by kernel_rfl) (by kernel_rfl) (by kernel_rfl) (fun _ _ _ h => h) (Or.inl ⟨by rfl, ?_⟩) (by assumption) ?_
    rotate_left
    · intro W hSw
      (try dsimp only at hSw)
      go_simp
      (try with_reducible rfl)
    (try simp only [Act.put, List.setIfInBounds_toArray, List.set_cons_zero, List.set_cons_succ])
    refine wpAnyZ_take (i := 40) (oi := ⟨_, _, _, _, _, _⟩) (v := ?_) rfl (by kernel_rfl) (by kernel_rfl) (by kernel_rfl) (by kernel_rfl) (by kernel_rfl) (fun _ _ _ h => h) (Or.inl ⟨by rfl, ?_⟩) (by assumption) ?_
    rotate_left
    · intro W hSw
      (try dsimp only at hSw)
      go_simp
      (try with_reducible rfl)
    (try simp only [Act.put, List.setIfInBounds_toArray, List.set_cons_zero, List.set_cons_succ])
    refine wpAnyZ_take (i := 41) (oi := ⟨_, _, _, _, _, _⟩) (v := ?_) rfl (by kernel_rfl) (by kernel_rfl) (by kernel_rfl) (by kernel_rfl) (by kernel_rfl) (fun _ _ _ h => h) (Or.inl ⟨by rfl, ?_⟩) (by assumption) ?_
    rotate_left
    · intro W hSw
      (try dsimp only at hSw)
      go_simp
      (try with_reducible rfl)
    (try simp only [Act.put, List.setIfInBounds_toArray, List.set_cons_zero, List.set_cons_succ])
    refine wpAnyZ_take (i := 42) (oi := ⟨_, _, _, _, _, _⟩) (v := ?_) rfl (by kernel_rfl) (by kernel_rfl) (by kernel_rfl) (by kernel_rfl) (by kernel_rfl) (fun _ _ _ h => h) (Or.inl ⟨by rfl, ?_⟩) (by assumption) ?_
    rotate_left
    · intro W hSw
      (try dsimp only at hSw)
      go_simp
      (try with_reducible rfl)
    (try simp only [Act.put, List.setIfInBounds_toArray, List.set_cons_zero, List.set_cons_succ])
    refine wpAnyZ_take (i := 44) (oi := ⟨_, _, _, _, _, _⟩) (v := ?_) rfl (by kernel_rfl) (by kernel_rfl) (by kernel_rfl) (by kernel_rfl) (by kernel_rfl) (fun _ _ _ h => h) (Or.inl ⟨by rfl, ?_⟩) (by assumption) ?_
    rotate_left
    · intro W hSw
      (try dsimp only at hSw)
      go_simp
      (try with_reducible rfl)
    (try simp only [Act.put, List.setIfInBounds_toArray, List.set_cons_zero, List.set_cons_succ])
    refine wpAnyZ_take (i := 45) (oi := ⟨_, _, _, _, _, _⟩) (v := ?_) rfl (by kernel_rfl) (by kernel_rfl) (by kernel_rfl) (by kernel_rfl) (by kernel_rfl) (fun _ _ _ h => h) (Or.inl ⟨by rfl, ?_⟩) (by assumption) ?_
    rotate_left
    · intro W hSw
      (try dsimp only at hSw)
      go_simp
      (try with_reducible rfl)
    (try simp only [Act.put, List.setIfInBounds_toArray, List.set_cons_zero, List.set_cons_succ])
    refine wpAnyZ_ready (rs := [43]) (by kernel_rfl) (by simp) ?_
    refine AllReadyZ.cons (o := ⟨_, _, _, _, _, _⟩) rfl (fun C hC => ?_) AllReadyZ.nil
    go_simp
    refine (CM1.out u11 HBu11.out).mono ?_
    rintro e u12 ⟨rfl, hbb⟩
    have HBu12 := Lib.hid (HBu11.out.trans (hbb.mono HBu11.out.size))
    clear hbb
    go_wp2_with fail
    have hHeld : (fun W => Below wb.heap.size wb W ∧ W.cell? ⟨B, 0, none⟩ = some (.int .i64 x) ∧ W.cell? ⟨B, 1, none⟩ = some (.int .i64 e1) ∧ W.cell? ⟨B, 2, none⟩ = some (.int .i64 e2) ∧ W.cell? ⟨B, 3, none⟩ = some (.int .i64 e3) ∧ W.cell? ⟨B, 4, none⟩ = some (.bool e4) ∧ W.cell? ⟨B, 5, none⟩ = some (.int .i64 e5) ∧ W.cell? ⟨B, 6, none⟩ = some (.slice ad1 n1 cap1) ∧ W.cell? ⟨R, 0, none⟩ = some (.int .i64 b0) ∧ W.cell? ⟨R, 1, none⟩ = some (.int .i64 b1) ∧ W.cell? ⟨R, 2, none⟩ = some (.int .i64 b2) ∧ W.cell? ⟨R, 3, none⟩ = some (.int .i64 b3) ∧ W.cell? ⟨R, 4, none⟩ = some (.bool b4) ∧ W.cell? ⟨R, 5, none⟩ = some (.int .i64 b5) ∧ W.cell? ⟨R, 6, none⟩ = some (.slice rd rlen rcap)) u12 := KS.out _ HBu12.out
    refine hC.out _ _ (fun _ => hHeld) (fun _ => ?_)
    clear hC C
    (try simp only [Act.put, List.setIfInBounds_toArray, List.set_cons_zero, List.set_cons_succ])
    refine wpAnyZ_ready (rs := [46]) (by kernel_rfl) (by simp) ?_
    refine AllReadyZ.cons (o := ⟨_, _, _, _, _, _⟩) rfl (fun C hC => ?_) AllReadyZ.nil
    go_simp
    refine (CM2.out u12 HBu12.out).mono ?_
    rintro e u13 ⟨rfl, hbb⟩
    have HBu14 := Lib.hid (HBu12.out.trans (hbb.mono HBu12.out.size))
    clear hbb
    go_wp2_with fail
    have hHeld : (fun W => Below wb.heap.size wb W ∧ W.cell? ⟨B, 0, none⟩ = some (.int .i64 x) ∧ W.cell? ⟨B, 1, none⟩ = some (.int .i64 e1) ∧ W.cell? ⟨B, 2, none⟩ = some (.int .i64 e2) ∧ W.cell? ⟨B, 3, none⟩ = some (.int .i64 e3) ∧ W.cell? ⟨B, 4, none⟩ = some (.bool e4) ∧ W.cell? ⟨B, 5, none⟩ = some (.int .i64 e5) ∧ W.cell? ⟨B, 6, none⟩ = some (.slice ad1 n1 cap1) ∧ W.cell? ⟨R, 0, none⟩ = some (.int .i64 b0) ∧ W.cell? ⟨R, 1, none⟩ = some (.int .i64 b1) ∧ W.cell? ⟨R, 2, none⟩ = some (.int .i64 b2) ∧ W.cell? ⟨R, 3, none⟩ = some (.int .i64 b3) ∧ W.cell? ⟨R, 4, none⟩ = some (.bool b4) ∧ W.cell? ⟨R, 5, none⟩ = some (.int .i64 b5) ∧ W.cell? ⟨R, 6, none⟩ = some (.slice rd rlen rcap)) u13 := KS.out _ HBu14.out
    refine hC.out _ _ (fun _ => hHeld) (fun _ => ?_)
    clear hC C
    (try simp only [Act.put, List.setIfInBounds_toArray, List.set_cons_zero, List.set_cons_succ])
    refine wpAnyZ_take (i := 47) (oi := ⟨_, _, _, _, _, _⟩) (v := ?_) rfl (by kernel_rfl) (by kernel_rfl) (by kernel_rfl) (by kernel_rfl) (by kernel_rfl) (fun _ _ _ h => h) (Or.inl ⟨by rfl, ?_⟩) (by assumption) ?_
    rotate_left
    · intro W hSw
      (try dsimp only at hSw)
      go_simp
      (try with_reducible rfl)
    (try simp only [Act.put, List.setIfInBounds_toArray, List.set_cons_zero, List.set_cons_succ])
    refine wpAnyZ_take (i := 48) (oi := ⟨_, _, _, _, _, _⟩) (v := ?_) rfl (by kernel_rfl) (by kernel_rfl) (by kernel_rfl) (by kernel_rfl) (by kernel_rfl) (fun _ _ _ h => h) (Or.inl ⟨by rfl, ?_⟩) (by assumption) ?_
    rotate_left
    · intro W hSw
      (try dsimp only at hSw)
      go_simp
      (try with_reducible rfl)
    (try simp only [Act.put, List.setIfInBounds_toArray, List.set_cons_zero, List.set_cons_succ])
    refine wpAnyZ_take (i := 49) (oi := ⟨_, _, _, _, _, _⟩) (v := ?_) rfl (by kernel_rfl) (by kernel_rfl) (by kernel_rfl) (by kernel_rfl) (by kernel_rfl) (fun _ _ _ h => h) (Or.inl ⟨by rfl, ?_⟩) (by assumption) ?_
    rotate_left
    · intro W hSw
      (try dsimp only at hSw)
      go_simp
      (try with_reducible rfl)
    (try simp only [Act.put, List.setIfInBounds_toArray, List.set_cons_zero, List.set_cons_succ])
    refine wpAnyZ_ready (rs := [50]) (by kernel_rfl) (by simp) ?_
    refine AllReadyZ.cons (o := ⟨_, _, _, _, _, _⟩) rfl (fun C hC => ?_) AllReadyZ.nil
    go_simp
    refine (known_any u13).mono ?_
    rintro e u14 ⟨rfl, hbb⟩
    have HBu14 := Lib.hid (HBu14.out.trans (hbb.mono HBu14.out.size))
    clear hbb
    go_wp2_with fail
    have hHeld : (fun W => Below wb.heap.size wb W ∧ W.cell? ⟨B, 0, none⟩ = some (.int .i64 x) ∧ W.cell? ⟨B, 1, none⟩ = some (.int .i64 e1) ∧ W.cell? ⟨B, 2, none⟩ = some (.int .i64 e2) ∧ W.cell? ⟨B, 3, none⟩ = some (.int .i64 e3) ∧ W.cell? ⟨B, 4, none⟩ = some (.bool e4) ∧ W.cell? ⟨B, 5, none⟩ = some (.int .i64 e5) ∧ W.cell? ⟨B, 6, none⟩ = some (.slice ad1 n1 cap1) ∧ W.cell? ⟨R, 0, none⟩ = some (.int .i64 b0) ∧ W.cell? ⟨R, 1, none⟩ = some (.int .i64 b1) ∧ W.cell? ⟨R, 2, none⟩ = some (.int .i64 b2) ∧ W.cell? ⟨R, 3, none⟩ = some (.int .i64 b3) ∧ W.cell? ⟨R, 4, none⟩ = some (.bool b4) ∧ W.cell? ⟨R, 5, none⟩ = some (.int .i64 b5) ∧ W.cell? ⟨R, 6, none⟩ = some (.slice rd rlen rcap)) u14 := KS.out _ HBu14.out
    refine hC.out _ _ (fun _ => hHeld) (fun _ => ?_)
    clear hC C
    (try simp only [Act.put, List.setIfInBounds_toArray, List.set_cons_zero, List.set_cons_succ])
    refine wpAnyZ_take (i := 51) (oi := ⟨_, _, _, _, _, _⟩) (v := ?_) rfl (by kernel_rfl) (by kernel_rfl) (by kernel_rfl) (by kernel_rfl) (by kernel_rfl) (fun _ _ _ h => h) (Or.inl ⟨by rfl, ?_⟩) (by assumption) ?_
    rotate_left
    · intro W hSw
      (try dsimp only at hSw)
      go_simp
      (try with_reducible rfl)
    (try simp only [Act.put, List.setIfInBounds_toArray, List.set_cons_zero, List.set_cons_succ])
    refine wpAnyZ_take (i := 52) (oi := ⟨_, _, _, _, _, _⟩) (v := ?_) rfl (by kernel_rfl) (by kernel_rfl) (by kernel_rfl) (by kernel_rfl) (by kernel_rfl) (fun _ _ _ h => h) (Or.inl ⟨by rfl, ?_⟩) (by assumption) ?_
    rotate_left
    · intro W hSw
      (try dsimp only at hSw)
      go_simp
      (try with_reducible rfl)
    (try simp only [Act.put, List.setIfInBounds_toArray, List.set_cons_zero, List.set_cons_succ])
    refine wpAnyZ_done (by kernel_rfl) ?_ _
    refine NoPanic.normal ?_
    go_wp2
    go_ret
    exact ⟨rfl, HBb.out.trans (HBu14.out.mono HBb.out.size)⟩
end Go.Proofs.Ytlpmfhccfihnfaa
