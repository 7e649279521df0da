/- The code's entry, Read. -/
import Derived.Test.YtelbignfecjjhaaIxCodeB
import Derived.Test.YtelbignfecjjhaaVarBack
import Derived.Laws.ResultCell
namespace Go.Proofs.Ytelbignfecjjhaa
open Go.RowKit
open Go.IxMath
open Go.VarMath hiding AllB
set_option linter.unusedVariables false

theorem resultsEntry {tmps : Array Value} {B : Nat} {W : World} {a b : Int} (h : W.heap[B]? = some (.cells #[.int .i64 a, .int .i64 b] 46 (0, 0))) (ht : tmps.getD 4 undef = .pointer (some ⟨B, 0, none⟩)) :
    (results Try.f26 tmps).run Try.prog W = .ok (.tuple #[.agg #[.int .i64 a, .int .i64 b], tmps.getD 5 undef]) W := by
  rw [results_cell_tmp (p := 4) (u := 5) (ty := 46) Try.results26, ht]
  have hl := run_loadVar_row (P := Try.prog) W B 46 46 _ (0, 0) _ h Try.underlying46 rfl (by kernel_rfl)
  simp only [asAddr, Sem.run_pure, Result.andThen, hl]
/-- b[k:]. -/
theorem cut_row8 {w : World} {ad : Option Addr} {len cap : Nat} {bl : List Nat} (h : RowAt byteK w ad len cap bl) (k : Nat) (z : Int) (hz : z = (k : Int)) (hk : k ≤ len) : ∃ ad' cap', (∀ V, (Instr.slice 29 (.slice ad len cap) (some (.int .i64 z)) none none).run Try.prog V = .ok (.slice ad' (len - k) cap') V) ∧ RowAt byteK w ad' (len - k) cap' (bl.drop k) := by
  subst hz
  obtain ⟨ad', cap', h1, h2, _⟩ := row_from byteK_ok h k hk
  exact ⟨ad', cap', h1, h2⟩
theorem back_two (a b : Int) (r : List Nat) (ha : -9223372036854775808 ≤ a ∧ a ≤ 9223372036854775807) : backB (longB a ++ longB b ++ r) = (a, true) := by
  rw [List.append_assoc]
  exact backB_long ha.1 ha.2 _
theorem drop_long (a : Int) (r : List Nat) : (longB a ++ r).drop 8 = r := List.drop_left' (length_longB a)
set_option maxRecDepth 100000 in
set_option maxHeartbeats 2000000 in
theorem entry_any (w : World) (ad : Option Addr) (len cap : Nat) (base xo xp : Int) (r : List Nat) (h : RowAt byteK w ad len cap (longB (xo - base) ++ longB xp ++ r)) (ha : AllB (longB (xo - base) ++ longB xp ++ r)) (hlen : len ≤ 16000) (hb : 0 ≤ base ∧ base ≤ 1099511627776) (ho : base ≤ xo ∧ xo ≤ 9223372036854775807) (hp : 0 ≤ xp ∧ xp ≤ 9223372036854775807) :
    Calls Try.prog 26 #[.slice ad len cap, .int .i64 base] w fun e w' => e = .returned (.tuple #[.agg #[.int .i64 xo, .int .i64 xp], .bool true]) ∧ Hid (Below w.heap.size w w') := by
  have hlen8 : 8 ≤ len := by have := h.length; rw [List.length_append, List.length_append, length_longB, length_longB] at this; omega
  obtain ⟨ad2, cap2, hup, h2⟩ := cut_row8 h 8 8 rfl hlen8
  rw [List.append_assoc, drop_long] at h2
  obtain ⟨ah, hah⟩ : ∃ z, z = xo - base := ⟨_, rfl⟩
  rw [← hah] at h ha
  have HAB : Hid (-9223372036854775808 ≤ ah ∧ ah ≤ 9223372036854775807) := by show _ ∧ _; omega
  have HPB : Hid (-9223372036854775808 ≤ xp ∧ xp ≤ 9223372036854775807) := by show _ ∧ _; omega
  have HR := Lib.hid (byt_of h ha)
  have HR2 : Hid (Byt w ad2 (len - 8) cap2 (longB xp ++ r)) := byt_of h2 fun x hx => ha x (by rw [List.append_assoc]; exact List.mem_append_right _ hx)
  have hs0 : IntKind.i64.wrap (9223372036854775807 - base) = 9223372036854775807 - base := by rw [IntKind.wrap_i64]; omega
  have hs1 : decide (9223372036854775807 - base < ah) = false := decide_eq_false (by omega)
  have hs2 : IntKind.i64.wrap (base + ah) = xo := by rw [IntKind.wrap_i64]; omega
  have hs3 : (xp != xp) = false := by simp
  clear h h2 ha
  have HB1 : Hid (Below w.heap.size w (w.alloc (.cells #[.int .i64 0, .int .i64 0] 46))) := (Below.refl _ w).alloc (Nat.le_refl _) _
  have HB2 : Hid (Below w.heap.size w (w.alloc (.cells #[.int .i64 xo, .int .i64 xp] 46))) := (Below.refl _ w).alloc (Nat.le_refl _) _
  have HHN : Hid ((w.alloc (.cells #[.int .i64 xo, .int .i64 xp] 46)).heap[w.heap.size]? = some (.cells #[.int .i64 xo, .int .i64 xp] 46 (0, 0))) := heap_alloc_new w _
  clear hah
  go_enter Try.func26, Try.ntmps26
  go_wp2_with fail
  refine (back_any _ ad len cap _ (HR.out.keep HB1.out (Nat.le_refl _)) (by omega)).mono ?_
  rintro e w2 ⟨rfl, rfl⟩
  rw [back_two _ _ _ HAB.out]
  go_wp2_with fail
  refine (back_any _ ad2 (len - 8) cap2 _ (HR2.out.keep HB1.out (Nat.le_refl _)) (by omega)).mono ?_
  rintro e w2 ⟨rfl, rfl⟩
  rw [backB_long HPB.out.1 HPB.out.2]
  go_wp2_with fail
  exact bodyPost_ret (resultsEntry HHN.out rfl) rfl ⟨rfl, HB2.out⟩
/-- Entries as batches of one byte. -/
def ones (l : List En) : List Ba := l.map fun e => ⟨e.off, e.pos, e.pos + 1⟩
theorem ones_snoc (l : List En) (e : En) : ones (l ++ [e]) = ones l ++ [⟨e.off, e.pos, e.pos + 1⟩] := by simp [ones]
theorem ones_len (l : List En) : (ones l).length = l.length := by simp [ones]
/-- What can be read. -/
structure Right8 (base every : Int) (M : List En) : Prop where
  rise : Rise every M
  some_ : ∀ e ∈ M, base ≤ e.off ∧ e.off ≤ 9223372036854775807 ∧ 0 ≤ e.pos ∧ e.pos ≤ 4611686018427387902
theorem one_ok {base every : Int} {M : List En} (h : Right8 base every M) (h0 : 0 ≤ base) (he : 1 ≤ every) {i : Nat} {x : En} (hx : M[i]? = some x) : badA base (ones (M.take i)) x.off x.pos 1 = false ∧ wantE every (M.take i) x.pos = true := by
  have hs := h.some_ x (List.mem_of_getElem? hx)
  have hlt := (List.getElem?_eq_some_iff.1 hx).1
  rcases Nat.eq_zero_or_pos i with hi | hi
  · subst hi
    refine ⟨decide_eq_false ?_, rfl⟩
    show ¬ (x.off < base ∨ x.off ≤ -1 ∨ x.pos < 0 ∨ x.pos < 0 ∨ (1 : Int) < 1)
    omega
  · have hy : M[i - 1]? = some (M[i - 1]'(by omega)) := List.getElem?_eq_getElem (by omega)
    obtain ⟨y, hye⟩ : ∃ y, y = M[i - 1]'(by omega) := ⟨_, rfl⟩
    rw [← hye] at hy
    have hr := h.rise (i - 1) y x hy (by rw [show i - 1 + 1 = i by omega]; exact hx)
    have ht : M.take i = M.take (i - 1) ++ [y] := by
      have := take_snoc hy
      rw [show i - 1 + 1 = i by omega] at this
      exact this
    rw [ht, ones_snoc]
    constructor
    · refine decide_eq_false ?_
      rw [lastO_snoc, lastF_snoc]
      show ¬ (x.off < base ∨ x.off ≤ y.off ∨ x.pos < 0 ∨ x.pos < y.pos + 1 ∨ (1 : Int) < 1)
      omega
    · unfold wantE
      rw [List.getLast?_append]
      exact decide_eq_true hr.2
theorem ones_made {base every : Int} {M : List En} (h : Right8 base every M) (h0 : 0 ≤ base) (he : 1 ≤ every) : ∀ i, i ≤ M.length → MadeI base (ones (M.take i)) ∧ ents every (ones (M.take i)) = M.take i
  | 0, _ => ⟨MadeI.nil, rfl⟩
  | i + 1, hi => by
    obtain ⟨h1, h2⟩ := ones_made h h0 he i (by omega)
    have hx : M[i]? = some (M[i]'(by omega)) := List.getElem?_eq_getElem (by omega)
    obtain ⟨x, hxe⟩ : ∃ x, x = M[i]'(by omega) := ⟨_, rfl⟩
    rw [← hxe] at hx
    obtain ⟨h3, h4⟩ := one_ok h h0 he hx
    rw [take_snoc hx, ones_snoc]
    refine ⟨h1.snoc h3, ?_⟩
    rw [ents_snoc, h2]
    unfold stepE
    rw [if_pos h4]
theorem ones_small {base every : Int} {M : List En} (h : Right8 base every M) (hn : M.length ≤ 1000) (i : Nat) : Small (ones (M.take i)) := by
  refine ⟨by rw [ones_len, List.length_take]; omega, fun b hb => ?_⟩
  obtain ⟨e, he, rfl⟩ := List.mem_map.1 hb
  have := h.some_ e (List.mem_of_mem_take he)
  exact ⟨this.2.1, by show e.pos + 1 ≤ _; omega⟩
theorem bytesE_take (base : Int) : ∀ (l : List En) (q : Nat), (bytesE base l).take (16 * q) = bytesE base (l.take q)
  | [], q => by rw [List.take_nil]; exact List.take_nil
  | e :: l, 0 => by simp [bytesE]
  | e :: l, q + 1 => by
    have := bytesE_take base l q
    rw [List.take_succ_cons]
    unfold bytesE at *
    rw [List.flatMap_cons, List.flatMap_cons, List.take_append, List.take_of_length_le (by rw [List.length_append, length_longB, length_longB]; omega), ← this]
    congr 2
/-- What is asked of what Read is given: bytes of an index, cut off somewhere, or of no right length. -/
def Read8 (base every : Int) (len : Nat) (bl : List Nat) : Prop := len % 16 ≠ 0 ∨ ∃ bs, MadeI base bs ∧ Small bs ∧ ∃ j, bl = (bytesE base (ents every bs)).take j
theorem read_list {base every : Int} {len : Nat} {bl : List Nat} (hl : bl.length = len) (h0 : len % 16 = 0) (h : Read8 base every len bl) : ∃ M, bl = bytesE base M ∧ 16 * M.length = len ∧ Right8 base every M := by
  rcases h with h1 | ⟨bs, hm, hs, j, hj⟩
  · exact absurd h0 h1
  · have h2 : bl = (bytesE base (ents every bs)).take len := by
      rw [← hl, hj, List.length_take]
      exact List.take_eq_take_min
    have h3 : len ≤ 16 * (ents every bs).length := by
      have := congrArg List.length h2
      rw [hl, List.length_take, bytesE_len] at this
      omega
    rw [show len = 16 * (len / 16) by omega, bytesE_take] at h2
    refine ⟨_, h2, by rw [List.length_take]; omega, fun i a b ha hb => ?_, fun e he => ?_⟩
    · rw [List.getElem?_take] at ha hb
      split at ha
      · split at hb
        · exact rise_ents hm i a b ha hb
        · cases hb
      · cases ha
    · obtain ⟨b, hb, rfl⟩ := ents_mem hm e (List.mem_of_mem_take he)
      have h4 := made_all hm b hb
      have h5 := hs.2 b hb
      exact ⟨h4.1, h5.1, h4.2.2.1, by show b.pos ≤ _; omega⟩
/-- What Read gives: none, if these are no index's bytes; or one whose bytes they are. -/
def GivesRead (w : World) (base every : Int) (bl : List Nat) (e : Ending) (w' : World) : Prop :=
  Hid (Below w.heap.size w w') ∧ ((e = .returned (.tuple #[.pointer none, .bool false]) ∧ Hid (badN base every = false → ∀ bs, MadeI base bs → Small bs → bl ≠ bytesE base (ents every bs))) ∨
    (badN base every = false ∧ ∃ k F bs, e = .returned (.tuple #[.pointer (some ⟨k, 0, none⟩), .bool true]) ∧ Hid (IxOk w' k F base every bs) ∧ Hid (Small bs) ∧ Hid (bl = bytesE base (ents every bs)) ∧ Hid (∀ j, F j → w.heap.size ≤ j)))
def lenV : Value → Nat
  | .slice _ n _ => n
  | _ => 0
/-- A Read on its way. -/
structure Rd8 (w wr : World) (k : Nat) (base every : Int) (M : List En) (i : Nat) (ad : Option Addr) (ln cap : Nat) : Prop where
  row : RowAt byteK w ad ln cap (bytesE base (M.drop i))
  way : ∃ ve vb, Way w wr (fun j => w.heap.size ≤ j) k base every (M.take i) (ones (M.take i)) ve vb
theorem gives_read {w wr : World} {k : Nat} {base every : Int} {M : List En} {bl : List Nat} {ve vb : Value} (h : Way w wr (fun j => w.heap.size ≤ j) k base every M (ones M) ve vb) (hr : Right8 base every M) (h0 : 0 ≤ base ∧ base ≤ 1099511627776 ∧ 1 ≤ every ∧ every ≤ 1073741824) (hn : M.length ≤ 1000) (hbl : bl = bytesE base M) : GivesRead w base every bl (.returned (.tuple #[.pointer (some ⟨k, 0, none⟩), .bool true])) wr := by
  obtain ⟨h1, h2⟩ := ones_made hr h0.1 h0.2.2.1 M.length (Nat.le_refl _)
  have h3 := ones_small hr hn M.length
  rw [List.take_length] at h1 h2 h3
  obtain ⟨F', h4, h5, h6⟩ := h.done h2.symm h0 h1
  exact ⟨h5.out.below (fun i hi => hi) (Nat.le_refl _), .inr ⟨decide_eq_false (by omega), k, F', ones M, rfl, h4, h3, by show bl = _; rw [h2]; exact hbl, fun j hj => (h6.out j hj).elim id id⟩⟩
theorem list_drop {α : Type} {l : List α} {i : Nat} {x : α} (h : l[i]? = some x) : l.drop i = x :: l.drop (i + 1) := by
  obtain ⟨hi, e⟩ := List.getElem?_eq_some_iff.1 h
  rw [← e]
  exact List.drop_eq_getElem_cons hi
set_option maxRecDepth 100000 in
set_option maxHeartbeats 16000000 in
theorem ixRead_any (w : World) (base every : Int) (hb : I64 base) (he : I64 every) (ad : Option Addr) (len cap : Nat) (bl : List Nat) (h : Row w ad len cap bl) (hn : len ≤ 16000) (hx : Read8 base every len bl) : Calls Try.prog 18 #[.int .i64 base, .int .i64 every, .slice ad len cap] w (GivesRead w base every bl) := by
  have HR := Lib.hid h
  have HRX := Lib.hid hx
  clear h hx
  go_enter Try.func18, Try.ntmps18
  go_wp2_with fail
  refine (ixNew_any w base every hb he).mono ?_
  rintro e w1 ⟨HB1, hc⟩
  rcases hc with ⟨hbad, rfl⟩ | ⟨hgood, k, F, rfl, HI, HF⟩
  · have HBAD := Lib.hid hbad
    clear hbad
    go_wp2_with fail
    go_ret2
    exact ⟨HB1, .inl ⟨rfl, fun h => by rw [HBAD.out] at h; cases h⟩⟩
  have HG := Lib.hid hgood
  clear hgood
  obtain ⟨r, hr⟩ : ∃ r : Nat, r = len % 16 := ⟨_, rfl⟩
  have hrem : (len : Int) % 16 = (r : Int) := by omega
  have HRR := Lib.hid hr
  clear hr
  rcases Nat.eq_zero_or_pos r with hr0 | hr0
  rotate_left
  · have hne : ((r : Int) != 0) = true := by simp; omega
    go_wp2_with fail
    go_ret2
    refine ⟨HB1, .inl ⟨rfl, fun _ bs _ _ hbl => ?_⟩⟩
    have h1 := congrArg List.length hbl
    rw [HR.out.len, bytesE_len] at h1
    have := HRR.out
    omega
  subst hr0
  obtain ⟨M, hbl, hlen, hright⟩ := read_list HR.out.len HRR.out.symm HRX.out
  have HRT := Lib.hid hright
  have HBL := Lib.hid hbl
  have HRW := Lib.hid (row_bytes HR.out)
  rw [hbl] at HRW
  obtain ⟨q, hq⟩ : ∃ q, q = M.length := ⟨_, rfl⟩
  have HQ := Lib.hid hq
  rw [← hq] at hlen
  have h00 := HI.out.1
  have H00 := Lib.hid h00
  obtain ⟨_, _, ve, vb, hat, hfoot⟩ := HI.out
  have HRD : Hid (Rd8 w w1 k base every M 0 ad len cap) := ⟨HRW.out, ve, vb, hat, Kept.of_below HB1.out, fun j hj => .inl (HF.out j ((hfoot j).2 hj))⟩
  clear hbl hright hq hat hfoot h00 HI HF HRX ve vb
  have hq1 : q ≤ 1000 := by omega
  go_wp2_with fail
  go_loopw [2] (fun v2 wr => ∃ (i : Nat) (ad' : Option Addr) (ln cap' : Nat), v2 = .slice ad' ln cap' ∧ ln + 16 * i = len ∧ i ≤ q ∧ Hid (Rd8 w wr k base every M i ad' ln cap')) (fun v2 _ => lenV v2)
  case atStart => exact ⟨0, ad, len, cap, rfl, rfl, Nat.zero_le _, HRD.out⟩
  case round =>
    obtain ⟨i, ad', ln, cap', rfl, hln, hiq, HD⟩ := hrel
    obtain ⟨wo, hwo⟩ : ∃ wo : World, wo = wr := ⟨_, rfl⟩
    subst hwo
    clear HRD hrem
    by_cases hlt : 0 < ln
    · have hd : decide ((0 : Int) < (ln : Int)) = true := decide_eq_true (by omega)
      have hi : i < M.length := by rw [← HQ.out]; omega
      obtain ⟨x, hx⟩ : ∃ x, M[i]? = some x := ⟨_, List.getElem?_eq_getElem hi⟩
      have HX := Lib.hid hx
      obtain ⟨xo, hxo⟩ : ∃ z, z = x.off := ⟨_, rfl⟩
      obtain ⟨xp, hxp⟩ : ∃ z, z = x.pos := ⟨_, rfl⟩
      have HXI : Hid (base ≤ xo ∧ xo ≤ 9223372036854775807 ∧ 0 ≤ xp ∧ xp ≤ 4611686018427387902) := by show _ ∧ _; rw [hxo, hxp]; exact HRT.out.some_ x (List.mem_of_getElem? hx)
      have HDR : Hid (bytesE base (M.drop i) = longB (xo - base) ++ longB xp ++ bytesE base (M.drop (i + 1))) := by show _ = _; rw [list_drop hx, hxo, hxp]; rfl
      have HOK : Hid (badA base (ones (M.take i)) xo xp 1 = false) := by show _ = _; rw [hxo, hxp]; exact (one_ok HRT.out H00.out.1 H00.out.2.2.1 hx).1
      have HTE : Hid (M.take (i + 1) = M.take i ++ [⟨xo, xp⟩]) := by show _ = _; rw [hxo, hxp]; exact take_snoc hx
      have HTO : Hid (ones (M.take (i + 1)) = ones (M.take i) ++ [⟨xo, xp, xp + 1⟩]) := by show _ = _; rw [HTE.out, ones_snoc]
      have HML := (ones_made HRT.out H00.out.1 H00.out.2.2.1 i (by rw [← HQ.out]; exact hiq)).1
      have HMD := Lib.hid HML
      have HSM := Lib.hid (ones_small HRT.out (by rw [← HQ.out]; exact hq1) i)
      obtain ⟨ve, vb, hway⟩ := HD.out.way
      have HY := Lib.hid hway
      have HROW := Lib.hid HD.out.row
      rw [HDR.out] at HROW
      have HBW : Hid (Below w.heap.size w wo) := HY.out.kept.below (fun j hj => hj) (Nat.le_refl _)
      obtain ⟨ad5, cap5, hup, hrow5⟩ := cut_row8 HROW.out 16 16 rfl (by omega)
      have HROW5 : Hid (RowAt byteK w ad5 (ln - 16) cap5 (bytesE base (M.drop (i + 1)))) := by
        show RowAt _ _ _ _ _ _
        rw [List.drop_left' (by rw [List.length_append, length_longB, length_longB])] at hrow5
        exact hrow5
      have HALL : Hid (AllB (longB (xo - base) ++ longB xp ++ bytesE base (M.drop (i + 1)))) := by show AllB _; rw [← HDR.out]; exact bytesE_all _ _
      have HUP := Lib.hid hup
      clear hx hxo hxp hway HML hrow5 hup HD
      go_wp2_with fail
      refine (entry_any wo ad' ln cap' base xo xp _ (HROW.out.keep HBW.out) HALL.out (by omega) ⟨H00.out.1, H00.out.2.1⟩ ⟨HXI.out.1, HXI.out.2.1⟩ ⟨HXI.out.2.2.1, by have := HXI.out; omega⟩).mono ?_
      rintro e w2 ⟨rfl, HB2⟩
      have HY2 := Lib.hid (HY.out.on HB2.out)
      have HEL : Hid (∀ g, ve.ownBlock = some g → g < wo.heap.size) := fun g hg => (HY.out.at_.ens.lt g hg).2
      have HBL2 : Hid (∀ g, vb.ownBlock = some g → g < wo.heap.size) := fun g hg => (HY.out.at_.bas.lt g hg).2
      have HKL : Hid (k < wo.heap.size) := HY.out.at_.box.lt
      clear HY HROW HALL
      go_upto_region 7 with fail
      obtain ⟨w3, hw3⟩ : ∃ z, z = w2.alloc (.cells #[.int .i64 xo, .int .i64 xp] 46) := ⟨_, rfl⟩
      obtain ⟨ke, hke⟩ : ∃ z, z = w2.heap.size := ⟨_, rfl⟩
      have hbb : Below w2.heap.size w2 w3 := by rw [hw3]; exact (Below.refl _ w2).alloc (Nat.le_refl _) _
      have HBB := Lib.hid hbb
      have HE3 := Lib.hid (show w3.heap[ke]? = some (.cells #[.int .i64 xo, .int .i64 xp] 46 (0, 0)) by rw [hw3, hke]; exact heap_alloc_new w2 _)
      have HKE : Hid (wo.heap.size ≤ ke) := by show _ ≤ _; rw [hke]; exact HB2.out.size
      have HY3 := Lib.hid (HY2.out.on hbb)
      rw [← hw3, ← hke]
      clear hw3 hke hbb
      have HS3 : Hid (wo.heap.size ≤ w3.heap.size) := Nat.le_trans HB2.out.size HBB.out.size
      clear HBB HY2
      have e0 : w3.cell? ⟨ke, 0, none⟩ = some (.int .i64 xo) := cell_of_row _ _ 0 _ _ _ HE3.out
      have e1 : w3.cell? ⟨ke, 1, none⟩ = some (.int .i64 xp) := cell_of_row _ _ 1 _ _ _ HE3.out
      go_upto_region 10 with fail
      obtain ⟨w4, hw4⟩ : ∃ z, z = w3.alloc (.cells #[.int .i64 xo, .int .i64 xp, .int .i64 1] 56) := ⟨_, rfl⟩
      obtain ⟨kb, hkb⟩ : ∃ z, z = w3.heap.size := ⟨_, rfl⟩
      have hbb : Below w3.heap.size w3 w4 := by rw [hw4]; exact (Below.refl _ w3).alloc (Nat.le_refl _) _
      have HBB := Lib.hid hbb
      have HK4 := Lib.hid (show w4.heap[kb]? = some (.cells #[.int .i64 xo, .int .i64 xp, .int .i64 1] 56 (0, 0)) by rw [hw4, hkb]; exact heap_alloc_new w3 _)
      have HKB : Hid (wo.heap.size ≤ kb) := by show _ ≤ _; rw [hkb]; exact HS3.out
      have HE4 := Lib.hid (show w4.heap[ke]? = some (.cells #[.int .i64 xo, .int .i64 xp] 46 (0, 0)) from (hbb.block ke (lt_of_block HE3.out)).trans HE3.out)
      have HY4 := Lib.hid (HY3.out.on hbb)
      rw [← hw4, ← hkb]
      clear hw4 hkb hbb
      clear HBB HY3 HE3 e0 e1
      have e0 : w4.cell? ⟨ke, 0, none⟩ = some (.int .i64 xo) := cell_of_row _ _ 0 _ _ _ HE4.out
      have e1 : w4.cell? ⟨ke, 1, none⟩ = some (.int .i64 xp) := cell_of_row _ _ 1 _ _ _ HE4.out
      have b0 : w4.cell? ⟨kb, 0, none⟩ = some (.int .i64 xo) := cell_of_row _ _ 0 _ _ _ HK4.out
      have b1 : w4.cell? ⟨kb, 1, none⟩ = some (.int .i64 xp) := cell_of_row _ _ 1 _ _ _ HK4.out
      have b2 : w4.cell? ⟨kb, 2, none⟩ = some (.int .i64 1) := cell_of_row _ _ 2 _ _ _ HK4.out
      go_wp2_with fail
      refine (takes_any w4 k base every (M.take i) (ones (M.take i)) ve vb HY4.out.at_ H00.out.1 HMD.out HSM.out xo xp 1 ⟨by have := HXI.out; omega, by have := HXI.out; omega⟩ ⟨by decide, by decide⟩).mono ?_
      rintro e w5 ⟨rfl, HB5⟩
      rw [HOK.out]
      have HY5 := Lib.hid (HY4.out.on HB5.out)
      have HE5 := Lib.hid (show w5.heap[ke]? = some (.cells #[.int .i64 xo, .int .i64 xp] 46 (0, 0)) from (HB5.out.block ke (lt_of_block HE4.out)).trans HE4.out)
      have HK5 := Lib.hid (show w5.heap[kb]? = some (.cells #[.int .i64 xo, .int .i64 xp, .int .i64 1] 56 (0, 0)) from (HB5.out.block kb (lt_of_block HK4.out)).trans HK4.out)
      clear HE4 HK4 HY4 HB5 e0 e1 b0 b1 b2
      go_upto_region 12 with fail
      have hdr : Below w5.heap.size w5 w5.drew := (Below.refl _ w5).drew
      have KS : Hid (∀ V, Below w5.heap.size w5 V → (fun (V : World) => V.cell? ⟨k, 2, none⟩ = some ve ∧ V.cell? ⟨ke, 0, none⟩ = some (.int .i64 xo) ∧ V.cell? ⟨ke, 1, none⟩ = some (.int .i64 xp)) V) := fun V hV => by
        have hb : V.heap[ke]? = _ := (hV.block ke (lt_of_block HE5.out)).trans HE5.out
        exact ⟨(HY5.out.at_.on hV).box.c2, cell_of_row _ _ 0 _ _ _ hb, cell_of_row _ _ 1 _ _ _ hb⟩
      refine wp_region_noPanic ?_
      refine wp_region_z [10] (fun (V : World) => V.cell? ⟨k, 2, none⟩ = some ve ∧ V.cell? ⟨ke, 0, none⟩ = some (.int .i64 xo) ∧ V.cell? ⟨ke, 1, none⟩ = some (.int .i64 xp)) (by kernel_rfl) ?_
      have hHeld : (fun (V : World) => V.cell? ⟨k, 2, none⟩ = some ve ∧ V.cell? ⟨ke, 0, none⟩ = some (.int .i64 xo) ∧ V.cell? ⟨ke, 1, none⟩ = some (.int .i64 xp)) _ := KS.out _ hdr
      obtain ⟨u0, hu0⟩ : ∃ u, u = w5.drew := ⟨_, rfl⟩
      rw [← hu0] at hHeld hdr
      rw [← hu0]
      clear hu0
      have HQ0 := Lib.hid hdr
      clear hdr
      refine wpAnyZ_take (i := 0) (oi := ⟨_, _, _, _, _, _⟩) (v := ?_) rfl (by kernel_rfl) (by kernel_rfl) (by kernel_rfl) (by kernel_rfl) (by kernel_rfl) (fun _ _ _ h => h) (Or.inl ⟨by rfl, ?_⟩) (by assumption) ?_
      rotate_left
      · intro W hSw
        (try dsimp only at hSw)
        go_simp
        (try with_reducible rfl)
      (try simp only [Act.put, List.setIfInBounds_toArray, List.set_cons_zero, List.set_cons_succ])
      refine wpAnyZ_take (i := 1) (oi := ⟨_, _, _, _, _, _⟩) (v := ?_) rfl (by kernel_rfl) (by kernel_rfl) (by kernel_rfl) (by kernel_rfl) (by kernel_rfl) (fun _ _ _ h => h) (Or.inl ⟨by rfl, ?_⟩) (by assumption) ?_
      rotate_left
      · intro W hSw
        (try dsimp only at hSw)
        go_simp
        (try with_reducible rfl)
      (try simp only [Act.put, List.setIfInBounds_toArray, List.set_cons_zero, List.set_cons_succ])
      refine wpAnyZ_take (i := 2) (oi := ⟨_, _, _, _, _, _⟩) (v := ?_) rfl (by kernel_rfl) (by kernel_rfl) (by kernel_rfl) (by kernel_rfl) (by kernel_rfl) (fun _ _ _ h => h) (Or.inl ⟨by rfl, ?_⟩) (by assumption) ?_
      rotate_left
      · intro W hSw
        (try dsimp only at hSw)
        go_simp
        (try with_reducible rfl)
      (try simp only [Act.put, List.setIfInBounds_toArray, List.set_cons_zero, List.set_cons_succ])
      refine wpAnyZ_take (i := 3) (oi := ⟨_, _, _, _, _, _⟩) (v := ?_) rfl (by kernel_rfl) (by kernel_rfl) (by kernel_rfl) (by kernel_rfl) (by kernel_rfl) (fun _ _ _ h => h) (Or.inl ⟨by rfl, ?_⟩) (by assumption) ?_
      rotate_left
      · intro W hSw
        (try dsimp only at hSw)
        go_simp
        (try with_reducible rfl)
      (try simp only [Act.put, List.setIfInBounds_toArray, List.set_cons_zero, List.set_cons_succ])
      refine wpAnyZ_take (i := 4) (oi := ⟨_, _, _, _, _, _⟩) (v := ?_) rfl (by kernel_rfl) (by kernel_rfl) (by kernel_rfl) (by kernel_rfl) (by kernel_rfl) (fun _ _ _ h => h) (Or.inl ⟨by rfl, ?_⟩) (by assumption) ?_
      rotate_left
      · intro W hSw
        (try dsimp only at hSw)
        go_simp
        (try with_reducible rfl)
      (try simp only [Act.put, List.setIfInBounds_toArray, List.set_cons_zero, List.set_cons_succ])
      refine wpAnyZ_take (i := 5) (oi := ⟨_, _, _, _, _, _⟩) (v := ?_) rfl (by kernel_rfl) (by kernel_rfl) (by kernel_rfl) (by kernel_rfl) (by kernel_rfl) (fun _ _ _ h => h) (Or.inl ⟨by rfl, ?_⟩) (by assumption) ?_
      rotate_left
      · intro W hSw
        (try dsimp only at hSw)
        go_simp
        (try with_reducible rfl)
      (try simp only [Act.put, List.setIfInBounds_toArray, List.set_cons_zero, List.set_cons_succ])
      refine wpAnyZ_ready (rs := [6]) (by kernel_rfl) (by simp) ?_
      refine AllReadyZ.cons (o := ⟨_, _, _, _, _, _⟩) rfl (fun C hC => ?_) AllReadyZ.nil
      go_simp
      obtain ⟨u1, hu1⟩ : ∃ u, u = u0.alloc (.cells #[.int .i64 xo, .int .i64 xp] 46) := ⟨_, rfl⟩
      obtain ⟨g1, hg1⟩ : ∃ G, G = u0.heap.size := ⟨_, rfl⟩
      have hbb : Below u0.heap.size u0 u1 := by rw [hu1]; exact (Below.refl _ _).alloc (Nat.le_refl _) _
      have HQ1 : Hid (Below w5.heap.size w5 u1) := HQ0.out.trans (hbb.mono HQ0.out.size)
      have HLX : Hid (RowAt enK u1 (some ⟨g1, 0, none⟩) 1 1 [⟨xo, xp⟩]) := by show RowAt _ _ _ _ _ _; rw [hu1, hg1]; exact rowAt_lit enK_ok u0 [⟨xo, xp⟩] (by simp) _ rfl 1 rfl
      rw [← hu1, ← hg1]
      clear hu1 hg1 hbb
      have hHeld : (fun (V : World) => V.cell? ⟨k, 2, none⟩ = some ve ∧ V.cell? ⟨ke, 0, none⟩ = some (.int .i64 xo) ∧ V.cell? ⟨ke, 1, none⟩ = some (.int .i64 xp)) u1 := KS.out _ HQ1.out
      refine hC.out _ _ (fun _ => hHeld) (fun _ => ?_)
      clear hC C
      (try simp only [Act.put, List.setIfInBounds_toArray, List.set_cons_zero, List.set_cons_succ])
      have HYU := Lib.hid (HY5.out.on HQ1.out)
      refine wpAnyZ_ready (rs := [7]) (by kernel_rfl) (by simp) ?_
      refine AllReadyZ.cons (o := ⟨_, _, _, _, _, _⟩) rfl (fun C hC => ?_) AllReadyZ.nil
      refine held_row (by rfl) enK_ok (.tmp 49) (.tmp 51) rfl 0 (M.take i) [⟨xo, xp⟩] ve rfl HYU.out.at_.ens (Nat.zero_le _) (some ⟨g1, 0, none⟩) 1 1 rfl HLX.out (by rw [List.length_take]; omega) ?_
      rintro v6 u2 hap
      obtain ⟨ad6, cap6, hv6, _, _⟩ := OwnRow.row enK_ok hap.1 (n := i + 1) (by rw [List.length_append]; rw [List.length_take, Nat.min_eq_left (by omega)]; simp)
      subst hv6
      have HY6 := Lib.hid (HYU.out.put_e hap.1 hap.2.1 hap.2.2.2)
      have HKX : Hid (IxBox u2 k base every ve vb) := HYU.out.at_.box.same (hap.2.1.block k HYU.out.at_.box.lt fun e => HYU.out.at_.ve_k e.symm)
      have hbk : u2.heap[ke]? = some (.cells #[.int .i64 xo, .int .i64 xp] 46 (0, 0)) := (hap.2.1.block ke (Nat.lt_of_lt_of_le (lt_of_block HE5.out) HQ1.out.size) fun e => by have := HEL.out ke e.symm; have := HKE.out; omega).trans ((HQ1.out.block ke (lt_of_block HE5.out)).trans HE5.out)
      have hkk : u2.heap[kb]? = some (.cells #[.int .i64 xo, .int .i64 xp, .int .i64 1] 56 (0, 0)) := (hap.2.1.block kb (Nat.lt_of_lt_of_le (lt_of_block HK5.out) HQ1.out.size) fun e => by have := HEL.out kb e.symm; have := HKB.out; omega).trans ((HQ1.out.block kb (lt_of_block HK5.out)).trans HK5.out)
      have HKK := Lib.hid (show (u2.setCell ⟨k, 2, none⟩ (.slice ad6 (i + 1) cap6)).heap[kb]? = some (.cells #[.int .i64 xo, .int .i64 xp, .int .i64 1] 56 (0, 0)) from box_off hkk (by have := HKL.out; have := HKB.out; omega) _)
      have hs2 : (fun (V : World) => V.cell? ⟨k, 2, none⟩ = some ve ∧ V.cell? ⟨ke, 0, none⟩ = some (.int .i64 xo) ∧ V.cell? ⟨ke, 1, none⟩ = some (.int .i64 xp)) u2 := ⟨HKX.out.c2, cell_of_row _ _ 0 _ _ _ hbk, cell_of_row _ _ 1 _ _ _ hbk⟩
      clear hap
      have hHeld : (fun (V : World) => V.cell? ⟨k, 2, none⟩ = some ve ∧ V.cell? ⟨ke, 0, none⟩ = some (.int .i64 xo) ∧ V.cell? ⟨ke, 1, none⟩ = some (.int .i64 xp)) u2 := hs2
      refine hC.out _ _ (fun _ => hHeld) (fun _ => ?_)
      clear hC C
      (try simp only [Act.put, List.setIfInBounds_toArray, List.set_cons_zero, List.set_cons_succ])
      refine wpAnyZ_take (i := 8) (oi := ⟨_, _, _, _, _, _⟩) (v := ?_) rfl (by kernel_rfl) (by kernel_rfl) (by kernel_rfl) (by kernel_rfl) (by kernel_rfl) (fun _ _ _ h => h) (Or.inl ⟨by rfl, ?_⟩) (by assumption) ?_
      rotate_left
      · intro W hSw
        (try dsimp only at hSw)
        go_simp
        (try with_reducible rfl)
      (try simp only [Act.put, List.setIfInBounds_toArray, List.set_cons_zero, List.set_cons_succ])
      refine wpAnyZ_take (i := 9) (oi := ⟨_, _, _, _, _, _⟩) (v := ?_) rfl (by kernel_rfl) (by kernel_rfl) (by kernel_rfl) (by kernel_rfl) (by kernel_rfl) (fun _ _ _ h => h) (Or.inl ⟨by rfl, ?_⟩) (by assumption) ?_
      rotate_left
      · intro W hSw
        (try dsimp only at hSw)
        go_simp
        (try with_reducible rfl)
      (try simp only [Act.put, List.setIfInBounds_toArray, List.set_cons_zero, List.set_cons_succ])
      have p3 := HKX.out.c2
      have f3 := HKX.out.free 2
      refine wpAnyZ_ready (rs := [10]) (by kernel_rfl) (by simp) ?_
      refine AllReadyZ.cons (o := ⟨_, _, _, _, _, _⟩) rfl (fun C hC => ?_) AllReadyZ.nil
      go_simp
      refine hC.out _ _ (zfree_no (by kernel_rfl)) (fun _ => ?_)
      clear hC C
      (try simp only [Act.put, List.setIfInBounds_toArray, List.set_cons_zero, List.set_cons_succ])
      refine wpAnyZ_done (by kernel_rfl) ?_ _
      refine NoPanic.normal ?_
      obtain ⟨w6, hw6⟩ : ∃ z, z = u2.setCell ⟨k, 2, none⟩ (.slice ad6 (i + 1) cap6) := ⟨_, rfl⟩
      obtain ⟨ve6, hve6⟩ : ∃ v, v = Value.slice ad6 (i + 1) cap6 := ⟨_, rfl⟩
      rw [← hw6] at HY6 HKK
      rw [← hw6]
      rw [← HTE.out, ← hve6] at HY6
      clear hw6 hve6 p3 f3 hHeld KS hs2 hbk hkk HKX HYU HLX HQ1 HQ0
      go_upto_region 13 with fail
      have hdr : Below w6.heap.size w6 w6.drew := (Below.refl _ w6).drew
      have KS : Hid (∀ V, Below w6.heap.size w6 V → (fun (V : World) => V.cell? ⟨k, 3, none⟩ = some vb ∧ V.cell? ⟨kb, 0, none⟩ = some (.int .i64 xo) ∧ V.cell? ⟨kb, 1, none⟩ = some (.int .i64 xp) ∧ V.cell? ⟨kb, 2, none⟩ = some (.int .i64 1)) V) := fun V hV => by
        have hb : V.heap[kb]? = _ := (hV.block kb (lt_of_block HKK.out)).trans HKK.out
        exact ⟨(HY6.out.at_.on hV).box.c3, cell_of_row _ _ 0 _ _ _ hb, cell_of_row _ _ 1 _ _ _ hb, cell_of_row _ _ 2 _ _ _ hb⟩
      refine wp_region_noPanic ?_
      refine wp_region_z [10] (fun (V : World) => V.cell? ⟨k, 3, none⟩ = some vb ∧ V.cell? ⟨kb, 0, none⟩ = some (.int .i64 xo) ∧ V.cell? ⟨kb, 1, none⟩ = some (.int .i64 xp) ∧ V.cell? ⟨kb, 2, none⟩ = some (.int .i64 1)) (by kernel_rfl) ?_
      have hHeld : (fun (V : World) => V.cell? ⟨k, 3, none⟩ = some vb ∧ V.cell? ⟨kb, 0, none⟩ = some (.int .i64 xo) ∧ V.cell? ⟨kb, 1, none⟩ = some (.int .i64 xp) ∧ V.cell? ⟨kb, 2, none⟩ = some (.int .i64 1)) _ := KS.out _ hdr
      obtain ⟨u0, hu0⟩ : ∃ u, u = w6.drew := ⟨_, rfl⟩
      rw [← hu0] at hHeld hdr
      rw [← hu0]
      clear hu0
      have HQ0 := Lib.hid hdr
      clear hdr
      refine wpAnyZ_take (i := 0) (oi := ⟨_, _, _, _, _, _⟩) (v := ?_) rfl (by kernel_rfl) (by kernel_rfl) (by kernel_rfl) (by kernel_rfl) (by kernel_rfl) (fun _ _ _ h => h) (Or.inl ⟨by rfl, ?_⟩) (by assumption) ?_
      rotate_left
      · intro W hSw
        (try dsimp only at hSw)
        go_simp
        (try with_reducible rfl)
      (try simp only [Act.put, List.setIfInBounds_toArray, List.set_cons_zero, List.set_cons_succ])
      refine wpAnyZ_take (i := 1) (oi := ⟨_, _, _, _, _, _⟩) (v := ?_) rfl (by kernel_rfl) (by kernel_rfl) (by kernel_rfl) (by kernel_rfl) (by kernel_rfl) (fun _ _ _ h => h) (Or.inl ⟨by rfl, ?_⟩) (by assumption) ?_
      rotate_left
      · intro W hSw
        (try dsimp only at hSw)
        go_simp
        (try with_reducible rfl)
      (try simp only [Act.put, List.setIfInBounds_toArray, List.set_cons_zero, List.set_cons_succ])
      refine wpAnyZ_take (i := 2) (oi := ⟨_, _, _, _, _, _⟩) (v := ?_) rfl (by kernel_rfl) (by kernel_rfl) (by kernel_rfl) (by kernel_rfl) (by kernel_rfl) (fun _ _ _ h => h) (Or.inl ⟨by rfl, ?_⟩) (by assumption) ?_
      rotate_left
      · intro W hSw
        (try dsimp only at hSw)
        go_simp
        (try with_reducible rfl)
      (try simp only [Act.put, List.setIfInBounds_toArray, List.set_cons_zero, List.set_cons_succ])
      refine wpAnyZ_take (i := 3) (oi := ⟨_, _, _, _, _, _⟩) (v := ?_) rfl (by kernel_rfl) (by kernel_rfl) (by kernel_rfl) (by kernel_rfl) (by kernel_rfl) (fun _ _ _ h => h) (Or.inl ⟨by rfl, ?_⟩) (by assumption) ?_
      rotate_left
      · intro W hSw
        (try dsimp only at hSw)
        go_simp
        (try with_reducible rfl)
      (try simp only [Act.put, List.setIfInBounds_toArray, List.set_cons_zero, List.set_cons_succ])
      refine wpAnyZ_take (i := 4) (oi := ⟨_, _, _, _, _, _⟩) (v := ?_) rfl (by kernel_rfl) (by kernel_rfl) (by kernel_rfl) (by kernel_rfl) (by kernel_rfl) (fun _ _ _ h => h) (Or.inl ⟨by rfl, ?_⟩) (by assumption) ?_
      rotate_left
      · intro W hSw
        (try dsimp only at hSw)
        go_simp
        (try with_reducible rfl)
      (try simp only [Act.put, List.setIfInBounds_toArray, List.set_cons_zero, List.set_cons_succ])
      refine wpAnyZ_take (i := 5) (oi := ⟨_, _, _, _, _, _⟩) (v := ?_) rfl (by kernel_rfl) (by kernel_rfl) (by kernel_rfl) (by kernel_rfl) (by kernel_rfl) (fun _ _ _ h => h) (Or.inl ⟨by rfl, ?_⟩) (by assumption) ?_
      rotate_left
      · intro W hSw
        (try dsimp only at hSw)
        go_simp
        (try with_reducible rfl)
      (try simp only [Act.put, List.setIfInBounds_toArray, List.set_cons_zero, List.set_cons_succ])
      refine wpAnyZ_ready (rs := [6]) (by kernel_rfl) (by simp) ?_
      refine AllReadyZ.cons (o := ⟨_, _, _, _, _, _⟩) rfl (fun C hC => ?_) AllReadyZ.nil
      go_simp
      obtain ⟨u1, hu1⟩ : ∃ u, u = u0.alloc (.cells #[.int .i64 xo, .int .i64 xp, .int .i64 1] 56) := ⟨_, rfl⟩
      obtain ⟨g1, hg1⟩ : ∃ G, G = u0.heap.size := ⟨_, rfl⟩
      have hbb : Below u0.heap.size u0 u1 := by rw [hu1]; exact (Below.refl _ _).alloc (Nat.le_refl _) _
      have HQ1 : Hid (Below w6.heap.size w6 u1) := HQ0.out.trans (hbb.mono HQ0.out.size)
      have HLX : Hid (RowAt baK u1 (some ⟨g1, 0, none⟩) 1 1 [⟨xo, xp, xp + 1⟩]) := by show RowAt _ _ _ _ _ _; rw [hu1, hg1]; exact rowAt_lit baK_ok u0 [⟨xo, xp, xp + 1⟩] (by simp) _ (ba_enc xo xp 1) 1 rfl
      rw [← hu1, ← hg1]
      clear hu1 hg1 hbb
      have hHeld : (fun (V : World) => V.cell? ⟨k, 3, none⟩ = some vb ∧ V.cell? ⟨kb, 0, none⟩ = some (.int .i64 xo) ∧ V.cell? ⟨kb, 1, none⟩ = some (.int .i64 xp) ∧ V.cell? ⟨kb, 2, none⟩ = some (.int .i64 1)) u1 := KS.out _ HQ1.out
      refine hC.out _ _ (fun _ => hHeld) (fun _ => ?_)
      clear hC C
      (try simp only [Act.put, List.setIfInBounds_toArray, List.set_cons_zero, List.set_cons_succ])
      have HYU := Lib.hid (HY6.out.on HQ1.out)
      refine wpAnyZ_ready (rs := [7]) (by kernel_rfl) (by simp) ?_
      refine AllReadyZ.cons (o := ⟨_, _, _, _, _, _⟩) rfl (fun C hC => ?_) AllReadyZ.nil
      refine held_row (by rfl) baK_ok (.tmp 59) (.tmp 61) rfl 0 (ones (M.take i)) [⟨xo, xp, xp + 1⟩] vb rfl HYU.out.at_.bas (Nat.zero_le _) (some ⟨g1, 0, none⟩) 1 1 rfl HLX.out (by rw [ones_len, List.length_take]; omega) ?_
      rintro v7 u2 hap
      obtain ⟨ad6, cap6, hv7, _, _⟩ := OwnRow.row baK_ok hap.1 (n := i + 1) (by rw [List.length_append]; rw [ones_len, List.length_take, Nat.min_eq_left (by omega)]; simp)
      subst hv7
      have HY8 := Lib.hid (HYU.out.put_b hap.1 hap.2.1 hap.2.2.2)
      have HKX : Hid (IxBox u2 k base every ve6 vb) := HYU.out.at_.box.same (hap.2.1.block k HYU.out.at_.box.lt fun e => HYU.out.at_.vb_k e.symm)
      have hbk : u2.heap[kb]? = some (.cells #[.int .i64 xo, .int .i64 xp, .int .i64 1] 56 (0, 0)) := (hap.2.1.block kb (Nat.lt_of_lt_of_le (lt_of_block HKK.out) HQ1.out.size) fun e => by have := HBL2.out kb e.symm; have := HKB.out; omega).trans ((HQ1.out.block kb (lt_of_block HKK.out)).trans HKK.out)
      have hs2 : (fun (V : World) => V.cell? ⟨k, 3, none⟩ = some vb ∧ V.cell? ⟨kb, 0, none⟩ = some (.int .i64 xo) ∧ V.cell? ⟨kb, 1, none⟩ = some (.int .i64 xp) ∧ V.cell? ⟨kb, 2, none⟩ = some (.int .i64 1)) u2 := ⟨HKX.out.c3, cell_of_row _ _ 0 _ _ _ hbk, cell_of_row _ _ 1 _ _ _ hbk, cell_of_row _ _ 2 _ _ _ hbk⟩
      clear hap
      have hHeld : (fun (V : World) => V.cell? ⟨k, 3, none⟩ = some vb ∧ V.cell? ⟨kb, 0, none⟩ = some (.int .i64 xo) ∧ V.cell? ⟨kb, 1, none⟩ = some (.int .i64 xp) ∧ V.cell? ⟨kb, 2, none⟩ = some (.int .i64 1)) u2 := hs2
      refine hC.out _ _ (fun _ => hHeld) (fun _ => ?_)
      clear hC C
      (try simp only [Act.put, List.setIfInBounds_toArray, List.set_cons_zero, List.set_cons_succ])
      refine wpAnyZ_take (i := 8) (oi := ⟨_, _, _, _, _, _⟩) (v := ?_) rfl (by kernel_rfl) (by kernel_rfl) (by kernel_rfl) (by kernel_rfl) (by kernel_rfl) (fun _ _ _ h => h) (Or.inl ⟨by rfl, ?_⟩) (by assumption) ?_
      rotate_left
      · intro W hSw
        (try dsimp only at hSw)
        go_simp
        (try with_reducible rfl)
      (try simp only [Act.put, List.setIfInBounds_toArray, List.set_cons_zero, List.set_cons_succ])
      refine wpAnyZ_take (i := 9) (oi := ⟨_, _, _, _, _, _⟩) (v := ?_) rfl (by kernel_rfl) (by kernel_rfl) (by kernel_rfl) (by kernel_rfl) (by kernel_rfl) (fun _ _ _ h => h) (Or.inl ⟨by rfl, ?_⟩) (by assumption) ?_
      rotate_left
      · intro W hSw
        (try dsimp only at hSw)
        go_simp
        (try with_reducible rfl)
      (try simp only [Act.put, List.setIfInBounds_toArray, List.set_cons_zero, List.set_cons_succ])
      have p3 := HKX.out.c3
      have f3 := HKX.out.free 3
      refine wpAnyZ_ready (rs := [10]) (by kernel_rfl) (by simp) ?_
      refine AllReadyZ.cons (o := ⟨_, _, _, _, _, _⟩) rfl (fun C hC => ?_) AllReadyZ.nil
      go_simp
      refine hC.out _ _ (zfree_no (by kernel_rfl)) (fun _ => ?_)
      clear hC C
      (try simp only [Act.put, List.setIfInBounds_toArray, List.set_cons_zero, List.set_cons_succ])
      refine wpAnyZ_done (by kernel_rfl) ?_ _
      refine NoPanic.normal ?_
      obtain ⟨w8, hw8⟩ : ∃ z, z = u2.setCell ⟨k, 3, none⟩ (.slice ad6 (i + 1) cap6) := ⟨_, rfl⟩
      obtain ⟨vb8, hvb8⟩ : ∃ v, v = Value.slice ad6 (i + 1) cap6 := ⟨_, rfl⟩
      rw [← hw8] at HY8
      rw [← hw8]
      rw [← HTO.out, ← hvb8] at HY8
      clear hw8 hvb8 p3 f3 hHeld KS hs2 hbk HKX HYU HLX HQ1 HQ0
      have hup := HUP.out
      go_wp2_with fail
      go_roundw
      case rel => exact ⟨i + 1, ad5, ln - 16, cap5, rfl, by omega, by omega, HROW5.out, _, _, HY8.out⟩
      case measure => simp [lenV]; omega
    · have hd : decide ((0 : Int) < (ln : Int)) = false := decide_eq_false (by omega)
      have hiq2 : i = q := by omega
      obtain ⟨ve, vb, hway⟩ := HD.out.way
      rw [List.take_of_length_le (by rw [← HQ.out]; omega)] at hway
      have HY := Lib.hid hway
      clear hway
      go_wp2_with fail
      go_ret2
      exact gives_read HY.out HRT.out H00.out (by rw [← HQ.out]; exact hq1) HBL.out
end Go.Proofs.Ytelbignfecjjhaa
