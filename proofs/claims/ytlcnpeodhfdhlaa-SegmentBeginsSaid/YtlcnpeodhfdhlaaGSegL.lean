/- Chapter 9's runs. Chapter 9's laws SegmentBegins, SegmentCuts. -/
import Derived.Test.YtlcnpeodhfdhlaaSegSame
import Derived.Test.YtlcnpeodhfdhlaaGTape
import Derived.Test.YtlcnpeodhfdhlaaGModB
/-! Chapter 9's runs. -/
namespace Go.Proofs.Ytlcnpeodhfdhlaa
open Go.RowKit
open Go.ProdMath
open Go.SegMath
open Go.IxMath
open Go.BatMath hiding AllB getD_lt take_all
set_option linter.unusedVariables false

theorem places_small {l : List Bat} (h : RowOk l) (hn : l.length ≤ 10000) : Small (places 0 l) := by
  refine ⟨by rw [places_len]; exact hn, fun b hb => ?_⟩
  have h1 := places_in l 0 h b hb
  have h2 := (flat_big h).2
  exact ⟨by omega, by omega⟩
theorem ends_le (l : List Bat) : ∀ base : Int, SeqF base l → RowOk l → ∀ b ∈ l, endB b ≤ endD base l := by
  refine rev_ind (P := fun l => ∀ base : Int, SeqF base l → RowOk l → ∀ b ∈ l, endB b ≤ endD base l) ?_ ?_ l
  · intro base _ _ b hb
    cases hb
  · intro l c ih base hs ho b hb
    obtain ⟨h1, h2⟩ := (seqF_snoc _ _ _).1 hs
    have hc := ho c (by simp)
    have hp := (count_pos hc.1).1
    rw [end_last (b := c) (by simp)]
    rcases List.mem_append.1 hb with h3 | h3
    · have := ih base h1 (fun x hx => ho x (List.mem_append_left _ hx)) b h3
      omega
    · rw [List.mem_singleton.1 h3]
      exact Int.le_refl _
theorem none_behind {base : Int} {l : List Bat} (hs : SeqF base l) (ho : RowOk l) : l.filter (fun b => decide (endD base l < endB b)) = [] := by
  rw [List.filter_eq_nil_iff]
  intro b hb
  have := ends_le l base hs ho b hb
  simp only [decide_eq_true_eq]
  omega
theorem none_ahead {base : Int} {l : List Bat} (hs : SeqF base l) (ho : RowOk l) : l.filter (fun b => decide (endB b ≤ base)) = [] := by
  rw [List.filter_eq_nil_iff]
  intro b hb
  have := ends_up l base hs ho b hb
  simp only [decide_eq_true_eq]
  omega
/-- A book's row, and its bytes, in the call's own worlds. -/
structure Book (W w : World) (start : Int) (ad : Option Addr) (n cap : Nat) (ms : List BM) (pad : Option Addr) (N pcap : Nat) : Prop where
  below : Below W.heap.size W w
  bats_ : BatsAt w ad n cap ms
  row : Row w pad N pcap (flat (bats ms))
  rowd : RowD start (bats ms)
  few : n ≤ 40
  len : N = (flat (bats ms)).length
section
variable {W w w' : World} {start : Int} {ad pad : Option Addr} {n cap N pcap : Nat} {ms : List BM}
theorem Book.on (h : Book W w start ad n cap ms pad N pcap) (hb : Below w.heap.size w w') : Book W w' start ad n cap ms pad N pcap :=
  ⟨h.below.trans (hb.mono h.below.size), h.bats_.keep hb, h.row.keep hb (Nat.le_refl _), h.rowd, h.few, h.len⟩
theorem Book.seq (h : Book W w start ad n cap ms pad N pcap) : SeqF start (bats ms) := rowD_seq h.rowd
theorem Book.ok (h : Book W w start ad n cap ms pad N pcap) : RowOk (bats ms) := rowD_ok h.rowd
theorem Book.scans (h : Book W w start ad n cap ms pad N pcap) : Scans start (flat (bats ms)) (bats ms) := scans_all h.seq h.ok
theorem Book.num (h : Book W w start ad n cap ms pad N pcap) : (bats ms).length = n := by rw [bats_len]; exact h.bats_.row.length
theorem Book.size (h : Book W w start ad n cap ms pad N pcap) : N ≤ 100000 ∧ N ≤ 2404 * n ∧ 36 * n ≤ N := by
  have h1 := flat_big h.ok
  rw [h.num] at h1
  have := h.few
  rw [h.len]
  omega
end
set_option maxRecDepth 100000 in
set_option maxHeartbeats 16000000 in
theorem segKnown_any (W : World) : Calls Try.prog 12 #[] W fun e w' => e = .returned (.bool true) ∧ Below W.heap.size W w' := by
  go_enter Try.func12, Try.ntmps12
  go_wp2_with fail
  refine (segTape_any W 3 (by decide)).mono ?_
  rintro e w1 ⟨tad, tcap, zs, rfl, HNU, HZS, HB1⟩
  go_wp2_with fail
  refine (row_some w1 tad 400 tcap zs HNU.out (by decide) 5 (by decide) (by decide) 6 (by decide) (by decide) (by decide) (by rw [HZS.out 0 (by decide)]; decide) (by rw [HZS.out 2 (by decide)]; decide)).mono ?_
  rintro e w2 ⟨ad, n, cap, ms, rfl, HM, HRD, hn6, HB2, hn1⟩
  obtain ⟨N, hN⟩ : ∃ N, N = (flat (bats ms)).length := ⟨_, rfl⟩
  go_wp2_with fail
  refine (keepBytes_any w2 ad n cap ms HM.out (by omega) (rowD_ok HRD.out) N hN.symm).mono ?_
  rintro e w3 ⟨pad, pcap, rfl, HROW, _, HB3⟩
  have H3 : Hid (Book W w3 5 ad n cap ms pad N pcap) := ⟨HB1.out.trans ((HB2.out.trans (HB3.out.mono HB2.out.size)).mono HB1.out.size), HM.out.keep HB3.out, HROW.out, HRD.out, by omega, hN⟩
  clear HNU HZS HB1 HM HRD HB2 hN HROW HB3
  have hsz : N ≤ 100000 := H3.out.size.1
  go_wp2_with fail
  refine (segScan_any w3 pad N pcap _ H3.out.row hsz 5 ⟨by decide, by decide⟩).mono ?_
  rintro e w4 ⟨ad4, n4, cap4, ms4, rfl, HM4, HS4, _, HB4⟩
  have HE4 : Hid (bats ms4 = bats ms) := scans_one _ _ _ _ HS4.out H3.out.scans
  have H4 := Lib.hid (H3.out.on HB4.out)
  rw [HE4.out, ← H4.out.len]
  clear H3 HS4 HB4
  go_wp2_with fail
  refine (segScan_any w4 pad N pcap _ H4.out.row hsz 6 ⟨by decide, by decide⟩).mono ?_
  rintro e w5 ⟨ad5, n5, cap5, ms5, rfl, HM5, HS5, _, HB5⟩
  have he5 : bats ms5 = [] := scans_one _ _ _ _ HS5.out (scans_off H4.out.seq H4.out.ok (.inr (by decide)))
  have hn5 : n5 = 0 := by rw [← HM5.out.row.length, ← bats_len, he5]; rfl
  rw [he5]
  subst hn5
  have H5 := Lib.hid (H4.out.on HB5.out)
  have HM4 := Lib.hid (HM4.out.keep HB5.out)
  clear H4 HS5 HB5 HM5 he5
  simp only [flat_nil, List.length_nil]
  go_wp2_with fail
  refine (segScan_any w5 none 0 0 [] ⟨Byt.nil w5, fun _ => rfl⟩ (by decide) 5 ⟨by decide, by decide⟩).mono ?_
  rintro e w6 ⟨ad6, n6, cap6, ms6, rfl, HM6, HS6, _, HB6⟩
  have he6 : bats ms6 = [] := scans_one _ _ _ _ HS6.out (scans_all (l := []) trivial (fun b hb => by cases hb))
  have hn6' : n6 = 0 := by rw [← HM6.out.row.length, ← bats_len, he6]; rfl
  rw [he6]
  subst hn6'
  have H6 := Lib.hid (H5.out.on HB6.out)
  have HM4 := Lib.hid (HM4.out.keep HB6.out)
  clear H5 HS6 HB6 HM6 he6
  simp only [flat_nil, List.length_nil]
  go_wp2_with fail
  refine (segBuild_any w6 pad N pcap _ H6.out.row hsz 5 1 ⟨by decide, by decide⟩ ⟨by decide, by decide⟩ _ H6.out.scans).mono ?_
  rintro e w7 ⟨HB7, hc⟩
  have H7 := Lib.hid (H6.out.on HB7.out)
  have HM4 := Lib.hid (HM4.out.keep HB7.out)
  clear H6 HB7
  rcases hc with ⟨hbad, _⟩ | ⟨_, kx, FX, rfl, HIX, _⟩
  · exact absurd hbad (by decide)
  go_wp2_with fail
  refine (segBuild_any w7 pad N pcap _ H7.out.row hsz 5 0 ⟨by decide, by decide⟩ ⟨by decide, by decide⟩ _ H7.out.scans).mono ?_
  rintro e w8 ⟨HB8, hc⟩
  have H8 := Lib.hid (H7.out.on HB8.out)
  have HM4 := Lib.hid (HM4.out.keep HB8.out)
  have HIX := Lib.hid (HIX.out.on HB8.out)
  clear H7 HB8
  rcases hc with ⟨_, rfl⟩ | ⟨hgood, _⟩
  rotate_left
  · exact absurd hgood (by decide)
  have hd1 : decide ((0 : Int) < (n : Int)) = true := decide_eq_true (by omega)
  have HN4 : Hid (n4 = n) := by show _ = _; rw [← HM4.out.row.length, ← bats_len, HE4.out]; exact H8.out.num
  go_wp2_with fail
  refine (refRows_any w8 ad4 ad n4 n cap4 cap ms4 ms HM4.out H8.out.bats_ (by rw [HN4.out]; omega) (bats_few (by rw [HE4.out]; exact H8.out.ok)) true (by rw [HE4.out]; simp)).mono ?_
  rintro e w9 ⟨rfl, hb9⟩
  have H9 := Lib.hid (H8.out.on hb9)
  have HIX := Lib.hid (HIX.out.on hb9)
  have HLX : Hid ((ents 1 (places 0 (bats ms))).length = n) := by show _ = _; rw [ents_each HIX.out.made, List.length_map, places_len]; exact H9.out.num
  clear H8 HM4 hb9 HN4 HE4
  go_wp2_with fail
  refine (ixEntries_any HIX.out (places_small H9.out.ok (by rw [H9.out.num]; omega)) n HLX.out).mono ?_
  rintro e w10 ⟨ad10, cap10, rfl, _, HB10⟩
  have H10 := Lib.hid (H9.out.on HB10.out)
  clear H9 HB10 HIX HLX
  go_wp2_with fail
  refine (segNext_any w10 none 0 0 [] ⟨rowAt_nil _, fun m hm => by cases hm⟩ (by decide) (fun b hb => by cases hb) 7 ⟨by decide, by decide⟩ 7 rfl).mono ?_
  rintro e w11 ⟨rfl, hb11⟩
  have H11 := Lib.hid (H10.out.on hb11)
  clear H10 hb11
  obtain ⟨E, hE⟩ : ∃ E, E = endD 5 (bats ms) := ⟨_, rfl⟩
  have HE := Lib.hid hE
  have HEI : Hid (I64 E) := by
    have h1 := rowD_end H11.out.rowd (by decide) (by decide)
    rw [← hE] at h1
    exact ⟨by omega, by omega⟩
  clear hE
  go_wp2_with fail
  refine (segNext_any w11 ad n cap ms H11.out.bats_ (by omega) H11.out.ok 5 ⟨by decide, by decide⟩ E HE.out.symm).mono ?_
  rintro e w12 ⟨rfl, hb12⟩
  have H12 := Lib.hid (H11.out.on hb12)
  clear H11 hb12
  go_wp2_with fail
  refine (refEnd_any w12 5 ad n cap ms H12.out.bats_ (by omega) H12.out.ok E HE.out.symm).mono ?_
  rintro e w13 ⟨rfl, hb13⟩
  have H13 := Lib.hid (H12.out.on hb13)
  clear H12 hb13
  go_wp2_with fail
  refine (segNext_any w13 ad n cap ms H13.out.bats_ (by omega) H13.out.ok 5 ⟨by decide, by decide⟩ E HE.out.symm).mono ?_
  rintro e w14 ⟨rfl, hb14⟩
  have H14 := Lib.hid (H13.out.on hb14)
  clear H13 hb14
  go_wp2_with fail
  refine (segFrom_any w14 pad N pcap _ H14.out.row hsz 5 E ⟨by decide, by decide⟩ HEI.out _ H14.out.scans (.pointer none) (.inl rfl)).mono ?_
  rintro e w15 ⟨ad15, n15, cap15, ms15, rfl, HM15, HF15, HB15⟩
  have hn15 : n15 = 0 := by
    rw [← HM15.out.row.length, ← bats_len, HF15.out, HE.out, none_behind H14.out.seq H14.out.ok]
    rfl
  subst hn15
  have H15 := Lib.hid (H14.out.on HB15.out)
  clear H14 HB15 HM15 HF15
  go_wp2_with fail
  refine (segCut_any w15 pad N pcap _ H15.out.row hsz 5 5 ⟨by decide, by decide⟩ ⟨by decide, by decide⟩ _ H15.out.scans).mono ?_
  rintro e w16 ⟨rfl, HB16⟩
  rw [none_ahead H15.out.seq H15.out.ok]
  simp only [flat_nil, List.length_nil]
  have H16 := Lib.hid (H15.out.on HB16.out)
  clear H15 HB16
  go_wp2_with fail
  go_ret
  exact ⟨rfl, H16.out.below⟩
end Go.Proofs.Ytlcnpeodhfdhlaa

/-! Chapter 9's laws SegmentBegins, SegmentCuts. -/
namespace Go.Proofs.Ytlcnpeodhfdhlaa
open Go.RowKit
open Go.ProdMath
open Go.SegMath
open Go.IxMath
open Go.BatMath hiding AllB getD_lt take_all
set_option linter.unusedVariables false

theorem row_first {w : World} {ad : Option Addr} {len cap : Nat} {bl : List Nat} (h : Row w ad len cap bl) (i : Nat) (hi : i ≤ len) : Row w ad i cap (bl.take i) :=
  ⟨byt_of ((row_bytes h).take i hi) (fun x hx => h.all x (List.mem_of_mem_take hx)), h.2⟩
theorem BatsAt.first {w : World} {ad : Option Addr} {len cap : Nat} {ms : List BM} (h : BatsAt w ad len cap ms) (i : Nat) (hi : i ≤ len) : BatsAt w ad i cap (ms.take i) :=
  ⟨h.row.take i hi, fun m hm => h.ins m (List.mem_of_mem_take hm)⟩
theorem bats_take (ms : List BM) (i : Nat) : bats (ms.take i) = (bats ms).take i := by unfold bats; rw [List.map_take]
theorem bats_app (a b : List BM) : bats (a ++ b) = bats a ++ bats b := by unfold bats; rw [List.map_append]
/-- A book's row, made. -/
theorem book_any (w : World) (tad : Option Addr) (tlen tcap : Nat) (zs : List Int) (h : Nums w tad tlen zs) (hL : tlen ≤ 140737488355328) (start : Int) (hs0 : 0 ≤ start) (hs1 : start ≤ 1099511627776) (most : Nat) (hmost : most ≤ 40) :
    Calls Try.prog 7 #[.slice tad tlen tcap, .int .i64 start, .int .i64 (most : Int)] w fun e w2 => ∃ ad n cap ms, e = .returned (.slice ad n cap) ∧ n ≤ most ∧ Hid (Below w.heap.size w w2) ∧ Hid (∃ N, Calls Try.prog 9 #[.slice ad n cap] w2 fun e w3 => ∃ pad pcap, e = .returned (.slice pad N pcap) ∧ Hid (Book w w3 start ad n cap ms pad N pcap)) := by
  refine (row_any w tad tlen tcap zs h hL start hs0 hs1 most (by omega)).mono ?_
  rintro e w2 ⟨ad, n, cap, ms, rfl, HM, HR, hn, HB⟩
  refine ⟨ad, n, cap, ms, rfl, hn, HB, (flat (bats ms)).length, ?_⟩
  refine (keepBytes_any w2 ad n cap ms HM.out (by omega) (rowD_ok HR.out) _ rfl).mono ?_
  rintro e w3 ⟨pad, pcap, rfl, HROW, _, HB3⟩
  exact ⟨pad, pcap, rfl, HB.out.trans (HB3.out.mono HB.out.size), HM.out.keep HB3.out, HROW.out, HR.out, by omega, rfl⟩
set_option maxRecDepth 100000 in
set_option maxHeartbeats 16000000 in
theorem segBegins_any (w : World) (tad : Option Addr) (tlen tcap : Nat) (zs : List Int) (h : Nums w tad tlen zs) (hL : tlen ≤ 140737488355328) (nn cut : Int) (hn : I64 nn) (hc : I64 cut) (more : Int) (hm0 : 0 ≤ more ∧ more < 256) :
    Calls Try.prog 5 #[.slice tad tlen tcap, .int .i64 nn, .int .i64 cut, .int .u8 more] w fun e w' => e = .returned (.bool true) ∧ Below w.heap.size w w' := by
  have HNU := Lib.hid h
  clear h
  obtain ⟨mb, rfl⟩ : ∃ m : Nat, more = (m : Int) := ⟨more.toNat, by omega⟩
  go_enter Try.func5, Try.ntmps5
  go_wp2_with fail
  refine (within_any nn 9 w hn (by omega)).mono ?_
  rintro e w' ⟨k, rfl, hk, rfl⟩
  go_wp2_with fail
  refine (book_any w tad tlen tcap zs HNU.out hL 3 (by decide) (by decide) k (by omega)).mono ?_
  rintro e w2 ⟨ad, n, cap, ms, rfl, hnk, _, HC2⟩
  obtain ⟨N, CB⟩ := HC2.out
  clear HC2 HNU
  go_wp2_with fail
  refine CB.mono ?_
  rintro e w3 ⟨pad, pcap, rfl, H3⟩
  clear CB
  have hsz := H3.out.size
  have hn9 : n ≤ 9 := by omega
  go_wp2_with fail
  refine (within_any cut N w3 hc (by omega)).mono ?_
  rintro e w' ⟨c, rfl, hcN, rfl⟩
  have hcN : c ≤ N := by omega
  have hup : ∀ V, (Instr.slice 26 (.slice pad N pcap) none (some (.int .i64 (c : Int))) none).run Try.prog V = .ok (.slice pad c pcap) V := row_upto byteK_ok pad N pcap c (by have := H3.out.row.1.fits; omega)
  go_wp2_with fail
  refine (segScan_any w3 pad c pcap _ (row_first H3.out.row c hcN) (by omega) 3 ⟨by decide, by decide⟩).mono ?_
  rintro e w4 ⟨ad4, n4, cap4, ms4, rfl, HM4, HS4, _, HB4⟩
  have HPRE : Hid (bats ms4 <+: bats ms) := scans_pre _ _ _ _ H3.out.seq H3.out.ok (List.take_prefix _ _) HS4.out
  have HK4 : Hid ((flat (bats ms4)).length ≤ N) := by
    show _ ≤ _
    have h1 := scans_len HS4.out
    rw [List.length_take] at h1
    omega
  have HN4 : Hid (n4 ≤ n ∧ bats ms4 = (bats ms).take n4) := by
    have h1 := HPRE.out.length_le
    rw [bats_len, HM4.out.row.length, H3.out.num] at h1
    refine ⟨h1, ?_⟩
    have h2 := List.prefix_iff_eq_take.1 HPRE.out
    rw [bats_len, HM4.out.row.length] at h2
    exact h2
  have H4 := Lib.hid (H3.out.on HB4.out)
  obtain ⟨K4, hK4⟩ : ∃ K, K = (flat (bats ms4)).length := ⟨_, rfl⟩
  rw [← hK4] at HK4 ⊢
  clear hK4 H3 HS4 HB4 HPRE hup
  obtain ⟨w5, hw5⟩ : ∃ z, z = w4.alloc (.cells #[] 5) := ⟨_, rfl⟩
  have HB5 : Hid (Below w4.heap.size w4 w5) := by show Below _ _ _; rw [hw5]; exact (Below.refl _ _).alloc (Nat.le_refl _) _
  have HO5 : Hid (OwnRow byteK w5 w4.heap.size (.slice (some ⟨w4.heap.size, 0, none⟩) 0 0) []) := by show OwnRow _ _ _ _ _; rw [hw5]; exact ownRow_lit byteK_ok w4 _ [] (Nat.le_refl _) (by simp) _ rfl 0 rfl
  obtain ⟨g5, hg5⟩ : ∃ z, z = w4.heap.size := ⟨_, rfl⟩
  rw [← hg5] at HO5
  have HG5 := Lib.hid hg5
  have HW5 := Lib.hid hw5
  have H5 := Lib.hid (H4.out.on HB5.out)
  clear hw5 hg5
  go_upto_region 4 with fail
  go_wp2_with (at_builtin; rw [← HW5.out]; try rw [← HG5.out]; refine list_row (by rfl) byteK_ok (.tmp 32) (.tmp 33) rfl g5 [] (flat (bats ms)) (.slice (some ⟨g5, 0, none⟩) 0 0) rfl HO5.out (by rw [HG5.out]; exact HB5.out.size) pad N pcap rfl (row_bytes H5.out.row) (by rw [List.length_nil]; omega) ?_)
  intro v6 w6 hap
  have HO6 : Hid (OwnRow byteK w6 g5 v6 (flat (bats ms))) := hap.1
  have HB6 : Hid (Below w4.heap.size w4 w6) := HB5.out.grown hap.2.1 HB5.out.size fun q hq => by have := (HO5.out.lt q hq).1; have := HG5.out; omega
  clear hap HO5 HW5 H5 HB5
  have HM7 : Hid (Below w6.heap.size w6 (w6.alloc (.cells #[.int .u8 (mb : Int), .int .u8 (mb : Int)] 5))) := (Below.refl _ _).alloc (Nat.le_refl _) _
  have HLIT : Hid (RowAt byteK (w6.alloc (.cells #[.int .u8 (mb : Int), .int .u8 (mb : Int)] 5)) (some ⟨w6.heap.size, 0, none⟩) 2 2 [mb, mb]) := rowAt_lit byteK_ok w6 [mb, mb] (by simp) _ rfl 2 rfl
  have HON := Lib.hid (HO6.out.on HM7.out)
  have HBS : Hid (g5 ≤ (w6.alloc (.cells #[.int .u8 (mb : Int), .int .u8 (mb : Int)] 5)).heap.size) := by show _ ≤ _; have h1 := HB6.out.size; have h2 := HM7.out.size; have h3 := HG5.out; omega
  go_wp2_with (at_builtin; refine list_row (by rfl) byteK_ok (.tmp 34) (.tmp 37) rfl g5 (flat (bats ms)) [mb, mb] v6 rfl HON.out HBS.out (some ⟨w6.heap.size, 0, none⟩) 2 2 rfl HLIT.out (by rw [← H4.out.len]; omega) ?_)
  intro v7 w7 hap
  have hall : AllB (flat (bats ms) ++ [mb, mb]) := fun x hx => by
    rcases List.mem_append.1 hx with h1 | h1
    · exact H4.out.row.all x h1
    · simp at h1
      omega
  obtain ⟨ad7, cap7, hv7, hr7⟩ := own_byt hap.1 hall (n := N + 2) (by rw [List.length_append, ← H4.out.len]; rfl)
  subst hv7
  have HR7 := Lib.hid hr7
  have HB7 : Hid (Below w4.heap.size w4 w7) := (HB6.out.trans (HM7.out.mono HB6.out.size)).grown hap.2.1 (Nat.le_trans HB6.out.size HM7.out.size) fun q hq => by have := (HON.out.lt q hq).1; have := HG5.out; omega
  have H7 := Lib.hid (H4.out.on HB7.out)
  have HM4 := Lib.hid (HM4.out.keep HB7.out)
  clear hap hr7 hall HON HBS HLIT HM7 HO6 HB6 H4 HG5 HB7
  go_wp2_with fail
  refine (segScan_any w7 ad7 (N + 2) cap7 _ HR7.out (by omega) 3 ⟨by decide, by decide⟩).mono ?_
  rintro e w8 ⟨ad8, n8, cap8, ms8, rfl, HM8, HS8, _, HB8⟩
  have HE8 : Hid (bats ms8 = bats ms) := scans_one _ _ _ _ HS8.out (scans_flat H7.out.seq H7.out.ok [mb, mb] (by simp))
  have H8 := Lib.hid (H7.out.on HB8.out)
  have HM4 := Lib.hid (HM4.out.keep HB8.out)
  rw [HE8.out, ← H8.out.len]
  have HN8 : Hid (n8 = n) := by show _ = _; rw [← HM8.out.row.length, ← bats_len, HE8.out]; exact H8.out.num
  clear H7 HS8 HB8 HR7
  have hd1 : decide (n4 ≤ n) = true := decide_eq_true HN4.out.1
  have hd2 : decide (K4 ≤ N) = true := decide_eq_true HK4.out
  have hup : ∀ V, (Instr.slice 22 (.slice ad n cap) none (some (.int .i64 (n4 : Int))) none).run Try.prog V = .ok (.slice ad n4 cap) V := row_upto batK_ok ad n cap n4 (by have := H8.out.bats_.row.fits; have := HN4.out.1; omega)
  go_wp2_with fail
  refine (refRows_any w8 ad4 ad n4 n4 cap4 cap ms4 (ms.take n4) HM4.out (H8.out.bats_.first n4 HN4.out.1) (by have := HN4.out.1; omega) (bats_few (by rw [HN4.out.2]; exact rowOk_take H8.out.ok _)) true (by rw [bats_take, HN4.out.2]; simp)).mono ?_
  rintro e w9 ⟨rfl, hb9⟩
  have H9 := Lib.hid (H8.out.on hb9)
  have HM8 := Lib.hid (HM8.out.keep hb9)
  clear H8 hb9 HM4 hup
  go_wp2_with fail
  refine (refRows_any w9 ad8 ad n8 n cap8 cap ms8 ms HM8.out H9.out.bats_ (by rw [HN8.out]; omega) (bats_few (by rw [HE8.out]; exact H9.out.ok)) true (by rw [HE8.out]; simp)).mono ?_
  rintro e w10 ⟨rfl, hb10⟩
  have H10 := Lib.hid (H9.out.on hb10)
  clear H9 hb10 HM8
  go_wp2_with fail
  refine (segKnown_any w10).mono ?_
  rintro e w11 ⟨rfl, hb11⟩
  have H11 := Lib.hid (H10.out.on hb11)
  clear H10 hb11
  go_wp2_with fail
  go_ret
  exact ⟨rfl, H11.out.below⟩
theorem mask63 (a : Int) : bits .and .i64 a 63 = a % 64 := by
  have h1 : (BitVec.ofInt 64 63).toNat = 2 ^ 6 - 1 := by decide
  have key : (BitVec.ofInt 64 a &&& BitVec.ofInt 64 63).toNat = (a % ((2 ^ 64 : Nat) : Int)).toNat % 2 ^ 6 := by
    rw [BitVec.toNat_and, BitVec.toNat_ofInt, h1, Nat.and_two_pow_sub_one_eq_mod]
  show IntKind.i64.wrap ((BitVec.ofInt 64 a &&& BitVec.ofInt 64 63).toNat : Nat) = _
  rw [key, IntKind.wrap_i64]
  omega
set_option maxRecDepth 100000 in
set_option maxHeartbeats 16000000 in
theorem segCuts_any (w : World) (tad : Option Addr) (tlen tcap : Nat) (zs : List Int) (h : Nums w tad tlen zs) (hL : tlen ≤ 140737488355328) (nn off every : Int) (hn : I64 nn) (ho : I64 off) (he : I64 every) :
    Calls Try.prog 6 #[.slice tad tlen tcap, .int .i64 nn, .int .i64 off, .int .i64 every] w fun e w' => e = .returned (.bool true) ∧ Below w.heap.size w w' := by
  have HNU := Lib.hid h
  clear h
  have hmask := mask63 off
  obtain ⟨o, hoo⟩ : ∃ o, o = off % 64 := ⟨_, rfl⟩
  rw [← hoo] at hmask
  have ho0 : 0 ≤ o ∧ o < 64 := by omega
  clear hoo
  go_enter Try.func6, Try.ntmps6
  go_wp2_with fail
  refine (within_any nn 12 w hn (by omega)).mono ?_
  rintro e w' ⟨k, rfl, hk, rfl⟩
  go_wp2_with fail
  refine (book_any w tad tlen tcap zs HNU.out hL 2 (by decide) (by decide) k (by omega)).mono ?_
  rintro e w2 ⟨ad, n, cap, ms, rfl, hnk, _, HC2⟩
  obtain ⟨N, CB⟩ := HC2.out
  clear HC2 HNU
  go_wp2_with fail
  refine CB.mono ?_
  rintro e w3 ⟨pad, pcap, rfl, H3⟩
  clear CB
  have hsz := H3.out.size
  have hn12 : n ≤ 12 := by omega
  obtain ⟨m, hmL, hf1, hf2⟩ := cut_at (bats ms) 2 o H3.out.seq H3.out.ok
  have HF1 := Lib.hid hf1
  have HF2 := Lib.hid hf2
  obtain ⟨K, hK⟩ : ∃ K, K = (flat ((bats ms).take m)).length := ⟨_, rfl⟩
  have HK := Lib.hid hK
  have hKN : K ≤ N := by
    rw [hK, H3.out.len]
    have := congrArg List.length (List.take_append_drop m (bats ms))
    have h2 : flat (bats ms) = flat ((bats ms).take m) ++ flat ((bats ms).drop m) := by rw [← flat_app, List.take_append_drop]
    rw [h2, List.length_append]
    omega
  clear hf1 hf2 hK
  go_wp2_with fail
  refine (segCut_any w3 pad N pcap _ H3.out.row (by omega) 2 o ⟨by decide, by decide⟩ ⟨by omega, by omega⟩ _ H3.out.scans).mono ?_
  rintro e w4 ⟨rfl, HB4⟩
  rw [HF1.out, ← HK.out]
  have H4 := Lib.hid (H3.out.on HB4.out)
  clear H3 HB4 HF1
  have hd0 : decide ((K : Int) < 0) = false := decide_eq_false (by omega)
  have hd1 : decide (N < K) = false := decide_eq_false (by omega)
  have hup : ∀ V, (Instr.slice 26 (.slice pad N pcap) none (some (.int .i64 (K : Int))) none).run Try.prog V = .ok (.slice pad K pcap) V := row_upto byteK_ok pad N pcap K (by have := H4.out.row.1.fits; omega)
  have HRK : Hid (Row w4 pad K pcap (flat ((bats ms).take m))) := by
    show Row _ _ _ _ _
    have h1 := row_first H4.out.row K hKN
    rw [HK.out, flat_take] at h1
    rw [HK.out]
    exact h1
  have HSK : Hid (Scans 2 (flat ((bats ms).take m)) ((bats ms).take m)) := scans_all (seqF_take _ _ _ H4.out.seq) (rowOk_take H4.out.ok m)
  go_wp2_with fail
  refine (segScan_any w4 pad K pcap _ HRK.out (by omega) 2 ⟨by decide, by decide⟩).mono ?_
  rintro e w5 ⟨ad5, n5, cap5, ms5, rfl, HM5, HS5, _, HB5⟩
  have HE5 : Hid (bats ms5 = (bats ms).take m) := scans_one _ _ _ _ HS5.out HSK.out
  have H5 := Lib.hid (H4.out.on HB5.out)
  rw [HE5.out, ← HK.out]
  have HN5 : Hid (n5 ≤ n) := by
    show _ ≤ _
    have h1 := congrArg List.length HE5.out
    rw [bats_len, HM5.out.row.length, List.length_take, H5.out.num] at h1
    omega
  clear H4 HS5 HB5 HRK HSK hup
  go_wp2_with fail
  refine (within_any every 300 w5 he (by omega)).mono ?_
  rintro e w' ⟨ev, rfl, hev, rfl⟩
  go_wp2_with fail
  refine (segBuild_any w5 pad N pcap _ H5.out.row (by omega) 2 (1 + (ev : Int)) ⟨by decide, by decide⟩ ⟨by omega, by omega⟩ _ H5.out.scans).mono ?_
  rintro e w6 ⟨HB6, hc⟩
  have H6 := Lib.hid (H5.out.on HB6.out)
  have HM5 := Lib.hid (HM5.out.keep HB6.out)
  clear H5 HB6
  rcases hc with ⟨hbad, _⟩ | ⟨_, kx, FX, rfl, HIX, _⟩
  · exact absurd hbad (by rw [show badN 2 (1 + (ev : Int)) = false from decide_eq_false (by omega)]; decide)
  go_wp2_with fail
  refine (segFrom_any w6 pad N pcap _ H6.out.row (by omega) 2 o ⟨by decide, by decide⟩ ⟨by omega, by omega⟩ _ H6.out.scans _ (.inr ⟨kx, FX, _, rfl, HIX.out⟩)).mono ?_
  rintro e w7 ⟨ad7, n7, cap7, ms7, rfl, HM7, HE7, HB7⟩
  rw [HF2.out] at HE7
  have H7 := Lib.hid (H6.out.on HB7.out)
  have HM5 := Lib.hid (HM5.out.keep HB7.out)
  have HN7 : Hid (n7 ≤ n) := by
    show _ ≤ _
    have h1 := congrArg List.length HE7.out
    rw [bats_len, HM7.out.row.length, List.length_drop, H7.out.num] at h1
    omega
  clear H6 HB7 HIX HF2
  obtain ⟨w8, hw8⟩ : ∃ z, z = w7.alloc (.cells #[] 51) := ⟨_, rfl⟩
  have HB8 : Hid (Below w7.heap.size w7 w8) := by show Below _ _ _; rw [hw8]; exact (Below.refl _ _).alloc (Nat.le_refl _) _
  obtain ⟨g8, hg8⟩ : ∃ z, z = w7.heap.size := ⟨_, rfl⟩
  have HO8 : Hid (OwnRow batK w8 g8 (.slice (some ⟨g8, 0, none⟩) 0 0) []) := by show OwnRow _ _ _ _ _; rw [hw8, hg8]; exact ownRow_lit batK_ok w7 _ [] (Nat.le_refl _) (by simp) _ rfl 0 rfl
  have HG8 := Lib.hid hg8
  have HW8 := Lib.hid hw8
  clear hw8 hg8
  have hle1 : n5 ≤ n := HN5.out
  have hle2 : n7 ≤ n := HN7.out
  go_upto_region 10 with fail
  go_wp2_with (at_builtin; rw [← HW8.out]; try rw [← HG8.out]; refine list_row (by rfl) batK_ok (.tmp 63) (.tmp 64) rfl g8 [] ms5 (.slice (some ⟨g8, 0, none⟩) 0 0) rfl HO8.out (by rw [HG8.out]; exact HB8.out.size) ad5 n5 cap5 rfl (HM5.out.keep HB8.out).row (by rw [List.length_nil]; omega) ?_)
  intro v9 w9 hap
  have HO9 : Hid (OwnRow batK w9 g8 v9 ms5) := hap.1
  have HB9 : Hid (Below w7.heap.size w7 w9) := HB8.out.grown hap.2.1 HB8.out.size fun q hq => by have := (HO8.out.lt q hq).1; have := HG8.out; omega
  clear hap HO8 HW8 HB8
  go_wp2_with (at_builtin; refine list_row (by rfl) batK_ok (.tmp 65) (.tmp 66) rfl g8 ms5 ms7 v9 rfl HO9.out (by rw [HG8.out]; exact HB9.out.size) ad7 n7 cap7 rfl (HM7.out.keep HB9.out).row (by rw [HM5.out.row.length]; omega) ?_)
  intro v10 w10 hap
  have HB10 : Hid (Below w7.heap.size w7 w10) := HB9.out.grown hap.2.1 HB9.out.size fun q hq => by have := (HO9.out.lt q hq).1; have := HG8.out; omega
  have HE10 : Hid (bats (ms5 ++ ms7) = bats ms) := by show _ = _; rw [bats_app, HE5.out, HE7.out, List.take_append_drop]
  have hNN : (ms5 ++ ms7).length = n := by rw [← bats_len, HE10.out]; exact H7.out.num
  obtain ⟨ad10, cap10, hv10, hr10, _⟩ := OwnRow.row batK_ok hap.1 (n := n) hNN
  subst hv10
  have HM10 : Hid (BatsAt w10 ad10 n cap10 (ms5 ++ ms7)) := ⟨hr10, fun x hx => by
    rcases List.mem_append.1 hx with h1 | h1
    · exact (HM5.out.keep HB10.out).ins x h1
    · exact (HM7.out.keep HB10.out).ins x h1⟩
  have H10 := Lib.hid (H7.out.on HB10.out)
  clear hap hr10 hNN HO9 HB9 HB10 H7 HM5 HM7 HG8
  go_wp2_with fail
  refine (refRows_any w10 ad10 ad n n cap10 cap (ms5 ++ ms7) ms HM10.out H10.out.bats_ (by omega) (bats_few (by rw [HE10.out]; exact H10.out.ok)) true (by rw [HE10.out]; simp)).mono ?_
  rintro e w11 ⟨rfl, hb11⟩
  have H11 := Lib.hid (H10.out.on hb11)
  clear H10 hb11 HM10
  go_wp2_with fail
  refine (segKnown_any w11).mono ?_
  rintro e w12 ⟨rfl, hb12⟩
  have H12 := Lib.hid (H11.out.on hb12)
  clear H11 hb12
  go_wp2_with fail
  go_ret
  exact ⟨rfl, H12.out.below⟩
end Go.Proofs.Ytlcnpeodhfdhlaa
