/- The document's own Scan. The document's own Rows; a book's Bytes. -/
import Derived.Test.YtlcnpeodhfdhlaaBatRead
import Derived.Test.YtlcnpeodhfdhlaaGBatB
import Derived.Test.YtlcnpeodhfdhlaaGModA
import Derived.Test.YtlcnpeodhfdhlaaGPlain
import Derived.Test.YtlcnpeodhfdhlaaGRows
import Derived.Test.YtlcnpeodhfdhlaaRegionZ
/-! The document's own Scan. -/
namespace Go.Proofs.Ytlcnpeodhfdhlaa
open Go.RowKit
open Go.ProdMath
open Go.SegMath
open Go.BatMath hiding AllB getD_lt take_all
set_option linter.unusedVariables false

/-- p[k:]. -/
theorem seg_from {w : World} {ad : Option Addr} {len cap : Nat} {bl : List Nat} (h : RowAt byteK w ad len cap bl) (k : Nat) (hk : k ≤ len) : ∃ ad' cap', (∀ V, (Instr.slice 26 (.slice ad len cap) (some (.int .i64 (k : Int))) none none).run Try.prog V = .ok (.slice ad' (len - k) cap') V) ∧ RowAt byteK w ad' (len - k) cap' (bl.drop k) ∧ (∀ a, ad' = some a → ∃ a0, ad = some a0 ∧ a.block = a0.block) := by
  obtain ⟨ad', cap', h1, h2, h3⟩ := row_from byteK_ok h k hk
  exact ⟨ad', cap', h1, h2, h3⟩
/-- What a scan gives. -/
def GivesScan (w : World) (base : Int) (p : List Nat) (e : Ending) (w' : World) : Prop :=
  ∃ ad n cap ms, e = .returned (.tuple #[.slice ad n cap, .int .i64 ((flat (bats ms)).length : Nat)]) ∧ Hid (BatsAt w' ad n cap ms) ∧ Hid (Scans base p (bats ms)) ∧ Hid ((∀ a, ad = some a → w.heap.size ≤ a.block) ∧ ∀ m ∈ ms, m.b.recs.length = 0 ∨ ∀ a, m.ad = some a → w.heap.size ≤ a.block) ∧ Hid (Below w.heap.size w w')
/-- What has been read so far. -/
structure Scanning (w wr : World) (base : Int) (p : List Nat) (v : Value) (ms : List BM) : Prop where
  own : OwnRow batK wr w.heap.size v ms
  ins : RecssAt wr ms
  seq : SeqF base (bats ms)
  ok : RowOk (bats ms)
  pre : flat (bats ms) <+: p
  below : Below w.heap.size w wr
  sep : ∀ m ∈ ms, m.b.recs.length = 0 ∨ ∀ a, m.ad = some a → v.ownBlock ≠ some a.block ∧ a.block < wr.heap.size
  news : ∀ m ∈ ms, m.b.recs.length = 0 ∨ ∀ a, m.ad = some a → w.heap.size ≤ a.block
theorem recs_grown {w w' : World} {ad : Option Addr} {len cap : Nat} {l : List Rc} {r : Option Nat} (h : RecsAt w ad len cap l) (hg : w.grownBy w' r) (hr : len = 0 ∨ ∀ a, ad = some a → r ≠ some a.block) : RecsAt w' ad len cap l := by
  refine ⟨h.length, h.fits, h.room, ?_⟩
  rcases hr with h0 | hr
  · exact .inl h0
  rcases h.cells with h0 | ⟨b, off, e, hlt, hc⟩
  · exact .inl h0
  · refine .inr ⟨b, off, e, Nat.lt_of_lt_of_le hlt hg.size, fun i x hi => ?_⟩
    have h1 := hc i x hi
    exact ⟨hg.cell h1.1 (show some b ≠ r from fun e2 => hr _ e e2.symm), hg.cell h1.2 (show some b ≠ r from fun e2 => hr _ e e2.symm)⟩
theorem bats_snoc (ms : List BM) (m : BM) : bats (ms ++ [m]) = bats ms ++ [m.b] := by simp [bats]
theorem bats_len (ms : List BM) : (bats ms).length = ms.length := by simp [bats]
theorem scanning_nil {w : World} (base : Int) (p : List Nat) : Scanning w w base p (.slice none 0 0) [] := ⟨ownRow_nil _ _ _, (fun m hm => by cases hm), trivial, (fun b hb => by cases hb), List.nil_prefix, Below.refl _ _, (fun m hm => by cases hm), (fun m hm => by cases hm)⟩
theorem Scanning.on {w wr w' : World} {base : Int} {p : List Nat} {v : Value} {ms : List BM} (h : Scanning w wr base p v ms) (hb : Below wr.heap.size wr w') : Scanning w w' base p v ms :=
  ⟨h.own.on hb, h.ins.keep hb, h.seq, h.ok, h.pre, h.below.trans (hb.mono h.below.size), fun m hm => (h.sep m hm).imp id fun h2 a ha => ⟨(h2 a ha).1, Nat.lt_of_lt_of_le (h2 a ha).2 hb.size⟩, h.news⟩
theorem Scanning.at_most {w wr : World} {base : Int} {p : List Nat} {v : Value} {ms : List BM} (h : Scanning w wr base p v ms) : (flat (bats ms)).length ≤ p.length ∧ 36 * ms.length ≤ (flat (bats ms)).length := by
  have h1 := h.pre.length_le
  have h2 := (flat_big h.ok).1
  rw [bats_len] at h2
  exact ⟨h1, h2⟩
theorem Scanning.rest {w wr : World} {base : Int} {p : List Nat} {v : Value} {ms : List BM} (h : Scanning w wr base p v ms) : p = flat (bats ms) ++ p.drop (flat (bats ms)).length := by
  obtain ⟨t, ht⟩ := h.pre
  rw [← ht, List.drop_left]
theorem Scanning.done {w wr w' : World} {base : Int} {p : List Nat} {ad : Option Addr} {n cap : Nat} {ms : List BM} (h : Scanning w wr base p (.slice ad n cap) ms) (hn : ms.length = n) (hb : Below wr.heap.size wr w') (hr : ∀ b, BatMath.Good (p.drop (flat (bats ms)).length) b → b.base ≠ endD base (bats ms)) (k : Nat) (hk : k = (flat (bats ms)).length) : GivesScan w base p (.returned (.tuple #[.slice ad n cap, .int .i64 (k : Int)])) w' := by
  subst hk hn
  obtain ⟨ad', cap', e, h1, h2⟩ := h.own.at batK_ok
  cases e
  exact ⟨ad, _, cap, ms, rfl, ⟨h1.keep hb, h.ins.keep hb⟩, ⟨h.seq, h.ok, _, h.rest, hr⟩, ⟨fun a ha => (h2 a ha).1, h.news⟩, h.below.trans (hb.mono h.below.size)⟩
def lenB (v : Value) : Nat := match v with
  | .int _ n => n.toNat
  | _ => 0
set_option maxRecDepth 100000 in
set_option maxHeartbeats 8000000 in
theorem refScan_any (w : World) (ad : Option Addr) (len cap : Nat) (p : List Nat) (h : Row w ad len cap p) (hL : len ≤ 100000) (base : Int) (hb : -9223372036854775808 ≤ base ∧ base ≤ 9223372036854775807) :
    Calls Try.prog 24 #[.slice ad len cap, .int .i64 base] w (GivesScan w base p) := by
  have HP := Lib.hid h
  have HPL := Lib.hid h.len
  have HS0 := Lib.hid (scanning_nil (w := w) base p)
  have HBB := Lib.hid hb
  clear h hb
  go_enter Try.func24, Try.ntmps24
  go_wp2_with fail
  go_loopw [1, 6, 7] (fun v1 v6 v7 wr => ∃ (ad1 : Option Addr) (n1 cap1 k : Nat) (z : Int) (ms : List BM), v6 = .slice ad1 n1 cap1 ∧ v7 = .int .i64 (k : Int) ∧ v1 = .int .i64 z ∧ k ≤ len ∧ n1 ≤ 10000 ∧ Hid (ms.length = n1) ∧ Hid (z = endD base (bats ms)) ∧ Hid (k = (flat (bats ms)).length) ∧ Hid (Scanning w wr base p (.slice ad1 n1 cap1) ms)) (fun _ _ v7 _ => len - lenB v7)
  case atStart => exact ⟨none, 0, 0, 0, base, [], rfl, rfl, rfl, Nat.zero_le _, by omega, rfl, rfl, rfl, HS0.out⟩
  case round =>
    obtain ⟨ad1, n1, cap1, k, z, ms, rfl, rfl, rfl, hkl, hn1, HN, HZ, HK, HS⟩ := hrel
    obtain ⟨wo, hwo⟩ : ∃ wo : World, wo = wr := ⟨_, rfl⟩
    subst hwo
    clear HS0
    obtain ⟨ad2, cap2, hup, hr2, _⟩ := seg_from (row_bytes HP.out) k hkl
    have HR2 : Hid (Byt w ad2 (len - k) cap2 (p.drop k)) := byt_of hr2 fun x hx => HP.out.all x (List.mem_of_mem_drop hx)
    clear hr2
    obtain ⟨r, hr⟩ : ∃ r, r = p.drop k := ⟨_, rfl⟩
    rw [← hr] at HR2
    have HRR := Lib.hid hr
    obtain ⟨o, ho⟩ : ∃ o, o = readD r := ⟨_, rfl⟩
    have HO : Hid (BatMath.Reads r o) := by show BatMath.Reads _ _; rw [ho]; exact reads_readD HR2.out.all
    have HOD := Lib.hid ho
    clear hr ho
    go_wp2_with fail
    refine (refRead_any wo ad2 (len - k) cap2 r (HR2.out.keep HS.out.below (Nat.le_refl _)) (by omega)).mono ?_
    rw [← HOD.out]
    obtain ⟨⟨b0, b1, b2, b3, b4, b5, recs⟩, on, oe⟩ := o
    rintro e w1 ⟨rd, rc, rfl, hre, hrk, hb1⟩
    simp only at hre
    have HRE := Lib.hid hre
    have HB1 := Lib.hid hb1
    obtain ⟨rn, hrn⟩ : ∃ n, n = recs.length := ⟨_, rfl⟩
    have HRN := Lib.hid hrn
    simp only
    rw [← hrn] at HRE ⊢
    have HRK : Hid (∀ a, rd = some a → wo.heap.size ≤ a.block) := hrk
    clear hre hrk hb1 hrn hup HOD
    go_upto_region 4 with fail
    obtain ⟨W1, hW1⟩ : ∃ z, z = w1.alloc (.cells #[.int .i64 b0, .int .i64 b1, .int .i64 b2, .int .i64 b3, .bool b4, .int .i64 b5, .slice rd rn rc] 51) := ⟨_, rfl⟩
    obtain ⟨kb, hkb⟩ : ∃ z, z = w1.heap.size := ⟨_, rfl⟩
    have hbb : Below w1.heap.size w1 W1 := by rw [hW1]; exact (Below.refl _ _).alloc (Nat.le_refl _) _
    have HX1 : Hid (BoxAt W1 kb b0 b1 b2 b3 b4 b5 (.slice rd rn rc)) := by show BoxAt _ _ _ _ _ _ _ _ _; rw [hW1, hkb]; exact boxAt_new w1 _ _ _ _ _ _ _
    have HBW : Hid (Below wo.heap.size wo W1) := HB1.out.trans (hbb.mono HB1.out.size)
    have HKB0 : Hid (wo.heap.size ≤ kb) := by show _ ≤ _; rw [hkb]; exact HB1.out.size
    have HRE1 := Lib.hid (HRE.out.keep hbb)
    rw [← hW1, ← hkb]
    clear hW1 hkb hbb HRE HB1
    have q0 := HX1.out.c0
    have q1 := HX1.out.c1
    have q2 := HX1.out.c2
    have q3 := HX1.out.c3
    have q4 := HX1.out.c4
    have q5 := HX1.out.c5
    have q6 := HX1.out.c6
    by_cases he : oe = 0
    · subst he
      by_cases hbz : b0 = z
      · subst hbz
        have HG : Hid (BatMath.Good r ⟨b0, b1, b2, b3, b4, b5, recs⟩) := (HO.out.fine rfl).1
        have HNN : Hid (on = (bytesB ⟨b0, b1, b2, b3, b4, b5, recs⟩).length) := (HO.out.fine rfl).2
        obtain ⟨cnt, hcnt⟩ : ∃ c, c = countD ⟨b0, b1, b2, b3, b4, b5, recs⟩ := ⟨_, rfl⟩
        have HCN : Hid ((if b5 ≠ 0 then 1 else (rn : Int)) = cnt) := by show _ = _; rw [hcnt, HRN.out]; rfl
        have HCB : Hid (1 ≤ cnt ∧ cnt ≤ 16) := by show _ ∧ _; rw [hcnt]; exact count_pos HG.out.right
        have HB0 : Hid (0 ≤ b0 ∧ b0 ≤ 1099511627776) := ⟨(ok_of HG.out.right).base0, (ok_of HG.out.right).base1⟩
        have HLN : Hid (36 ≤ on ∧ on + k ≤ len) := by
          show _ ∧ _
          have h1 := (ok_len (ok_of HG.out.right)).2
          have h2 := HG.out.pre.length_le
          rw [HRR.out, List.length_drop, HPL.out] at h2
          rw [HNN.out]
          omega
        have HS2 : ∀ (w' : World) (v' : Value), Below w.heap.size w w' → OwnRow batK w' w.heap.size v' (ms ++ [⟨⟨b0, b1, b2, b3, b4, b5, recs⟩, rd, rc⟩]) → RecssAt w' (ms ++ [⟨⟨b0, b1, b2, b3, b4, b5, recs⟩, rd, rc⟩]) → (∀ m ∈ ms ++ [⟨⟨b0, b1, b2, b3, b4, b5, recs⟩, rd, rc⟩], m.b.recs.length = 0 ∨ ∀ a, m.ad = some a → v'.ownBlock ≠ some a.block ∧ a.block < w'.heap.size) → Scanning w w' base p v' (ms ++ [⟨⟨b0, b1, b2, b3, b4, b5, recs⟩, rd, rc⟩]) := fun w' v' h1 h2 h3 hsp =>
          ⟨h2, h3, by rw [bats_snoc]; exact (seqF_snoc _ _ _).2 ⟨HS.out.seq, HZ.out⟩, by rw [bats_snoc]; exact rowOk_snoc HS.out.ok ⟨HG.out.right, HG.out.wf⟩, by
            rw [bats_snoc, flat_snoc]
            have h4 := HS.out.rest
            rw [h4]
            refine (List.prefix_append_right_inj _).2 ?_
            have h5 := HG.out.pre
            rw [HRR.out, HK.out] at h5
            exact h5, h1, hsp, fun m hm => by
              rcases List.mem_append.1 hm with h6 | h6
              · exact HS.out.news m h6
              · rw [List.mem_singleton.1 h6]
                refine .inr fun a ha => ?_
                have h7 := HRK.out a ha
                have h8 := HS.out.below.size
                show w.heap.size ≤ a.block
                omega⟩
        have HSC := Lib.hid HS2
        have HMX : Hid (∀ w', RecsAt w' rd rn rc recs → RecssAt w' ms → RecssAt w' (ms ++ [⟨⟨b0, b1, b2, b3, b4, b5, recs⟩, rd, rc⟩])) := fun w' h1 h2 m hm => by
          rcases List.mem_append.1 hm with h3 | h3
          · exact h2 m h3
          · rw [List.mem_singleton.1 h3]
            show RecsAt w' rd recs.length rc recs
            rw [← HRN.out]
            exact h1
        have HEN : Hid (b0 + cnt = endD base (bats (ms ++ [⟨⟨b0, b1, b2, b3, b4, b5, recs⟩, rd, rc⟩]))) := by show _ = _; rw [bats_snoc, end_last (b := ⟨b0, b1, b2, b3, b4, b5, recs⟩) (by simp), hcnt]
        have HKN : Hid (k + on = (flat (bats (ms ++ [⟨⟨b0, b1, b2, b3, b4, b5, recs⟩, rd, rc⟩]))).length) := by show _ = _; rw [bats_snoc, flat_snoc, List.length_append, ← HK.out, HNN.out]
        have HLIT : Hid (∀ W : World, RowAt batK (W.alloc (.cells #[.int .i64 b0, .int .i64 b1, .int .i64 b2, .int .i64 b3, .bool b4, .int .i64 b5, .slice rd rn rc] 51)) (some ⟨W.heap.size, 0, none⟩) 1 1 [⟨⟨b0, b1, b2, b3, b4, b5, recs⟩, rd, rc⟩]) := fun W => by
          rw [HRN.out]
          exact rowAt_lit batK_ok W [⟨⟨b0, b1, b2, b3, b4, b5, recs⟩, rd, rc⟩] (by simp) _ rfl 1 rfl
        obtain ⟨mx, hmx⟩ : ∃ m, m = (⟨⟨b0, b1, b2, b3, b4, b5, recs⟩, rd, rc⟩ : BM) := ⟨_, rfl⟩
        rw [← hmx] at HSC HMX HEN HKN HLIT
        have HMA : Hid (mx.ad = rd) := by show _ = _; rw [hmx]
        have HMR : Hid (mx.b.recs = recs) := by show _ = _; rw [hmx]
        clear hcnt HS2 hmx HG HNN
        have hw1 : IntKind.i64.wrap (b0 + cnt) = b0 + cnt := by rw [IntKind.wrap_i64]; have := HCB.out; have := HB0.out; omega
        have hw2 : IntKind.i64.wrap ((k : Int) + (on : Int)) = (k : Int) + (on : Int) := by rw [IntKind.wrap_i64]; have := HLN.out; omega
        have HBT : Hid (Below w.heap.size w W1) := HS.out.below.trans (HBW.out.mono HS.out.below.size)
        go_upto_region 6 with fail
        have HB6 : Hid (Below W1.heap.size W1 (W1.alloc (.cells #[.int .i64 b0, .int .i64 b1, .int .i64 b2, .int .i64 b3, .bool b4, .int .i64 b5, .slice rd rn rc] 51))) := (Below.refl _ _).alloc (Nat.le_refl _) _
        have HBS : Hid (w.heap.size ≤ (W1.alloc (.cells #[.int .i64 b0, .int .i64 b1, .int .i64 b2, .int .i64 b3, .bool b4, .int .i64 b5, .slice rd rn rc] 51)).heap.size) := Nat.le_trans HBT.out.size HB6.out.size
        have HON := Lib.hid ((HS.out.own.on HBW.out).on HB6.out)
        go_wp2_with (at_builtin; refine list_row (by rfl) batK_ok (.tmp 29) (.tmp 31) rfl w.heap.size ms [mx] (.slice ad1 n1 cap1) rfl HON.out HBS.out (some ⟨W1.heap.size, 0, none⟩) 1 1 rfl (HLIT.out W1) (by rw [HN.out]; omega) ?_)
        intro v6 w6 hap
        obtain ⟨ad6, cap6, hv6, _, _⟩ := OwnRow.row batK_ok hap.1 (n := n1 + 1) (by rw [List.length_append, HN.out]; rfl)
        subst hv6
        have HO6 := Lib.hid (show OwnRow batK w6 w.heap.size (.slice ad6 (n1 + 1) cap6) (ms ++ [mx]) from hap.1)
        have HB7 : Hid (Below w.heap.size w w6) := (HBT.out.trans (HB6.out.mono HBT.out.size)).grown hap.2.1 HBS.out fun q hq => (HON.out.lt q hq).1
        have HOL : Hid (∀ q, (Value.slice ad1 n1 cap1).ownBlock = some q → q < wo.heap.size) := fun q hq => (HS.out.own.lt q hq).2
        have hg1 := hap.2.1
        have hre6 : RecsAt w6 rd rn rc recs := recs_grown (HRE1.out.keep HB6.out) hg1 (.inr fun a ha e => by
          have h1 := HRK.out a ha
          have h2 := HOL.out _ e
          omega)
        have hins6 : RecssAt w6 ms := fun m hm => recs_grown ((HS.out.ins m hm).keep (HBW.out.trans (HB6.out.mono HBW.out.size))) hg1 ((HS.out.sep m hm).imp id fun h a ha e => (h a ha).1 e)
        have HINS := Lib.hid (HMX.out w6 hre6 hins6)
        have hsep : ∀ m ∈ ms ++ [mx], m.b.recs.length = 0 ∨ ∀ a, m.ad = some a → (Value.slice ad6 (n1 + 1) cap6).ownBlock ≠ some a.block ∧ a.block < w6.heap.size := by
          intro m hm
          have hcase : m.b.recs.length = 0 ∨ ∀ a, m.ad = some a → a.block < W1.heap.size ∧ (Value.slice ad1 n1 cap1).ownBlock ≠ some a.block := by
            rcases List.mem_append.1 hm with h3 | h3
            · refine (HS.out.sep m h3).imp id fun h a ha => ?_
              have h4 := h a ha
              have h5 := HBW.out.size
              exact ⟨by omega, h4.1⟩
            · obtain rfl := List.mem_singleton.1 h3
              rcases HRE1.out.cells with h0 | ⟨bk, off, e, hlt, _⟩
              · exact .inl (by rw [HMR.out, ← HRN.out]; exact h0)
              · refine .inr fun a ha => ?_
                rw [HMA.out] at ha
                have h6 := HRK.out a ha
                rw [e] at ha
                cases ha
                exact ⟨hlt, fun e2 => by have := HOL.out _ e2; omega⟩
          refine hcase.imp id fun hc a ha => ?_
          have hcase := hc a ha
          refine ⟨fun e => ?_, ?_⟩
          · rcases hap.2.2.2 _ e with h6 | h6
            · exact hcase.2 h6
            · have := HB6.out.size
              omega
          · have h7 := hg1.size
            have h8 := HB6.out.size
            omega
        have HSEP := Lib.hid hsep
        have HX6 : Hid (BoxAt w6 kb b0 b1 b2 b3 b4 b5 (.slice rd rn rc)) := by
          show w6.heap[kb]? = _
          rw [hg1.block kb (by have := HX1.out.lt; have := HB6.out.size; omega) (fun e => by have := HOL.out kb e.symm; have := HKB0.out; omega)]
          exact HX1.out.on HB6.out
        clear hap hg1 hre6 hins6 hsep
        have HS6 := Lib.hid (HSC.out w6 _ HB7.out HO6.out HINS.out HSEP.out)
        have HSMALL : Hid (n1 + 1 ≤ 10000) := by show _ ≤ _; have := HS.out.at_most; rw [HN.out, HPL.out] at this; omega
        have HNL : Hid ((ms ++ [mx]).length = n1 + 1) := by show _ = _; rw [List.length_append, HN.out]; rfl
        clear HO6 HB7 HINS HSEP HON HBS HB6 q0 q1 q2 q3 q4 q5 q6
        have q0 := HX6.out.c0
        have q1 := HX6.out.c1
        have q2 := HX6.out.c2
        have q3 := HX6.out.c3
        have q4 := HX6.out.c4
        have q5 := HX6.out.c5
        have q6 := HX6.out.c6
        go_wp2_with fail
        refine (refCount_any w6 b0 b1 b2 b3 b4 b5 rd rn rc cnt HCN.out).mono ?_
        rintro e w7 ⟨rfl, hb7⟩
        have HS7 := Lib.hid (HS6.out.on hb7)
        clear hb7 q0 q1 q2 q3 q4 q5 q6
        go_wp2_with fail
        go_roundw
        case rel => exact ⟨ad6, n1 + 1, cap6, k + on, b0 + cnt, ms ++ [mx], rfl, by go_num, rfl, by have := HLN.out; omega, HSMALL.out, HNL.out, HEN.out, HKN.out, HS7.out⟩
        case measure =>
          have := HLN.out
          simp [lenB]
          omega
      · have hne : (b0 != z) = true := by simpa using hbz
        have hfin : ∀ b, BatMath.Good r b → b.base ≠ z := fun b hb => by
          have := (HO.out.all b hb).2
          rw [← this]
          exact hbz
        have HF := Lib.hid hfin
        clear hfin
        go_wp2_with fail
        go_ret2
        exact HS.out.done HN.out HBW.out (by rw [← HK.out, ← HRR.out, ← HZ.out]; exact HF.out) k HK.out
    · have hne : (oe != 0) = true := by simpa using he
      have hfin : ∀ b, BatMath.Good r b → b.base ≠ z := fun b hb => absurd (HO.out.all b hb).1 he
      have HF := Lib.hid hfin
      clear hfin
      go_wp2_with fail
      go_ret2
      exact HS.out.done HN.out HBW.out (by rw [← HK.out, ← HRR.out, ← HZ.out]; exact HF.out) k HK.out
end Go.Proofs.Ytlcnpeodhfdhlaa

/-! The document's own Rows; a book's Bytes. -/
namespace Go.Proofs.Ytlcnpeodhfdhlaa
open Go.RowKit
open Go.ProdMath
open Go.SegMath
open Go.BatMath hiding AllB getD_lt take_all
set_option linter.unusedVariables false

theorem take_more {α : Type} {l m : List α} {i : Nat} {x y : α} (h : l.take i = m.take i) (hx : l[i]? = some x) (hy : m[i]? = some y) (e : x = y) : l.take (i + 1) = m.take (i + 1) := by
  obtain ⟨h1, e1⟩ := List.getElem?_eq_some_iff.1 hx
  obtain ⟨h2, e2⟩ := List.getElem?_eq_some_iff.1 hy
  rw [List.take_succ_eq_append_getElem h1, List.take_succ_eq_append_getElem h2, h, e1, e2, e]
set_option maxRecDepth 100000 in
set_option maxHeartbeats 8000000 in
theorem refRows_any (w : World) (ad1 ad2 : Option Addr) (n1 n2 cap1 cap2 : Nat) (ms1 ms2 : List BM) (h1 : BatsAt w ad1 n1 cap1 ms1) (h2 : BatsAt w ad2 n2 cap2 ms2) (hL : n1 ≤ 140737488355328) (hs : ∀ m ∈ ms1, m.b.recs.length ≤ 140737488355328) (r : Bool) (hr : r = true ↔ bats ms1 = bats ms2) :
    Calls Try.prog 15 #[.slice ad1 n1 cap1, .slice ad2 n2 cap2] w fun e w' => e = .returned (.bool r) ∧ Below w.heap.size w w' := by
  have H1 := Lib.hid h1
  have H2 := Lib.hid h2
  have HR := Lib.hid hr
  have HS := Lib.hid hs
  have hl1 := h1.row.length
  have hl2 := h2.row.length
  have HL1 := Lib.hid hl1
  have HL2 := Lib.hid hl2
  clear h1 h2 hr hs
  go_enter Try.func15, Try.ntmps15
  by_cases hn : n1 = n2
  rotate_left
  · have hne : ((n1 : Int) != (n2 : Int)) = true := by simp; omega
    have HF : Hid (r = false) := by
      cases hrr : r
      · rfl
      · have := congrArg List.length (HR.out.1 hrr)
        rw [bats_len, bats_len] at this
        omega
    clear hl1 hl2
    go_wp2_with fail
    go_ret
    exact ⟨by rw [HF.out]; rfl, Below.refl _ w⟩
  subst hn
  clear hl1 hl2
  go_wp2_with fail
  go_loopw [13] (fun v13 wr => ∃ i : Nat, v13 = .int .i64 (i : Int) ∧ i ≤ n1 ∧ Hid ((bats ms1).take i = (bats ms2).take i) ∧ Hid (Below w.heap.size w wr)) (fun v13 _ => n1 - (intOf v13).toNat)
  case atStart => exact ⟨0, rfl, Nat.zero_le _, rfl, Below.refl _ w⟩
  case round =>
    obtain ⟨i, rfl, hin, HE, HB⟩ := hrel
    obtain ⟨wo, hwo⟩ : ∃ wo : World, wo = wr := ⟨_, rfl⟩
    subst hwo
    by_cases hlt : i < n1
    · have hd : decide (i < n1) = true := decide_eq_true hlt
      have hij : (i : Int) < (n1 : Int) := by omega
      obtain ⟨bx, ox, mx, ex, hbx, hmx, hrx, x0, x1, x2, x3, x4, x5, x6⟩ := H1.out.get hlt
      obtain ⟨by_, oy, my, ey, hby, hmy, hry, y0, y1, y2, y3, y4, y5, y6⟩ := H2.out.get hlt
      subst ex ey
      have HMX := Lib.hid hmx
      have HMY := Lib.hid hmy
      have HRX := Lib.hid hrx
      have HRY := Lib.hid hry
      obtain ⟨q, hq⟩ : ∃ q : Bool, q = true ↔ mx.b = my.b := ⟨@decide _ (Classical.propDecidable (mx.b = my.b)), by simp⟩
      have HQ := Lib.hid hq
      have HSX : Hid (mx.b.recs.length ≤ 140737488355328) := HS.out mx (List.mem_of_getElem? hmx)
      have HC : Hid (∀ V, Below w.heap.size w V → (V.cell? ⟨bx, ox + i * 7, none⟩ = some (.int .i64 mx.b.base) ∧ V.cell? ⟨bx, ox + i * 7 + 1, none⟩ = some (.int .i64 mx.b.prod) ∧ V.cell? ⟨bx, ox + i * 7 + 2, none⟩ = some (.int .i64 mx.b.epoch) ∧ V.cell? ⟨bx, ox + i * 7 + 3, none⟩ = some (.int .i64 mx.b.seq) ∧ V.cell? ⟨bx, ox + i * 7 + 4, none⟩ = some (.bool mx.b.txn) ∧ V.cell? ⟨bx, ox + i * 7 + 5, none⟩ = some (.int .i64 mx.b.marker) ∧ V.cell? ⟨bx, ox + i * 7 + 6, none⟩ = some (.slice mx.ad mx.b.recs.length mx.cap)) ∧ (V.cell? ⟨by_, oy + i * 7, none⟩ = some (.int .i64 my.b.base) ∧ V.cell? ⟨by_, oy + i * 7 + 1, none⟩ = some (.int .i64 my.b.prod) ∧ V.cell? ⟨by_, oy + i * 7 + 2, none⟩ = some (.int .i64 my.b.epoch) ∧ V.cell? ⟨by_, oy + i * 7 + 3, none⟩ = some (.int .i64 my.b.seq) ∧ V.cell? ⟨by_, oy + i * 7 + 4, none⟩ = some (.bool my.b.txn) ∧ V.cell? ⟨by_, oy + i * 7 + 5, none⟩ = some (.int .i64 my.b.marker) ∧ V.cell? ⟨by_, oy + i * 7 + 6, none⟩ = some (.slice my.ad my.b.recs.length my.cap))) := fun V hV =>
        ⟨⟨(hV.cell (p := ⟨bx, _, none⟩) hbx).trans x0, (hV.cell (p := ⟨bx, _, none⟩) hbx).trans x1, (hV.cell (p := ⟨bx, _, none⟩) hbx).trans x2, (hV.cell (p := ⟨bx, _, none⟩) hbx).trans x3, (hV.cell (p := ⟨bx, _, none⟩) hbx).trans x4, (hV.cell (p := ⟨bx, _, none⟩) hbx).trans x5, (hV.cell (p := ⟨bx, _, none⟩) hbx).trans x6⟩, ⟨(hV.cell (p := ⟨by_, _, none⟩) hby).trans y0, (hV.cell (p := ⟨by_, _, none⟩) hby).trans y1, (hV.cell (p := ⟨by_, _, none⟩) hby).trans y2, (hV.cell (p := ⟨by_, _, none⟩) hby).trans y3, (hV.cell (p := ⟨by_, _, none⟩) hby).trans y4, (hV.cell (p := ⟨by_, _, none⟩) hby).trans y5, (hV.cell (p := ⟨by_, _, none⟩) hby).trans y6⟩⟩
      clear hmx hmy hrx hry hq x0 x1 x2 x3 x4 x5 x6 y0 y1 y2 y3 y4 y5 y6 hbx hby
      obtain ⟨⟨a0, a1, a2, a3, a4, a5, arecs⟩, ad, ac⟩ := mx
      obtain ⟨⟨c0, c1, c2, c3, c4, c5, crecs⟩, cd, cc⟩ := my
      simp only at HC HRX HRY HSX HQ
      obtain ⟨an, han⟩ : ∃ n, n = arecs.length := ⟨_, rfl⟩
      obtain ⟨cn, hcn⟩ : ∃ n, n = crecs.length := ⟨_, rfl⟩
      rw [← han, ← hcn] at HC
      have HRX2 : Hid (RecsAt w ad an ac arecs) := by show RecsAt _ _ _ _ _; rw [han]; exact HRX.out
      have HRY2 : Hid (RecsAt w cd cn cc crecs) := by show RecsAt _ _ _ _ _; rw [hcn]; exact HRY.out
      have HAN : Hid (an ≤ 140737488355328) := by show an ≤ _; rw [han]; exact HSX.out
      clear HRX HRY HSX han hcn
      go_upto_region 6 with fail
      have hdr : Below wo.heap.size wo wo.drew := (Below.refl _ wo).drew
      have KS : Hid (∀ V, Below wo.heap.size wo V → (fun (V : World) => (V.cell? ⟨bx, ox + i * 7, none⟩ = some (.int .i64 a0) ∧ V.cell? ⟨bx, ox + i * 7 + 1, none⟩ = some (.int .i64 a1) ∧ V.cell? ⟨bx, ox + i * 7 + 2, none⟩ = some (.int .i64 a2) ∧ V.cell? ⟨bx, ox + i * 7 + 3, none⟩ = some (.int .i64 a3) ∧ V.cell? ⟨bx, ox + i * 7 + 4, none⟩ = some (.bool a4) ∧ V.cell? ⟨bx, ox + i * 7 + 5, none⟩ = some (.int .i64 a5) ∧ V.cell? ⟨bx, ox + i * 7 + 6, none⟩ = some (.slice ad an ac)) ∧ (V.cell? ⟨by_, oy + i * 7, none⟩ = some (.int .i64 c0) ∧ V.cell? ⟨by_, oy + i * 7 + 1, none⟩ = some (.int .i64 c1) ∧ V.cell? ⟨by_, oy + i * 7 + 2, none⟩ = some (.int .i64 c2) ∧ V.cell? ⟨by_, oy + i * 7 + 3, none⟩ = some (.int .i64 c3) ∧ V.cell? ⟨by_, oy + i * 7 + 4, none⟩ = some (.bool c4) ∧ V.cell? ⟨by_, oy + i * 7 + 5, none⟩ = some (.int .i64 c5) ∧ V.cell? ⟨by_, oy + i * 7 + 6, none⟩ = some (.slice cd cn cc))) V) := fun V hV => HC.out V (HB.out.trans (hV.mono HB.out.size))
      refine wp_region_noPanic ?_
      refine wp_region_z [] (fun (V : World) => (V.cell? ⟨bx, ox + i * 7, none⟩ = some (.int .i64 a0) ∧ V.cell? ⟨bx, ox + i * 7 + 1, none⟩ = some (.int .i64 a1) ∧ V.cell? ⟨bx, ox + i * 7 + 2, none⟩ = some (.int .i64 a2) ∧ V.cell? ⟨bx, ox + i * 7 + 3, none⟩ = some (.int .i64 a3) ∧ V.cell? ⟨bx, ox + i * 7 + 4, none⟩ = some (.bool a4) ∧ V.cell? ⟨bx, ox + i * 7 + 5, none⟩ = some (.int .i64 a5) ∧ V.cell? ⟨bx, ox + i * 7 + 6, none⟩ = some (.slice ad an ac)) ∧ (V.cell? ⟨by_, oy + i * 7, none⟩ = some (.int .i64 c0) ∧ V.cell? ⟨by_, oy + i * 7 + 1, none⟩ = some (.int .i64 c1) ∧ V.cell? ⟨by_, oy + i * 7 + 2, none⟩ = some (.int .i64 c2) ∧ V.cell? ⟨by_, oy + i * 7 + 3, none⟩ = some (.int .i64 c3) ∧ V.cell? ⟨by_, oy + i * 7 + 4, none⟩ = some (.bool c4) ∧ V.cell? ⟨by_, oy + i * 7 + 5, none⟩ = some (.int .i64 c5) ∧ V.cell? ⟨by_, oy + i * 7 + 6, none⟩ = some (.slice cd cn cc))) (by kernel_rfl) ?_
      have hHeld : (fun (V : World) => (V.cell? ⟨bx, ox + i * 7, none⟩ = some (.int .i64 a0) ∧ V.cell? ⟨bx, ox + i * 7 + 1, none⟩ = some (.int .i64 a1) ∧ V.cell? ⟨bx, ox + i * 7 + 2, none⟩ = some (.int .i64 a2) ∧ V.cell? ⟨bx, ox + i * 7 + 3, none⟩ = some (.int .i64 a3) ∧ V.cell? ⟨bx, ox + i * 7 + 4, none⟩ = some (.bool a4) ∧ V.cell? ⟨bx, ox + i * 7 + 5, none⟩ = some (.int .i64 a5) ∧ V.cell? ⟨bx, ox + i * 7 + 6, none⟩ = some (.slice ad an ac)) ∧ (V.cell? ⟨by_, oy + i * 7, none⟩ = some (.int .i64 c0) ∧ V.cell? ⟨by_, oy + i * 7 + 1, none⟩ = some (.int .i64 c1) ∧ V.cell? ⟨by_, oy + i * 7 + 2, none⟩ = some (.int .i64 c2) ∧ V.cell? ⟨by_, oy + i * 7 + 3, none⟩ = some (.int .i64 c3) ∧ V.cell? ⟨by_, oy + i * 7 + 4, none⟩ = some (.bool c4) ∧ V.cell? ⟨by_, oy + i * 7 + 5, none⟩ = some (.int .i64 c5) ∧ V.cell? ⟨by_, oy + i * 7 + 6, none⟩ = some (.slice cd cn cc))) _ := KS.out _ hdr
      obtain ⟨u0, hu0⟩ : ∃ u, u = wo.drew := ⟨_, rfl⟩
      rw [← hu0] at hHeld hdr
      rw [← hu0]
      clear hu0
      have HQ0 := Lib.hid hdr
      clear hdr
      refine wpAnyZ_take (i := 0) (oi := ⟨_, _, _, _, _, _⟩) (v := ?_) rfl (by kernel_rfl) (by kernel_rfl) (by kernel_rfl) (by kernel_rfl) (by kernel_rfl) (fun _ _ _ h => h) (Or.inl ⟨by rfl, ?_⟩) (by assumption) ?_
      rotate_left
      · intro W hSw
        (try dsimp only at hSw)
        go_simp
        (try with_reducible rfl)
      (try simp only [Act.put, List.setIfInBounds_toArray, List.set_cons_zero, List.set_cons_succ])
      refine wpAnyZ_take (i := 1) (oi := ⟨_, _, _, _, _, _⟩) (v := ?_) rfl (by kernel_rfl) (by kernel_rfl) (by kernel_rfl) (by kernel_rfl) (by kernel_rfl) (fun _ _ _ h => h) (Or.inl ⟨by rfl, ?_⟩) (by assumption) ?_
      rotate_left
      · intro W hSw
        (try dsimp only at hSw)
        go_simp
        (try with_reducible rfl)
      (try simp only [Act.put, List.setIfInBounds_toArray, List.set_cons_zero, List.set_cons_succ])
      refine wpAnyZ_take (i := 2) (oi := ⟨_, _, _, _, _, _⟩) (v := ?_) rfl (by kernel_rfl) (by kernel_rfl) (by kernel_rfl) (by kernel_rfl) (by kernel_rfl) (fun _ _ _ h => h) (Or.inl ⟨by rfl, ?_⟩) (by assumption) ?_
      rotate_left
      · intro W hSw
        (try dsimp only at hSw)
        go_simp
        (try with_reducible rfl)
      (try simp only [Act.put, List.setIfInBounds_toArray, List.set_cons_zero, List.set_cons_succ])
      refine wpAnyZ_take (i := 3) (oi := ⟨_, _, _, _, _, _⟩) (v := ?_) rfl (by kernel_rfl) (by kernel_rfl) (by kernel_rfl) (by kernel_rfl) (by kernel_rfl) (fun _ _ _ h => h) (Or.inl ⟨by rfl, ?_⟩) (by assumption) ?_
      rotate_left
      · intro W hSw
        (try dsimp only at hSw)
        go_simp
        (try with_reducible rfl)
      (try simp only [Act.put, List.setIfInBounds_toArray, List.set_cons_zero, List.set_cons_succ])
      refine wpAnyZ_take (i := 4) (oi := ⟨_, _, _, _, _, _⟩) (v := ?_) rfl (by kernel_rfl) (by kernel_rfl) (by kernel_rfl) (by kernel_rfl) (by kernel_rfl) (fun _ _ _ h => h) (Or.inl ⟨by rfl, ?_⟩) (by assumption) ?_
      rotate_left
      · intro W hSw
        (try dsimp only at hSw)
        go_simp
        (try with_reducible rfl)
      (try simp only [Act.put, List.setIfInBounds_toArray, List.set_cons_zero, List.set_cons_succ])
      refine wpAnyZ_take (i := 5) (oi := ⟨_, _, _, _, _, _⟩) (v := ?_) rfl (by kernel_rfl) (by kernel_rfl) (by kernel_rfl) (by kernel_rfl) (by kernel_rfl) (fun _ _ _ h => h) (Or.inl ⟨by rfl, ?_⟩) (by assumption) ?_
      rotate_left
      · intro W hSw
        (try dsimp only at hSw)
        go_simp
        (try with_reducible rfl)
      (try simp only [Act.put, List.setIfInBounds_toArray, List.set_cons_zero, List.set_cons_succ])
      refine wpAnyZ_take (i := 6) (oi := ⟨_, _, _, _, _, _⟩) (v := ?_) rfl (by kernel_rfl) (by kernel_rfl) (by kernel_rfl) (by kernel_rfl) (by kernel_rfl) (fun _ _ _ h => h) (Or.inl ⟨by rfl, ?_⟩) (by assumption) ?_
      rotate_left
      · intro W hSw
        (try dsimp only at hSw)
        go_simp
        (try with_reducible rfl)
      (try simp only [Act.put, List.setIfInBounds_toArray, List.set_cons_zero, List.set_cons_succ])
      refine wpAnyZ_take (i := 7) (oi := ⟨_, _, _, _, _, _⟩) (v := ?_) rfl (by kernel_rfl) (by kernel_rfl) (by kernel_rfl) (by kernel_rfl) (by kernel_rfl) (fun _ _ _ h => h) (Or.inl ⟨by rfl, ?_⟩) (by assumption) ?_
      rotate_left
      · intro W hSw
        (try dsimp only at hSw)
        go_simp
        (try with_reducible rfl)
      (try simp only [Act.put, List.setIfInBounds_toArray, List.set_cons_zero, List.set_cons_succ])
      refine wpAnyZ_ready (rs := [8]) (by kernel_rfl) (by simp) ?_
      refine AllReadyZ.cons (o := ⟨_, _, _, _, _, _⟩) rfl (fun C hC => ?_) AllReadyZ.nil
      go_simp
      refine (refSame_any u0 ⟨a0, a1, a2, a3, a4, a5, arecs⟩ ⟨c0, c1, c2, c3, c4, c5, crecs⟩ ad cd an cn ac cc (HRX2.out.keep (HB.out.trans (HQ0.out.mono HB.out.size))) (HRY2.out.keep (HB.out.trans (HQ0.out.mono HB.out.size))) HAN.out q HQ.out).mono ?_
      rintro e u1 ⟨rfl, hb1⟩
      have HQ1 : Hid (Below wo.heap.size wo u1) := HQ0.out.trans (hb1.mono HQ0.out.size)
      clear hb1
      have hHeld : (fun (V : World) => (V.cell? ⟨bx, ox + i * 7, none⟩ = some (.int .i64 a0) ∧ V.cell? ⟨bx, ox + i * 7 + 1, none⟩ = some (.int .i64 a1) ∧ V.cell? ⟨bx, ox + i * 7 + 2, none⟩ = some (.int .i64 a2) ∧ V.cell? ⟨bx, ox + i * 7 + 3, none⟩ = some (.int .i64 a3) ∧ V.cell? ⟨bx, ox + i * 7 + 4, none⟩ = some (.bool a4) ∧ V.cell? ⟨bx, ox + i * 7 + 5, none⟩ = some (.int .i64 a5) ∧ V.cell? ⟨bx, ox + i * 7 + 6, none⟩ = some (.slice ad an ac)) ∧ (V.cell? ⟨by_, oy + i * 7, none⟩ = some (.int .i64 c0) ∧ V.cell? ⟨by_, oy + i * 7 + 1, none⟩ = some (.int .i64 c1) ∧ V.cell? ⟨by_, oy + i * 7 + 2, none⟩ = some (.int .i64 c2) ∧ V.cell? ⟨by_, oy + i * 7 + 3, none⟩ = some (.int .i64 c3) ∧ V.cell? ⟨by_, oy + i * 7 + 4, none⟩ = some (.bool c4) ∧ V.cell? ⟨by_, oy + i * 7 + 5, none⟩ = some (.int .i64 c5) ∧ V.cell? ⟨by_, oy + i * 7 + 6, none⟩ = some (.slice cd cn cc))) u1 := KS.out _ HQ1.out
      refine hC.out _ _ (fun _ => hHeld) (fun _ => ?_)
      clear hC C
      (try simp only [Act.put, List.setIfInBounds_toArray, List.set_cons_zero, List.set_cons_succ])
      refine wpAnyZ_take (i := 9) (oi := ⟨_, _, _, _, _, _⟩) (v := ?_) rfl (by kernel_rfl) (by kernel_rfl) (by kernel_rfl) (by kernel_rfl) (by kernel_rfl) (fun _ _ _ h => h) (Or.inl ⟨by rfl, ?_⟩) (by assumption) ?_
      rotate_left
      · intro W hSw
        (try dsimp only at hSw)
        go_simp
        (try with_reducible rfl)
      (try simp only [Act.put, List.setIfInBounds_toArray, List.set_cons_zero, List.set_cons_succ])
      refine wpAnyZ_done (by kernel_rfl) ?_ _
      refine NoPanic.normal ?_
      clear hHeld KS
      cases q
      · have HF : Hid (r = false) := by
          cases hrr : r
          · rfl
          · have h3 := HR.out.1 hrr
            have h4 : (bats ms1)[i]? = some (⟨a0, a1, a2, a3, a4, a5, arecs⟩ : Bat) := by unfold bats; rw [List.getElem?_map, HMX.out]; rfl
            have h5 : (bats ms2)[i]? = some (⟨c0, c1, c2, c3, c4, c5, crecs⟩ : Bat) := by unfold bats; rw [List.getElem?_map, HMY.out]; rfl
            rw [h3, h5] at h4
            have h6 := HQ.out.2 (Option.some.inj h4).symm
            cases h6
        go_wp2_with fail
        go_ret
        exact ⟨by rw [HF.out]; rfl, HB.out.trans (HQ1.out.mono HB.out.size)⟩
      · have HT : Hid ((bats ms1).take (i + 1) = (bats ms2).take (i + 1)) := by
          refine take_more HE.out (x := ⟨a0, a1, a2, a3, a4, a5, arecs⟩) (y := ⟨c0, c1, c2, c3, c4, c5, crecs⟩) ?_ ?_ (HQ.out.1 rfl)
          · unfold bats; rw [List.getElem?_map, HMX.out]; rfl
          · unfold bats; rw [List.getElem?_map, HMY.out]; rfl
        go_wp2_with fail
        go_roundw
        case rel => exact ⟨i + 1, by go_num, by omega, HT.out, HB.out.trans (HQ1.out.mono HB.out.size)⟩
        case measure => simp [intOf]; omega
    · have hd : decide (i < n1) = false := decide_eq_false hlt
      have HT : Hid (r = true) := by
        refine HR.out.2 ?_
        have h3 := HE.out
        rw [List.take_of_length_le (by rw [bats_len, HL1.out]; omega), List.take_of_length_le (by rw [bats_len, HL2.out]; omega)] at h3
        exact h3
      go_wp2_with fail
      go_ret
      exact ⟨by rw [HT.out]; rfl, HB.out⟩
/-- Bytes so far. -/
structure Flat8 (w wr : World) (v : Value) (l : List Bat) (i : Nat) : Prop where
  below : Below w.heap.size w wr
  own : OwnRow byteK wr w.heap.size v (flat (l.take i))
/-- What Bytes gives. -/
def GivesFlat (w : World) (l : List Bat) (n : Nat) (e : Ending) (w' : World) : Prop :=
  ∃ ad cap, e = .returned (.slice ad n cap) ∧ Hid (Row w' ad n cap (flat l)) ∧ Hid (OwnRow byteK w' w.heap.size (.slice ad n cap) (flat l)) ∧ Hid (Below w.heap.size w w')
set_option maxRecDepth 100000 in
set_option maxHeartbeats 8000000 in
theorem keepBytes_any (w : World) (ad : Option Addr) (n cap : Nat) (ms : List BM) (h : BatsAt w ad n cap ms) (hL : n ≤ 10000) (hok : RowOk (bats ms)) (N : Nat) (hN : (flat (bats ms)).length = N) :
    Calls Try.prog 9 #[.slice ad n cap] w (GivesFlat w (bats ms) N) := by
  have H := Lib.hid h
  have HOK := Lib.hid hok
  have HN := Lib.hid hN
  have HL : Hid (ms.length = n) := h.row.length
  have HBY0 : Hid (Flat8 w w (.slice none 0 0) (bats ms) 0) := ⟨Below.refl _ w, ownRow_nil _ _ _⟩
  clear h hok hN
  go_enter Try.func9, Try.ntmps9
  go_wp2_with fail
  go_loopw [3, 10] (fun v3 v10 wr => ∃ (i : Nat) (ad3 : Option Addr) (k3 cap3 : Nat), v10 = .int .i64 (i : Int) ∧ v3 = .slice ad3 k3 cap3 ∧ i ≤ n ∧ k3 ≤ 2404 * i ∧ Hid (k3 = (flat ((bats ms).take i)).length) ∧ Hid (Flat8 w wr (.slice ad3 k3 cap3) (bats ms) i)) (fun _ v10 _ => n - (intOf v10).toNat)
  case atStart => exact ⟨0, none, 0, 0, rfl, rfl, Nat.zero_le _, Nat.zero_le _, rfl, HBY0.out⟩
  case round =>
    obtain ⟨i, ad3, k3, cap3, rfl, rfl, hin, hk3, HK3, HBI⟩ := hrel
    obtain ⟨wo, hwo⟩ : ∃ wo : World, wo = wr := ⟨_, rfl⟩
    subst hwo
    clear HBY0
    by_cases hlt : i < n
    · have hd : decide (i < n) = true := decide_eq_true hlt
      have hij : (i : Int) < (n : Int) := by omega
      obtain ⟨bx, ox, mx, ex, hbx, hmx, hrx, x0, x1, x2, x3, x4, x5, x6⟩ := (H.out.keep HBI.out.below).get hlt
      subst ex
      have HMX := Lib.hid hmx
      have hin' : mx.b ∈ bats ms := List.mem_map.2 ⟨mx, List.mem_of_getElem? hmx, rfl⟩
      have HRT := Lib.hid (HOK.out mx.b hin')
      have HRX := Lib.hid hrx
      have HTK : Hid (flat ((bats ms).take (i + 1)) = flat ((bats ms).take i) ++ bytesB mx.b) := by
        show _ = _
        have : (bats ms)[i]? = some mx.b := by unfold bats; rw [List.getElem?_map, hmx]; rfl
        obtain ⟨h3, e3⟩ := List.getElem?_eq_some_iff.1 this
        rw [List.take_succ_eq_append_getElem h3, flat_snoc, e3]
      obtain ⟨Q, hQ⟩ : ∃ Q, Q = (bytesB mx.b).length := ⟨_, rfl⟩
      have HQL : Hid (36 ≤ Q ∧ Q ≤ 2404) := by show _ ∧ _; rw [hQ]; have := ok_len (ok_of HRT.out.1); omega
      have HQ := Lib.hid hQ
      have CB : Hid (∀ W, Below wo.heap.size wo W → Calls Try.prog 22 #[.agg #[.int .i64 mx.b.base, .int .i64 mx.b.prod, .int .i64 mx.b.epoch, .int .i64 mx.b.seq, .bool mx.b.txn, .int .i64 mx.b.marker, .slice mx.ad mx.b.recs.length mx.cap]] W fun e w' => ∃ g c, e = .returned (.tuple #[.slice (some ⟨g, 0, none⟩) Q c, .int .i64 0]) ∧ Hid (RowAt byteK w' (some ⟨g, 0, none⟩) Q c (bytesB mx.b)) ∧ Hid (Below W.heap.size W w')) := fun W hW => by
        have ho := ok_of HRT.out.1
        refine (refBytes_any W mx.b mx.ad mx.b.recs.length mx.cap (HRX.out.keep hW) (texts_of ho.texts) (by have := ho.recs; omega) HRT.out.2.prod.2).mono ?_
        rintro e w' (⟨_, g, c, rfl, h, hb⟩ | ⟨hne, _, _⟩)
        · refine ⟨g, c, by rw [HQ.out], ?_, hb⟩
          show RowAt _ _ _ _ _ _
          rw [HQ.out]
          exact row_bytes (owns_row h (bytes_all ho))
        · exact absurd HRT.out.1 hne
      obtain ⟨⟨a0, a1, a2, a3, a4, a5, arecs⟩, rd, ac⟩ := mx
      simp only at CB x0 x1 x2 x3 x4 x5 x6 hQ
      obtain ⟨an, han⟩ : ∃ n, n = arecs.length := ⟨_, rfl⟩
      rw [← han] at CB x6
      clear hmx hin' hrx hQ HRX han HQ
      go_upto_region 5 with fail
      obtain ⟨W1, hW1⟩ : ∃ z, z = wo.alloc (.cells #[.int .i64 a0, .int .i64 a1, .int .i64 a2, .int .i64 a3, .bool a4, .int .i64 a5, .slice rd an ac] 51) := ⟨_, rfl⟩
      obtain ⟨kb, hkb⟩ : ∃ z, z = wo.heap.size := ⟨_, rfl⟩
      have hbb : Below wo.heap.size wo W1 := by rw [hW1]; exact (Below.refl _ _).alloc (Nat.le_refl _) _
      have HX1 : Hid (BoxAt W1 kb a0 a1 a2 a3 a4 a5 (.slice rd an ac)) := by show BoxAt _ _ _ _ _ _ _ _ _; rw [hW1, hkb]; exact boxAt_new wo _ _ _ _ _ _ _
      have HBW := Lib.hid hbb
      rw [← hW1, ← hkb]
      clear hW1 hkb hbb x0 x1 x2 x3 x4 x5 x6
      have p0 := HX1.out.c0
      have p1 := HX1.out.c1
      have p2 := HX1.out.c2
      have p3 := HX1.out.c3
      have p4 := HX1.out.c4
      have p5 := HX1.out.c5
      have p6 := HX1.out.c6
      go_wp2_with fail
      refine (CB.out W1 HBW.out).mono ?_
      rintro e w2 ⟨g, c, rfl, HRW, HB2⟩
      have HBT : Hid (Below wo.heap.size wo w2) := HBW.out.trans (HB2.out.mono HBW.out.size)
      have HBV : Hid (Below w.heap.size w w2) := HBI.out.below.trans (HBT.out.mono HBI.out.below.size)
      have HO2 := Lib.hid (HBI.out.own.on HBT.out)
      clear HBW HB2 CB p0 p1 p2 p3 p4 p5 p6
      go_wp2_with (at_builtin; refine list_row (by rfl) byteK_ok (.tmp 19) (.tmp 20) rfl w.heap.size (flat ((bats ms).take i)) (bytesB ⟨a0, a1, a2, a3, a4, a5, arecs⟩) (.slice ad3 k3 cap3) rfl HO2.out HBV.out.size (some ⟨g, 0, none⟩) Q c rfl HRW.out (by rw [← HK3.out]; have := HQL.out; omega) ?_)
      intro v3 w3 hap
      have hnl : (flat ((bats ms).take i) ++ bytesB ⟨a0, a1, a2, a3, a4, a5, arecs⟩).length = k3 + Q := by rw [List.length_append, ← HK3.out, HRW.out.length]
      obtain ⟨ad4, cap4, hv4, _, _⟩ := OwnRow.row byteK_ok hap.1 (n := k3 + Q) hnl
      subst hv4
      have HO3 : Hid (OwnRow byteK w3 w.heap.size (.slice ad4 (k3 + Q) cap4) (flat ((bats ms).take (i + 1)))) := by show OwnRow _ _ _ _ _; rw [HTK.out]; exact hap.1
      have HKN : Hid (k3 + Q = (flat ((bats ms).take (i + 1))).length) := by show _ = _; rw [HTK.out]; exact hnl.symm
      have HB3 : Hid (Below w.heap.size w w3) := HBV.out.grown hap.2.1 HBV.out.size fun q hq => (HO2.out.lt q hq).1
      clear hap hnl
      go_wp2_with fail
      go_roundw
      case rel => exact ⟨i + 1, ad4, k3 + Q, cap4, by go_num, rfl, by omega, by have := HQL.out; omega, HKN.out, HB3.out, HO3.out⟩
      case measure => simp [intOf]; omega
    · have hd : decide (i < n) = false := decide_eq_false hlt
      have hfull : (bats ms).take i = bats ms := List.take_of_length_le (by rw [bats_len, HL.out]; omega)
      have hkN : k3 = N := by rw [HK3.out, hfull]; exact HN.out
      subst hkN
      have HO := HBI.out.own
      rw [hfull] at HO
      have HOO := Lib.hid HO
      obtain ⟨ad4, cap4, e4, hr4⟩ := own_byt HO (flat_all HOK.out) (n := k3) (by rw [HN.out])
      cases e4
      have HRR := Lib.hid hr4
      clear hr4 HO hfull
      go_wp2_with fail
      go_ret
      exact ⟨ad3, cap3, rfl, HRR.out, HOO.out, HBI.out.below⟩
end Go.Proofs.Ytlcnpeodhfdhlaa
