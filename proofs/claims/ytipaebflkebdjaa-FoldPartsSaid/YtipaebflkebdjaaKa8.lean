/- Parts of a proof, merged: FoGots, Least, TabOpenR, FoStable, SegN, MapAs, TcMem, TcGet, PrDup, PrCheck, PrApply, TcCheck. -/
import Derived.Deep.QuietTactic
import Derived.BigQuiet
import Derived.Maps.RangeRun
import Derived.Maps.RangeWalk
import Derived.Maps.Keyed
import Derived.Lib.SliceRun
import Derived.Test.YtipaebflkebdjaaKa7
import Derived.Test.YtipaebflkebdjaaKa3
import Derived.Test.YtipaebflkebdjaaKa1
import Derived.Test.YtipaebflkebdjaaKa6
import Derived.Test.YtipaebflkebdjaaKa4
import Derived.Test.YtipaebflkebdjaaKa5
namespace Go.Proofs.Ytipaebflkebdjaa
open Go.RowKit
open Go.FoMath
open Go.ProdMath
open Go.BatMath hiding AllB getD_lt take_all
set_option linter.unusedVariables false

theorem eq_rc (k v : ByteArray) (n : Nat) (w : World) : (Op.equalIn (n + 2) 59 (.agg #[.string k, .string v]) (.agg #[.string k, .string v])).run Try.prog w = .ok true w := by
 have u3 := Try.underlying9
 have a3 := Try.isAgg9
 have z3 := Try.sizeOf9
 have hS : Try.prog.underlying 59 = some (.struct (Try.prog.fieldsOf 59)) := by simp only [Program.fieldsOf, Try.underlying59]
 rw [run_equalIn_agg w (n + 1) 59 _ _ hS (by kernel_rfl)]
 simp only [Program.fieldsOf, Try.underlying59]
 go_simp
theorem eq_gt (a b : Int) (k v : ByteArray) (w : World) : (Op.equalIn 10000 61 (.agg #[.int .i64 a, .int .i64 b, .string k, .string v]) (.agg #[.int .i64 a, .int .i64 b, .string k, .string v])).run Try.prog w = .ok true w := by
 have u3 := Try.underlying2
 have a3 := Try.isAgg2
 have z3 := Try.sizeOf2
 have zR := Try.sizeOf59
 have aR := Try.isAgg59
 have hR := eq_rc k v 9997 w
 have hS : Try.prog.underlying 61 = some (.struct (Try.prog.fieldsOf 61)) := by simp only [Program.fieldsOf, Try.underlying61]
 rw [show (10000 : Nat) = 9999 + 1 from rfl, run_equalIn_agg w 9999 61 _ _ hS (by kernel_rfl)]
 simp only [Program.fieldsOf, Try.underlying61]
 go_simp
theorem guard_gt : Try.prog.eqGuardType Try.prog.depth 61 = false := by kernel_rfl
theorem neq_gt (a b : Int) (k v : ByteArray) (w : World) : (binOp .neq 61 (.agg #[.int .i64 a, .int .i64 b, .string k, .string v]) (.agg #[.int .i64 a, .int .i64 b, .string k, .string v])).run Try.prog w = .ok (.bool false) w := by
 rw [run_neq_struct, eq_gt]; rfl
set_option maxRecDepth 100000 in
set_option maxHeartbeats 4000000 in
theorem refGots_any (w : World) (a1 a2 : Option Addr) (n1 n2 c1 c2 : Nat) (l : List Gt) (h1 : RowAt gtK w a1 n1 c1 l) (h2 : RowAt gtK w a2 n2 c2 l) (hl : l.length ≤ 1000000) :
 Calls Try.prog 14 #[.slice a1 n1 c1, .slice a2 n2 c2] w (GivesBool w true) := by
 obtain rfl : n1 = n2 := h1.length.symm.trans h2.length
 have hn : n1 ≤ 1000000 := by rw [← h1.length]; exact hl
 have H1 := Lib.hid h1
 have H2 := Lib.hid h2
 have hg := guard_gt
 clear h1 h2 hl
 go_enter Try.func14, Try.ntmps14
 go_wp2
 go_loopw [13] (fun v13 wr => ∃ i : Nat, v13 = .int .i64 (i : Int) ∧ i ≤ n1 ∧ Hid (Below w.heap.size w wr)) (fun v13 _ => n1 - (intOf v13).toNat)
 case atStart => exact ⟨0, rfl, Nat.zero_le _, Below.refl _ _⟩
 case round =>
  obtain ⟨i, rfl, hi, HB⟩ := hrel
  obtain ⟨wo, hwo⟩ : ∃ wo : World, wo = wr := ⟨_, rfl⟩
  subst hwo
  by_cases hlt : i < n1
  · have hd : decide (i < n1) = true := decide_eq_true hlt
    have hil : (i : Int) < (n1 : Int) := by omega
    obtain ⟨b1, o1, x, rfl, hb1, hs, hp⟩ := gt_get (H1.out.keep HB.out) hlt
    obtain ⟨b2, o2, x2, rfl, hb2, hs2, hq⟩ := gt_get (H2.out.keep HB.out) hlt
    obtain rfl : x = x2 := by rw [hs] at hs2; exact Option.some.inj hs2
    obtain ⟨x0, x1, xk, xv⟩ := x
    have p0 := hp.c0
    have p1 := hp.c1
    have p2 := hp.c2
    have p3 := hp.c3
    have q0 := hq.c0
    have q1 := hq.c1
    have q2 := hq.c2
    have q3 := hq.c3
    simp only at p0 p1 p2 p3 q0 q1 q2 q3
    have hne := neq_gt x0 x1 xk xv
    clear hs hs2 hp hq
    go_upto_region 6 with fail
    go_quiet (fail)
    clear p0 p1 p2 p3 q0 q1 q2 q3 hne
    obtain ⟨u1, hu⟩ : ∃ u, u = wo.drewN nq := ⟨_, rfl⟩
    have HB1 : Hid (Below w.heap.size w u1) := by show Below _ _ _; rw [hu]; exact below_drewN HB.out nq
    rw [← hu]
    clear hu HB
    go_wp2
    go_roundw
    case rel => exact ⟨i + 1, rfl, hlt, HB1.out⟩
    case measure => simp [intOf]; omega
  · have hd : decide (i < n1) = false := decide_eq_false hlt
    go_wp2
    go_ret
    exact ⟨rfl, HB.out⟩
end Go.Proofs.Ytipaebflkebdjaa
namespace Go.Proofs.Ytipaebflkebdjaa
open Go.ProdMath
set_option linter.unusedVariables false

theorem least_nil : IsLeast [] (-1) := .inl ⟨rfl, fun p hp => by cases hp⟩
theorem least_perm {l l' : List Pd} {v : Int} (h : IsLeast l v) (hp : l.Perm l') : IsLeast l' v := by
 rcases h with ⟨e, h⟩ | ⟨h0, ⟨p, hpm, hv⟩, hm⟩
 · exact .inl ⟨e, fun p h2 => h p (hp.mem_iff.2 h2)⟩
 · exact .inr ⟨h0, ⟨p, hp.mem_iff.1 hpm, hv⟩, fun q hq => hm q (hp.mem_iff.2 hq)⟩
theorem least_low {l : List Pd} {v : Int} (h : IsLeast l v) : v = -1 ∨ 0 ≤ v := by
 rcases h with ⟨e, _⟩ | ⟨h0, _⟩
 · exact .inl e
 · exact .inr h0
theorem least_skip {l : List Pd} {v : Int} {p : Pd} (h : IsLeast l v) (hp : p.opn < 0 ∨ (v ≠ -1 ∧ v ≤ p.opn)) : IsLeast (l ++ [p]) v := by
 rcases h with ⟨e, h⟩ | ⟨h0, ⟨q, hq, hv⟩, hm⟩
 · refine .inl ⟨e, fun q hq => ?_⟩
   rcases List.mem_append.1 hq with hq | hq
   · exact h q hq
   · rw [List.mem_singleton.1 hq]
     rcases hp with h1 | h1
     · exact h1
     · exact absurd e h1.1
 · refine .inr ⟨h0, ⟨q, List.mem_append.2 (.inl hq), hv⟩, fun q2 hq2 h2 => ?_⟩
   rcases List.mem_append.1 hq2 with hq2 | hq2
   · exact hm q2 hq2 h2
   · rw [List.mem_singleton.1 hq2] at h2 ⊢
     rcases hp with h1 | h1
     · omega
     · exact h1.2
theorem least_take {l : List Pd} {v : Int} {p : Pd} (h : IsLeast l v) (hp : 0 ≤ p.opn) (hv : v = -1 ∨ p.opn ≤ v) : IsLeast (l ++ [p]) p.opn := by
 refine .inr ⟨hp, ⟨p, by simp, rfl⟩, fun q hq h2 => ?_⟩
 rcases List.mem_append.1 hq with hq | hq
 · rcases h with ⟨e, h⟩ | ⟨h0, _, hm⟩
   · have := h q hq; omega
   · have := hm q hq h2
     rcases hv with hv | hv
     · omega
     · omega
 · rw [List.mem_singleton.1 hq]; omega
end Go.Proofs.Ytipaebflkebdjaa
namespace Go.Proofs.Ytipaebflkebdjaa
open Go.RowKit
open Go.SeqMath
open Go.ProdMath
open Go.BatMath hiding AllB getD_lt take_all
set_option linter.unusedVariables false

def GivesTabOpen (w : World) (l : List Pd) (e : Ending) (w' : World) : Prop := ∃ v, IsLeast l v ∧ e = .returned (.tuple #[.int .i64 v, .bool (decide (0 ≤ v))]) ∧ Below w.heap.size w w'
set_option maxRecDepth 100000 in
set_option maxHeartbeats 4000000 in
theorem tabOpen_any (w : World) (kt : Nat) (ad : Option Addr) (len cap : Nat) (ms : List PM) (h : TabAt w kt ad len cap ms) (hL : len ≤ 1000000) :
 Calls Try.prog 20 #[.pointer (some ⟨kt, 0, none⟩)] w (GivesTabOpen w (pds ms)) := by
 have H := Lib.hid h
 have hlen := h.pds.row.length
 have HLEN := Lib.hid hlen
 have t0 := h.box.c0
 clear h hlen
 go_enter Try.func20, Try.ntmps20
 go_wp2
 clear t0
 go_loopw [4, 12] (fun v4 v12 wr => ∃ (v : Int) (j : Nat), v4 = .int .i64 v ∧ v12 = .int .i64 (j : Int) ∧ j ≤ len ∧ Hid (IsLeast ((pds ms).take j) v) ∧ Hid (Below w.heap.size w wr)) (fun _ v12 _ => len - (intOf v12).toNat)
 case atStart => exact ⟨-1, 0, rfl, rfl, Nat.zero_le _, least_nil, Below.refl _ _⟩
 case round =>
  obtain ⟨v, j, rfl, rfl, hj, HLE, HB⟩ := hrel
  obtain ⟨wo, hwo⟩ : ∃ wo : World, wo = wr := ⟨_, rfl⟩
  subst hwo
  by_cases hlt : j < len
  · have hd : decide (j < len) = true := decide_eq_true hlt
    have hjl : (j : Int) < (len : Int) := by omega
    obtain ⟨bk, off, m, rfl, hbk, hm, hla, c0, c1, c2, c3⟩ := (H.out.keep HB.out).pds.get hlt
    have htk : (pds ms).take (j + 1) = (pds ms).take j ++ [m.p] := by
     have : (pds ms)[j]? = some m.p := by unfold pds; rw [List.getElem?_map, hm]; rfl
     rw [List.take_add_one, this]; rfl
    have HTK := Lib.hid htk
    obtain ⟨⟨pid, pep, pl, po⟩, pd, pc⟩ := m
    simp only at c0 c1 c2 c3 HTK
    obtain ⟨pn, hpn⟩ : ∃ n, n = pl.length := ⟨_, rfl⟩
    rw [← hpn] at c2
    clear htk hm hla hbk hpn
    go_upto_region 5 with fail
    obtain ⟨W1, hW1⟩ : ∃ z, z = wo.alloc (.cells #[.int .i64 pid, .int .i64 pep, .slice pd pn pc, .int .i64 po] 48) := ⟨_, rfl⟩
    obtain ⟨P, hP⟩ : ∃ P, P = wo.heap.size := ⟨_, rfl⟩
    have HP1 : Hid (PBox W1 P pid pep (.slice pd pn pc) po) := by show PBox _ _ _ _ _ _; rw [hW1, hP]; exact pbox_new wo _ _ _ _
    have HB1 : Hid (Below w.heap.size w W1) := by show Below _ _ _; rw [hW1]; exact HB.out.trans (((Below.refl _ _).alloc (Nat.le_refl _) _).mono HB.out.size)
    rw [← hW1, ← hP]
    clear hW1 hP c0 c1 c2 c3
    have q3 := HP1.out.c3
    by_cases ho : 0 ≤ po
    · have hd1 : decide (0 ≤ po) = true := decide_eq_true ho
      have HOO := Lib.hid ho
      by_cases hv : v < 0
      · have hd2 : decide (v < 0) = true := decide_eq_true hv
        have HL2 : Hid (IsLeast ((pds ms).take (j + 1)) po) := by
         show IsLeast _ _
         rw [HTK.out]
         have hv1 : v = -1 := by rcases least_low HLE.out with h | h <;> omega
         exact least_take (p := ⟨pid, pep, pl, po⟩) HLE.out HOO.out (.inl hv1)
        clear hv ho
        go_wp2
        go_roundw
        case rel => exact ⟨po, j + 1, rfl, rfl, by omega, HL2.out, HB1.out⟩
        case measure => simp [intOf]; omega
      · have hd2 : decide (v < 0) = false := decide_eq_false hv
        by_cases hpv : po < v
        · have hd3 : decide (po < v) = true := decide_eq_true hpv
          have HL2 : Hid (IsLeast ((pds ms).take (j + 1)) po) := by
           show IsLeast _ _
           rw [HTK.out]
           exact least_take (p := ⟨pid, pep, pl, po⟩) HLE.out HOO.out (.inr (Int.le_of_lt hpv))
          clear hv ho hpv
          go_wp2
          go_roundw
          case rel => exact ⟨po, j + 1, rfl, rfl, by omega, HL2.out, HB1.out⟩
          case measure => simp [intOf]; omega
        · have hd3 : decide (po < v) = false := decide_eq_false hpv
          have HL2 : Hid (IsLeast ((pds ms).take (j + 1)) v) := by
           show IsLeast _ _
           rw [HTK.out]
           exact least_skip (p := ⟨pid, pep, pl, po⟩) HLE.out (.inr ⟨by omega, by show v ≤ po; omega⟩)
          clear hv ho hpv
          go_wp2
          go_roundw
          case rel => exact ⟨v, j + 1, rfl, rfl, by omega, HL2.out, HB1.out⟩
          case measure => simp [intOf]; omega
    · have hd1 : decide (0 ≤ po) = false := decide_eq_false ho
      have HL2 : Hid (IsLeast ((pds ms).take (j + 1)) v) := by
       show IsLeast _ _
       rw [HTK.out]
       exact least_skip (p := ⟨pid, pep, pl, po⟩) HLE.out (.inl (by show po < 0; omega))
      clear ho
      go_wp2
      go_roundw
      case rel => exact ⟨v, j + 1, rfl, rfl, by omega, HL2.out, HB1.out⟩
      case measure => simp [intOf]; omega
  · have hd : decide (j < len) = false := decide_eq_false hlt
    have HFIN : Hid (IsLeast (pds ms) v) := by
     have h1 := HLE.out
     have h2 := HLEN.out
     rw [List.take_of_length_le (by unfold pds; rw [List.length_map]; omega)] at h1
     exact h1
    go_wp2
    go_ret2
    exact ⟨v, HFIN.out, rfl, HB.out⟩
end Go.Proofs.Ytipaebflkebdjaa
namespace Go.Proofs.Ytipaebflkebdjaa
open Go.RowKit
open Go.FoMath
open Go.ProdMath
open Go.BatMath hiding AllB getD_lt take_all
set_option linter.unusedVariables false

def GivesI (w : World) (v : Int) (e : Ending) (w' : World) : Prop := e = .returned (.int .i64 v) ∧ Below w.heap.size w w'
/-- What a row that may be says of itself. -/
structure FoRow (start : Int) (bs : List Bat) : Prop where
 ok : RowOk bs
 least : IsLeast (foldP [] bs) (firstOpen bs)
 chain : Chain (endD start bs) bs
 few : GotsOk bs
set_option maxRecDepth 100000 in
set_option maxHeartbeats 4000000 in
theorem refStable_any (w : World) (start : Int) (ad : Option Addr) (len cap : Nat) (ms : List BM) (h : BatsAt w ad len cap ms) (hL : len ≤ 5000) (hr : FoRow start (bats ms)) :
 Calls Try.prog 27 #[.int .i64 start, .slice ad len cap] w (GivesI w (stableD start (bats ms))) := by
 have H := Lib.hid h
 have HR := Lib.hid hr
 have HLL : Hid (len ≤ 5000) := hL
 clear h hr hL
 go_enter Try.func27, Try.ntmps27
 go_wp2_with fail
 refine (fold_any w ad len cap ms H.out (Nat.le_trans HLL.out (by decide)) (batsOk_of HR.out.ok)).mono ?_
 rintro e w1 ⟨kt, ta, tn, tc, ps, dd, dn, dc, rfl, htab, hps, -, -, hb⟩
 have HT := Lib.hid htab
 have HPS := Lib.hid hps
 have HB1 := Lib.hid hb
 have HTN : Hid (tn ≤ 1000000) := by
  show _ ≤ _
  have h1 := SnapMath.fold_len (bats ms) []
  have h2 : (bats ms).length = len := by unfold bats; rw [List.length_map]; exact H.out.row.length
  have h3 : ps.length = tn := htab.tab.pds.row.length
  have h4 := congrArg List.length hps
  unfold pds at h4
  rw [List.length_map] at h4
  have h5 := HLL.out
  rw [h2, List.length_nil] at h1
  omega
 clear htab hps hb
 go_wp2_with fail
 refine (tabOpen_any w1 kt ta tn tc ps HT.out.tab HTN.out).mono ?_
 rintro e w2 ⟨v, hv, rfl, hb⟩
 have HB2 := Lib.hid (HB1.out.trans (hb.mono HB1.out.size))
 rw [HPS.out] at hv
 have hvf : v = firstOpen (bats ms) := least_one hv HR.out.least
 have hlow := least_low HR.out.least
 subst hvf
 obtain ⟨f, hf⟩ : ∃ f, f = firstOpen (bats ms) := ⟨_, rfl⟩
 rw [← hf] at hlow ⊢
 have HF := Lib.hid hf
 clear hv hb hf
 by_cases h0 : 0 ≤ f
 · have hd : decide (0 ≤ f) = true := decide_eq_true h0
   have HS : Hid (stableD start (bats ms) = f) := by
    show stableD _ _ = _
    unfold stableD
    rw [← HF.out, if_neg (by omega)]
   clear hlow h0
   go_wp2
   go_ret
   exact ⟨by rw [HS.out]; rfl, HB2.out⟩
 · have hd : decide (0 ≤ f) = false := decide_eq_false h0
   have HS : Hid (stableD start (bats ms) = endD start (bats ms)) := by
    show stableD _ _ = _
    unfold stableD
    rw [← HF.out, if_pos (by omega)]
   clear hlow h0
   go_wp2_with fail
   refine (refEnd_any w2 start ad len cap ms (H.out.keep HB2.out) (Nat.le_trans HLL.out (by decide)) HR.out.ok _ rfl).mono ?_
   rintro e w3 ⟨rfl, hb⟩
   have HB3 := Lib.hid (HB2.out.trans (hb.mono HB2.out.size))
   clear hb
   go_wp2
   go_ret
   exact ⟨by rw [HS.out]; rfl, HB3.out⟩
theorem foRow_of {start : Int} {bs : List Bat} (h : RowD start bs) (h0 : 0 ≤ start) (h1 : endD start bs ≤ 1099511627776) : FoRow start bs := by
 have hc := row_chain h h0
 refine ⟨rowD_ok h, row_least h h0, hc.1, fun b hb => ?_⟩
 have h2 := hc.1.base b hb
 refine ⟨h2.1, by omega, ?_⟩
 have h3 := (rowD_ok h b hb).1
 unfold rightE at h3
 split at h3
 · omega
 · split at h3
   · split at h3
     · rename_i h4; rw [h4.2.2.2.2]; exact Nat.zero_le _
     · omega
   · split at h3
     · split at h3
       · omega
       · rename_i h4
         rw [not_or] at h4
         omega
     · omega
end Go.Proofs.Ytipaebflkebdjaa
namespace Go.Proofs.Ytipaebflkebdjaa
open Go.RowKit
open Go.ProdMath
open Go.BatMath hiding AllB getD_lt take_all
set_option linter.unusedVariables false

theorem count_few {b : Bat} (h : rightE b = 0) : 1 ≤ countD b ∧ countD b ≤ 16 := by
 have h16 := (ok_of h).recs
 unfold countD
 split
 · omega
 · rename_i hm
   have hne : b.recs ≠ [] := fun e => by
    unfold rightE at h
    split at h
    · exact absurd h (by decide)
    · rw [if_neg (by rintro ⟨_, h2⟩; exact h2 e)] at h
      exact absurd h (by decide)
   have := List.length_pos_iff.2 hne
   omega
set_option maxRecDepth 100000 in
set_option maxHeartbeats 4000000 in
theorem segEnd_any (w : World) (b0 b1 b2 b3 : Int) (b4 : Bool) (b5 : Int) (rd : Option Addr) (rn rc : Nat) (cnt : Int) (hn : (if b5 ≠ 0 then 1 else (rn : Int)) = cnt) (hw1 : IntKind.i64.wrap (b0 + cnt) = b0 + cnt) :
 Calls Try.prog 57 #[.agg #[.int .i64 b0, .int .i64 b1, .int .i64 b2, .int .i64 b3, .bool b4, .int .i64 b5, .slice rd rn rc]] w (Says (b0 + cnt) w) := by
 have HCN := Lib.hid hn
 clear hn
 go_enter Try.func57, Try.ntmps57
 go_upto_region 1 with fail
 obtain ⟨W1, hW1⟩ : ∃ z, z = w.alloc (.cells #[.int .i64 b0, .int .i64 b1, .int .i64 b2, .int .i64 b3, .bool b4, .int .i64 b5, .slice rd rn rc] 52) := ⟨_, rfl⟩
 obtain ⟨kb, hkb⟩ : ∃ z, z = w.heap.size := ⟨_, rfl⟩
 have HBW : Hid (Below w.heap.size w W1) := by show Below _ _ _; rw [hW1]; exact (Below.refl _ _).alloc (Nat.le_refl _) _
 have HX1 : Hid (BoxAt W1 kb b0 b1 b2 b3 b4 b5 (.slice rd rn rc)) := by show BoxAt _ _ _ _ _ _ _ _ _; rw [hW1, hkb]; exact boxAt_new w _ _ _ _ _ _ _
 rw [← hW1, ← hkb]
 clear hW1 hkb
 have hdr : Below W1.heap.size W1 W1.drew := (Below.refl _ W1).drew
 have KS : Hid (∀ V, Below W1.heap.size W1 V → (fun (V : World) => V.cell? ⟨kb, 0, none⟩ = some (.int .i64 b0) ∧ V.cell? ⟨kb, 1, none⟩ = some (.int .i64 b1) ∧ V.cell? ⟨kb, 2, none⟩ = some (.int .i64 b2) ∧ V.cell? ⟨kb, 3, none⟩ = some (.int .i64 b3) ∧ V.cell? ⟨kb, 4, none⟩ = some (.bool b4) ∧ V.cell? ⟨kb, 5, none⟩ = some (.int .i64 b5) ∧ V.cell? ⟨kb, 6, none⟩ = some (.slice rd rn rc)) V) := fun V hV => ⟨(HX1.out.on hV).c0, (HX1.out.on hV).c1, (HX1.out.on hV).c2, (HX1.out.on hV).c3, (HX1.out.on hV).c4, (HX1.out.on hV).c5, (HX1.out.on hV).c6⟩
 refine wp_region_noPanic ?_
 refine wp_region_z [] (fun (V : World) => V.cell? ⟨kb, 0, none⟩ = some (.int .i64 b0) ∧ V.cell? ⟨kb, 1, none⟩ = some (.int .i64 b1) ∧ V.cell? ⟨kb, 2, none⟩ = some (.int .i64 b2) ∧ V.cell? ⟨kb, 3, none⟩ = some (.int .i64 b3) ∧ V.cell? ⟨kb, 4, none⟩ = some (.bool b4) ∧ V.cell? ⟨kb, 5, none⟩ = some (.int .i64 b5) ∧ V.cell? ⟨kb, 6, none⟩ = some (.slice rd rn rc)) (by kernel_rfl) ?_
 have hHeld := KS.out _ hdr
 obtain ⟨u0, hu0⟩ : ∃ u, u = W1.drew := ⟨_, rfl⟩
 rw [← hu0] at hHeld hdr
 rw [← hu0]
 clear hu0
 have HQ0 := Lib.hid hdr
 clear hdr
 refine zt 0 ?_
 refine zt 1 ?_
 refine zt 2 ?_
 refine zr 3 (fun C hC => ?_)
 go_simp
 refine (batCount_any u0 b0 b1 b2 b3 b4 b5 rd rn rc cnt HCN.out).mono ?_
 rintro e u1 ⟨rfl, hb1⟩
 have HQ1 : Hid (Below W1.heap.size W1 u1) := HQ0.out.trans (hb1.mono HQ0.out.size)
 clear hb1
 have hHeld := KS.out _ HQ1.out
 refine zc hC hHeld ?_
 clear hC C
 refine zt 4 ?_
 refine zt 5 ?_
 refine wpAnyZ_done (by kernel_rfl) ?_ _
 refine NoPanic.normal ?_
 clear hHeld KS
 go_wp2_with fail
 go_ret
 exact says_mk rfl (HBW.out.trans (HQ1.out.mono HBW.out.size))
set_option maxRecDepth 100000 in
set_option maxHeartbeats 4000000 in
theorem segNext_any (w : World) (ad : Option Addr) (n cap : Nat) (ms : List BM) (h : BatsAt w ad n cap ms) (hn : n ≤ 100000) (hok : RowOk (bats ms)) (base : Int) (v : Int) (hv : endD base (bats ms) = v) :
 Calls Try.prog 38 #[.slice ad n cap, .int .i64 base] w (Says v w) := by
 have HL : Hid (ms.length = n) := h.row.length
 have H := Lib.hid h
 have HOK := Lib.hid hok
 have HV := Lib.hid hv
 clear h hok hv
 rcases Nat.eq_zero_or_pos n with h0 | h0
 · subst h0
   have hms : ms = [] := List.eq_nil_of_length_eq_zero HL.out
   have hv : base = v := by rw [← HV.out, hms]; rfl
   subst hv
   go_enter Try.func38, Try.ntmps38
   go_wp2_with fail
   go_ret
   exact says_mk rfl (Below.refl _ w)
 · have hn0 : ((n : Int) == 0) = false := by simp; omega
   have hn2 : (1 : Int) ≤ (n : Int) := by omega
   have hn5 : (n : Int) - 1 < (n : Int) := by omega
   have hn3 : ((n : Int) - 1).toNat = n - 1 := by omega
   have hn4 : IntKind.i64.wrap ((n : Int) - 1) = (n : Int) - 1 := by rw [IntKind.wrap_i64]; omega
   obtain ⟨bx, ox, mx, ex, hbx, hmx, hrx, x0, x1, x2, x3, x4, x5, x6⟩ := H.out.get (show n - 1 < n by omega)
   subst ex
   have hin' : mx.b ∈ bats ms := List.mem_map.2 ⟨mx, List.mem_of_getElem? hmx, rfl⟩
   have HRT := Lib.hid (HOK.out mx.b hin')
   obtain ⟨cnt, hcnt⟩ : ∃ c, c = countD mx.b := ⟨_, rfl⟩
   have HCB : Hid (1 ≤ cnt ∧ cnt ≤ 16) := by show _ ∧ _; rw [hcnt]; exact count_few HRT.out.1
   have HB0 : Hid (0 ≤ mx.b.base ∧ mx.b.base ≤ 1099511627776) := ⟨(ok_of HRT.out.1).base0, (ok_of HRT.out.1).base1⟩
   have HVE : Hid (mx.b.base + cnt = v) := by
    show _ = _
    have hla : (bats ms).getLast? = some mx.b := by
     unfold bats
     rw [List.getLast?_map, List.getLast?_eq_getElem?, HL.out, hmx]
     rfl
    rw [← HV.out, end_last hla, hcnt]
   have HCN : Hid ((if mx.b.marker ≠ 0 then 1 else (mx.b.recs.length : Int)) = cnt) := by show _ = _; rw [hcnt]; rfl
   clear hmx hin' hrx hcnt HRT HV
   obtain ⟨⟨b0, b1, b2, b3, b4, b5, recs⟩, rd, rc⟩ := mx
   simp only at x0 x1 x2 x3 x4 x5 x6 HB0 HCN HVE
   have hw1 : IntKind.i64.wrap (b0 + cnt) = b0 + cnt := by rw [IntKind.wrap_i64]; have := HCB.out; have := HB0.out; omega
   go_enter Try.func38, Try.ntmps38
   go_wp2_with fail
   refine (segEnd_any w b0 b1 b2 b3 b4 b5 rd recs.length rc cnt HCN.out hw1).mono ?_
   rintro e w1 ⟨rfl, hb1⟩
   rw [HVE.out]
   have HB1 := Lib.hid hb1
   clear hb1
   go_wp2_with fail
   go_ret
   exact says_mk rfl HB1.out
end Go.Proofs.Ytipaebflkebdjaa
namespace Go.Proofs.Ytipaebflkebdjaa
open Go.RowKit
open Go.ChangeMaps (setBlock)
open Go.Maps (Keyed)
set_option linter.unusedVariables false

/-- An entry as the map has it. -/
def entryP (e : MapEntry) : Value × Value := (e.key, e.val)
/-- Block km is a map of these things. -/
def MapAs {α : Type} (P : Program) (k : TypeId) (f : α → Value × Value) (w : World) (km : Nat) (ps : List α) : Prop :=
 ∃ es clock, w.heap[km]? = some (.map es clock) ∧ MapKept.Stamped es clock ∧ (es.toList.map entryP).Perm (ps.map f) ∧ ∀ p ∈ ps, ∃ l, keyOf P k (f p).1 = some l
section
variable {α : Type} {P : Program} {k : TypeId} {f : α → Value × Value} {w w' : World} {km : Nat} {ps : List α}
theorem MapAs.lt (h : MapAs P k f w km ps) : km < w.heap.size := by
 obtain ⟨es, clock, hb, _⟩ := h
 exact (Array.getElem?_eq_some_iff.1 hb).1
theorem MapAs.same (h : MapAs P k f w km ps) (he : w'.heap[km]? = w.heap[km]?) : MapAs P k f w' km ps := by
 obtain ⟨es, clock, hb, r⟩ := h
 exact ⟨es, clock, he.trans hb, r⟩
theorem MapAs.on (h : MapAs P k f w km ps) (hb : Below w.heap.size w w') : MapAs P k f w' km ps := h.same (hb.block km h.lt)
theorem MapAs.grown {r : Option Nat} (h : MapAs P k f w km ps) (hg : w.grownBy w' r) (hr : r ≠ some km) : MapAs P k f w' km ps := h.same (hg.block km h.lt fun e => hr e.symm)
theorem MapAs.perm {qs : List α} (h : MapAs P k f w km ps) (hp : ps.Perm qs) : MapAs P k f w km qs := by
 obtain ⟨es, clock, hb, hs, hq, hn⟩ := h
 exact ⟨es, clock, hb, hs, hq.trans (hp.map _), fun p h => hn p (hp.mem_iff.2 h)⟩
theorem mapAs_new (P : Program) (k : TypeId) (f : α → Value × Value) (w : World) : MapAs P k f (w.alloc (.map #[] 0)) w.heap.size ([] : List α) := ⟨#[], 0, heap_alloc_new w _, MapKept.stamped_empty 0, List.Perm.refl _, fun p h => by cases h⟩
/-- No key stands twice. -/
theorem MapAs.keys (h : MapAs P k f w km ps) : (ps.map fun p => (f p).1).Pairwise (· ≠ ·) := by
 obtain ⟨es, clock, hb, hs, hq, hn⟩ := h
 have h3 := ((MapKept.stamped_iff es clock).1 hs).2.2
 have h4 : (es.toList.map entryP).Pairwise (fun a b => a.1 ≠ b.1) := by rw [List.pairwise_map]; exact h3
 have h5 : (ps.map f).Pairwise (fun a b => a.1 ≠ b.1) := (hq.pairwise_iff (fun {_ _} h => Ne.symm h)).1 h4
 rw [List.pairwise_map] at h5 ⊢
 exact h5
theorem MapAs.size (h : MapAs P k f w km ps) : ∃ es clock, w.heap[km]? = some (.map es clock) ∧ es.size = ps.length := by
 obtain ⟨es, clock, hb, hs, hq, hn⟩ := h
 refine ⟨es, clock, hb, ?_⟩
 have := hq.length_eq
 simpa using this
theorem MapAs.one (h : MapAs P k f w km ps) {p q : α} (hp : p ∈ ps) (hq : q ∈ ps) (e : (f p).1 = (f q).1) : p = q := by
 have hn := h.keys
 obtain ⟨i, hi⟩ := List.getElem?_of_mem hp
 obtain ⟨j, hj⟩ := List.getElem?_of_mem hq
 have hi' : (ps.map fun p => (f p).1)[i]? = some (f p).1 := by rw [List.getElem?_map, hi]; rfl
 have hj' : (ps.map fun p => (f p).1)[j]? = some (f p).1 := by rw [List.getElem?_map, hj, e]; rfl
 have hil : i < (ps.map fun p => (f p).1).length := (List.getElem?_eq_some_iff.1 hi').1
 have := (List.getElem?_inj (i := i) (j := j) hil hn).1 (hi'.trans hj'.symm)
 subst this
 exact Option.some.inj (hi.symm.trans hj)
theorem permAs_set {α : Type} : ∀ (l : List α) (j : Nat) (x y : α), l[j]? = some x → (l.set j y).Perm (y :: l.eraseIdx j) ∧ l.Perm (x :: l.eraseIdx j)
 | [], j, x, y, h => by cases j <;> cases h
 | a :: l, 0, x, y, h => by cases h; exact ⟨List.Perm.refl _, List.Perm.refl _⟩
 | a :: l, j + 1, x, y, h => by
   obtain ⟨h1, h2⟩ := permAs_set l j x y h
   exact ⟨(h1.cons a).trans (List.Perm.swap _ _ _), (h2.cons a).trans (List.Perm.swap _ _ _)⟩
section
variable {t e : TypeId} (ht : P.underlying t = some (.map k e)) (K : Keyed P k)
include K in
theorem mapAs_find (h : MapAs P k f w km ps) (key : Value) (hk : ∃ l, keyOf P k key = some l) : ∃ es clock, w.heap[km]? = some (.map es clock) ∧ MapKept.Stamped es clock ∧ (es.toList.map entryP).Perm (ps.map f) ∧
 (((Instr.findKey k key es.toList).run P w = .ok none w ∧ (∀ e ∈ es.toList, e.key ≠ key) ∧ ∀ p ∈ ps, (f p).1 ≠ key) ∨
  ∃ j e0 p, (Instr.findKey k key es.toList).run P w = .ok (some (j, (f p).2)) w ∧ es.toList[j]? = some e0 ∧ e0.key = key ∧ e0.val = (f p).2 ∧ p ∈ ps ∧ (f p).1 = key) := by
 obtain ⟨es, clock, hb, hs, hq, hz⟩ := h
 refine ⟨es, clock, hb, hs, hq, ?_⟩
 obtain ⟨lk, hlk⟩ := hk
 have hes : ∀ x ∈ es.toList, ∃ p ∈ ps, x.key = (f p).1 ∧ x.val = (f p).2 := fun x hx => by
  obtain ⟨p, hp, e⟩ := List.mem_map.1 (hq.mem_iff.1 (List.mem_map.2 ⟨x, hx, rfl⟩))
  exact ⟨p, hp, by rw [e]; rfl, by rw [e]; rfl⟩
 rcases K.find w hlk es.toList (fun x hx => by
  obtain ⟨p, hp, e, _⟩ := hes x hx
  obtain ⟨l, hl⟩ := hz p hp
  exact ⟨l, by rw [e]; exact hl⟩) with ⟨h1, h2⟩ | ⟨j, e0, h1, h2, h3⟩
 · refine .inl ⟨h1, h2, fun p hp en => ?_⟩
   obtain ⟨x, hx, e⟩ := List.mem_map.1 (hq.mem_iff.2 (List.mem_map.2 ⟨p, hp, rfl⟩))
   have e1 : x.key = (f p).1 := by rw [← e]; rfl
   exact h2 x hx (by rw [e1, en])
 · obtain ⟨p, hp, e1, e2⟩ := hes e0 (List.mem_of_getElem? h2)
   rw [h3] at e1
   exact .inr ⟨j, e0, p, by rw [← e2]; exact h1, h2, h3, e2, hp, e1.symm⟩
include ht K
/-- 'm[k]' where the map has no such key. -/
theorem mapAs_none (h : MapAs P k f w km ps) (key : Value) (hk : ∃ l, keyOf P k key = some l) (h0 : ∀ p ∈ ps, (f p).1 ≠ key) (z : Value) (hz : (zeroValue e).run P w = .ok z w) (ok : Bool) : (Instr.lookup t (.map (some km)) key ok).run P w = .ok (if ok = true then .tuple #[z, .bool false] else z) w := by
 obtain ⟨es, clock, hb, hs, hq, h1⟩ := mapAs_find K h key hk
 obtain ⟨lk, hlk⟩ := hk
 rcases h1 with ⟨h1, _, _⟩ | ⟨j, e0, p, _, _, _, _, hm, he⟩
 · cases ok <;> simp [Instr.lookup, run_underlying ht, MapKept.run_getObj_map hb, K.check w _ hlk, h1, hz, Result.andThen]
 · exact absurd he (h0 _ hm)
/-- 'm[k]' where it has. -/
theorem mapAs_some (h : MapAs P k f w km ps) (p : α) (hm : p ∈ ps) (ok : Bool) : (Instr.lookup t (.map (some km)) (f p).1 ok).run P w = .ok (if ok = true then .tuple #[(f p).2, .bool true] else (f p).2) w := by
 have hk : ∃ l, keyOf P k (f p).1 = some l := by obtain ⟨_, _, _, _, _, hz⟩ := h; exact hz p hm
 obtain ⟨es, clock, hb, hs, hq, h1⟩ := mapAs_find K h (f p).1 hk
 obtain ⟨lk, hlk⟩ := hk
 rcases h1 with ⟨_, _, h2⟩ | ⟨j, e0, p', h1, _, _, _, hm', he⟩
 · exact absurd rfl (h2 _ hm)
 · have e := h.one hm hm' he.symm
   subst e
   cases ok <;> simp [Instr.lookup, run_underlying ht, MapKept.run_getObj_map hb, K.check w _ hlk, h1, Result.andThen]
/-- 'm[k] = v', a new key. -/
theorem mapAs_put (h : MapAs P k f w km ps) (p : α) (hk : ∃ l, keyOf P k (f p).1 = some l) (h0 : ∀ q ∈ ps, (f q).1 ≠ (f p).1) : ∃ w', (Instr.mapUpdate t (.map (some km)) (f p).1 (f p).2).run P w = .ok () w' ∧ MapAs P k f w' km (p :: ps) ∧ w.grownBy w' (some km) ∧ w'.heap.size = w.heap.size := by
 have hz : ∀ p ∈ ps, ∃ l, keyOf P k (f p).1 = some l := by obtain ⟨_, _, _, _, _, hz⟩ := h; exact hz
 have hk2 := hk
 obtain ⟨es, clock, hb, hs, hq, h1⟩ := mapAs_find K h (f p).1 hk
 obtain ⟨lk, hlk⟩ := hk
 have hgr : ∀ o', w.grownBy (setBlock w km o') (some km) := fun o' => ⟨rfl, rfl, rfl, by simp [setBlock], fun i _ hi => ChangeMaps.heap_setBlock_other hb _ (fun e => hi (by rw [e]))⟩
 rcases h1 with ⟨h1, h2, _⟩ | ⟨j, e0, p', _, _, _, _, hm, he⟩
 · refine ⟨setBlock w km (.map (es.push ⟨(f p).1, (f p).2, clock⟩) (clock + 1)), ?_, ⟨_, _, ChangeMaps.heap_setBlock_same hb _, MapKept.stamped_push hs h2, ?_, fun q hq => ?_⟩, hgr _, by simp [setBlock]⟩
   · simp [Instr.mapUpdate, run_underlying ht, MapKept.run_getObj_map hb, K.check w false hlk, h1, MapKept.run_setObj_map _ hb, Result.andThen, setBlock]
   · rw [Array.toList_push, List.map_append, List.map_cons]
     exact (List.perm_append_singleton _ _).trans (hq.cons _)
   · rcases List.mem_cons.1 hq with rfl | hq
     · exact hk2
     · exact hz q hq
 · exact absurd he (h0 _ hm)
/-- 'm[k] = v', a key that is there. -/
theorem mapAs_set {p0 : α} (h : MapAs P k f w km (p0 :: ps)) (p : α) (h0 : (f p0).1 = (f p).1) : ∃ w', (Instr.mapUpdate t (.map (some km)) (f p).1 (f p).2).run P w = .ok () w' ∧ MapAs P k f w' km (p :: ps) ∧ w.grownBy w' (some km) ∧ w'.heap.size = w.heap.size := by
 have hz : ∀ p ∈ p0 :: ps, ∃ l, keyOf P k (f p).1 = some l := by obtain ⟨_, _, _, _, _, hz⟩ := h; exact hz
 have hk : ∃ l, keyOf P k (f p).1 = some l := by have := hz p0 (by simp); rw [h0] at this; exact this
 have hk2 := hk
 obtain ⟨es, clock, hb, hs, hq, h1⟩ := mapAs_find K h (f p).1 hk
 obtain ⟨lk, hlk⟩ := hk
 have hgr : ∀ o', w.grownBy (setBlock w km o') (some km) := fun o' => ⟨rfl, rfl, rfl, by simp [setBlock], fun i _ hi => ChangeMaps.heap_setBlock_other hb _ (fun e => hi (by rw [e]))⟩
 rcases h1 with ⟨h1, h2, h3⟩ | ⟨j, e0, p', h1, h2, h3, h4, hm, he⟩
 · exact absurd h0 (h3 _ (by simp))
 · have e2 : p0 = p' := h.one (by simp) hm (h0.trans he.symm)
   subst e2
   have hj : es[j]? = some e0 := by simpa using h2
   have hkeyf : ∀ e', es[j]? = some e' → ({ e' with key := (f p).1, val := (f p).2 } : MapEntry).key = e'.key := fun e' he' => by rw [hj] at he'; cases he'; exact h3.symm
   have hlist : (es.modify j (fun e' => { e' with key := (f p).1, val := (f p).2 })).toList = es.toList.set j { e0 with key := (f p).1, val := (f p).2 } := by rw [Array.toList_modify, ChangeMaps.modify_eq_set _ _ _ _ h2]
   refine ⟨setBlock w km (.map (es.modify j (fun e' => { e' with key := (f p).1, val := (f p).2 })) clock), ?_, ⟨_, _, ChangeMaps.heap_setBlock_same hb _, MapKept.stamped_modify hs _ _ (fun _ _ => rfl) (fun e' _ he' => hkeyf e' he'), ?_, fun q hq => ?_⟩, hgr _, by simp [setBlock]⟩
   · simp [Instr.mapUpdate, run_underlying ht, MapKept.run_getObj_map hb, K.check w false hlk, h1, hj, h3, K.stays w hlk, MapKept.run_setObj_map _ hb, Result.andThen, setBlock]
   · obtain ⟨s1, s2⟩ := permAs_set es.toList j e0 { e0 with key := (f p).1, val := (f p).2 } h2
     have e1 : entryP e0 = f p0 := by
      show (e0.key, e0.val) = _
      rw [h3, h4, ← h0]
     have a1 := (s2.map entryP).symm.trans hq
     rw [List.map_cons, List.map_cons, e1] at a1
     rw [hlist]
     refine (s1.map entryP).trans ?_
     rw [List.map_cons, List.map_cons]
     exact a1.cons_inv.cons _
   · rcases List.mem_cons.1 hq with rfl | hq
     · exact hk2
     · exact hz q (by simp [hq])
end
/-- 'for .. range m' under way: block km is the map, block r the iterator; 'dn' has come, 'left' has not come yet. -/
def RangeAs (P : Program) (k : TypeId) (f : α → Value × Value) (w : World) (km r : Nat) (ps dn left : List α) : Prop :=
 ∃ es clock since seen c0, w.heap[km]? = some (.map es clock) ∧ MapKept.Stamped es clock ∧ (es.toList.map entryP).Perm (ps.map f) ∧ (∀ p ∈ ps, ∃ l, keyOf P k (f p).1 = some l) ∧
   w.heap[r]? = some (.mapIter (some km) since seen c0) ∧ (∀ x ∈ es.toList, x.born < since) ∧ since ≤ c0 ∧ since ≤ clock ∧ ((leftOf es seen).toList.map entryP).Perm (left.map f) ∧ ps.Perm (dn ++ left)
variable {dn left : List α} {r : Nat}
theorem RangeAs.map (h : RangeAs P k f w km r ps dn left) : MapAs P k f w km ps := by
 obtain ⟨es, clock, since, seen, c0, hb, hs, hq, hz, _⟩ := h
 exact ⟨es, clock, hb, hs, hq, hz⟩
theorem RangeAs.all (h : RangeAs P k f w km r ps dn left) : ps.Perm (dn ++ left) := by
 obtain ⟨es, clock, since, seen, c0, hb, hs, hq, hz, hr, h1, h2, h3, h4, h5⟩ := h
 exact h5
theorem RangeAs.lt (h : RangeAs P k f w km r ps dn left) : r < w.heap.size := by
 obtain ⟨es, clock, since, seen, c0, hb, hs, hq, hz, hr, _⟩ := h
 exact (Array.getElem?_eq_some_iff.1 hr).1
theorem RangeAs.same (h : RangeAs P k f w km r ps dn left) (h1 : w'.heap[km]? = w.heap[km]?) (h2 : w'.heap[r]? = w.heap[r]?) : RangeAs P k f w' km r ps dn left := by
 obtain ⟨es, clock, since, seen, c0, hb, hs, hq, hz, hr, rest⟩ := h
 exact ⟨es, clock, since, seen, c0, h1.trans hb, hs, hq, hz, h2.trans hr, rest⟩
theorem RangeAs.on (h : RangeAs P k f w km r ps dn left) (hb : Below w.heap.size w w') : RangeAs P k f w' km r ps dn left := h.same (hb.block km h.map.lt) (hb.block r h.lt)
theorem RangeAs.grown {q : Option Nat} (h : RangeAs P k f w km r ps dn left) (hg : w.grownBy w' q) (h1 : q ≠ some km) (h2 : q ≠ some r) : RangeAs P k f w' km r ps dn left := h.same (hg.block km h.map.lt fun e => h1 e.symm) (hg.block r h.lt fun e => h2 e.symm)
theorem RangeAs.ne (h : RangeAs P k f w km r ps dn left) : r ≠ km := by
 obtain ⟨es, clock, since, seen, c0, hb, hs, hq, hz, hr, _⟩ := h
 intro e
 rw [e, hb] at hr
 cases hr
theorem leftAs_all (es : Array MapEntry) : leftOf es #[] = es := by
 unfold leftOf
 exact Array.filter_eq_self.2 fun x hx => by simp
theorem mapHeapOld {w : World} {c} {j : Nat} (h : j < w.heap.size) : (w.alloc c).heap[j]? = w.heap[j]? := ((Below.refl w.heap.size w).alloc (Nat.le_refl _) c).block j h
theorem mapAs_range {t e : TypeId} (ht : P.underlying t = some (.map k e)) (h : MapAs P k f w km ps) : ∃ w', (Instr.range t (.map (some km))).run P w = .ok (.pointer (some ⟨w.heap.size, 0, none⟩)) w' ∧ RangeAs P k f w' km w.heap.size ps [] ps ∧ Below w.heap.size w w' ∧ w'.heap.size = w.heap.size + 1 := by
 have hlt := h.lt
 obtain ⟨es, clock, hb, hs, hq, hz⟩ := h
 refine ⟨_, run_range_map w t k e km es clock ht hb, ⟨es, clock, clock, #[], clock, (mapHeapOld hlt).trans hb, hs, hq, hz, heap_alloc_new w _, hs.1, Nat.le_refl _, Nat.le_refl _, ?_, List.Perm.refl _⟩, (Below.refl _ w).alloc (Nat.le_refl _) _, by simp⟩
 rw [leftAs_all]
 exact hq
theorem nodupAs_split (e : MapEntry) : ∀ (l : List MapEntry), (l.map (·.born)).Nodup → e ∈ l → l.Perm (e :: l.filter fun x => !(x.born == e.born))
 | x :: l, hn, he => by
   rw [List.map_cons, List.nodup_cons] at hn
   rcases List.mem_cons.1 he with rfl | h
   · rw [List.filter_cons_of_neg (by simp), List.filter_eq_self.2 fun y hy => by
      have : y.born ≠ e.born := fun e1 => hn.1 (by rw [← e1]; exact List.mem_map.2 ⟨y, hy, rfl⟩)
      simp [this]]
   · have hne : x.born ≠ e.born := fun e1 => hn.1 (by rw [e1]; exact List.mem_map.2 ⟨e, h, rfl⟩)
     rw [List.filter_cons_of_pos (by simp [hne])]
     exact ((nodupAs_split e l hn.2 h).cons x).trans (List.Perm.swap _ _ _)
theorem leftAs_push (es : Array MapEntry) (seen : Array Nat) (b : Nat) : (leftOf es (seen.push b)).toList = (leftOf es seen).toList.filter fun x => !(x.born == b) := by
 unfold leftOf
 rw [Array.toList_filter, Array.toList_filter, List.filter_filter]
 refine List.filter_congr fun x _ => ?_
 rw [contains_push]
 cases seen.contains x.born <;> cases (x.born == b) <;> rfl
/-- The step. -/
theorem mapAs_next (h : RangeAs P k f w km r ps dn left) (ty : TypeId) :
 (left = [] ∧ (Instr.next (.pointer (some ⟨r, 0, none⟩)) false ty).run P w = .ok (.tuple #[.bool false]) w) ∨
 ∃ (p : α) (left' : List α) (w' : World), left.Perm (p :: left') ∧ p ∈ ps ∧ (Instr.next (.pointer (some ⟨r, 0, none⟩)) false ty).run P w = .ok (.tuple #[.bool true, (f p).1, (f p).2]) w' ∧
   RangeAs P k f w' km r ps (dn ++ [p]) left' ∧ w.grownBy w' (some r) ∧ w'.heap.size = w.heap.size ∧ (Instr.entry (.pointer (some ⟨r, 0, none⟩))).run P w' = .ok (.tuple #[(f p).1, (f p).2]) w' := by
 have hne := h.ne
 obtain ⟨es, clock, since, seen, c0, hb, hs, hq, hz, hr, hold, hsc, hsk, hl, hall⟩ := h
 have hst := (MapKept.stamped_iff es clock).1 hs
 rcases run_next_at (P := P) w ty r km since c0 seen es clock hr hb hold hsc with ⟨h0, hrun⟩ | ⟨e, he, w1, hal, hrun⟩
 · left
   refine ⟨?_, hrun⟩
   have := hl.length_eq
   rw [List.length_map, List.length_map, Array.length_toList, h0] at this
   exact List.eq_nil_of_length_eq_zero this.symm
 · right
   obtain ⟨hem, _⟩ := mem_left he
   obtain ⟨p, hp, e1⟩ := List.mem_map.1 (hl.mem_iff.1 (List.mem_map.2 ⟨e, he, rfl⟩))
   obtain ⟨l1, l2, rfl⟩ := List.append_of_mem hp
   have hsplit : (l1 ++ p :: l2).Perm (p :: (l1 ++ l2)) := List.perm_middle
   have hpm : p ∈ ps := hall.mem_iff.2 (by simp)
   have hall2 : ps.Perm ((dn ++ [p]) ++ (l1 ++ l2)) := by
    refine hall.trans ?_
    rw [List.append_assoc]
    exact hsplit.append_left dn
   have ek : e.key = (f p).1 := (congrArg Prod.fst e1).symm
   have ev : e.val = (f p).2 := (congrArg Prod.snd e1).symm
   have hr1 : w1.heap[r]? = some (.mapIter (some km) since seen c0) := by rcases hal with rfl | rfl <;> exact hr
   have hb1 : w1.heap[km]? = some (.map es clock) := by rcases hal with rfl | rfl <;> exact hb
   have hset := MapKept.heap_set (o' := .mapIter (some km) since (seen.push e.born) clock) hr1
   have hb' : (setBlock w1 r (.mapIter (some km) since (seen.push e.born) clock)).heap[km]? = some (.map es clock) := (hset.2 km (fun e1 => hne e1.symm)).trans hb1
   refine ⟨p, l1 ++ l2, setBlock w1 r (.mapIter (some km) since (seen.push e.born) clock), hsplit, hpm, by rw [← ek, ← ev]; exact hrun, ⟨es, clock, since, seen.push e.born, clock, hb', hs, hq, hz, hset.1, hold, hsk, hsk, ?_, hall2⟩, ?_, ?_, ?_⟩
   · rw [leftAs_push]
     have hnd : ((leftOf es seen).toList.map (·.born)).Nodup := by
      unfold leftOf
      rw [Array.toList_filter]
      exact hst.2.1.sublist (List.filter_sublist.map _)
     have a1 := ((nodupAs_split e _ hnd he).map entryP).symm.trans (hl.trans (hsplit.map f))
     rw [List.map_cons, List.map_cons] at a1
     have e2 : entryP e = f p := e1.symm
     rw [e2] at a1
     exact a1.cons_inv
   · rcases hal with rfl | rfl <;> exact ⟨rfl, rfl, rfl, by simp [setBlock], fun i _ hi => hset.2 i (fun e1 => hi (by rw [e1]))⟩
   · rcases hal with rfl | rfl <;> simp [setBlock]
   · have := run_entry_at (P := P) _ r km since seen es clock e hset.1 hb' hem hst.2.1
     rw [ek, ev] at this
     exact this
/-- How many are still to come, read off the world. -/
theorem RangeAs.count (h : RangeAs P k f w km r ps dn left) : w.rangeLeft km r = left.length := by
 obtain ⟨es, clock, since, seen, c0, hb, hs, hq, hz, hr, hold, hsc, hsk, hl, hall⟩ := h
 have := hl.length_eq
 rw [List.length_map, List.length_map, Array.length_toList] at this
 simp only [World.rangeLeft, hb, hr]
 exact this
end
end Go.Proofs.Ytipaebflkebdjaa
namespace Go.Proofs.Ytipaebflkebdjaa
open Go.RowKit
open Go.SeqMath
open Go.ProdMath
open Go.BatMath hiding AllB getD_lt take_all
set_option linter.unusedVariables false

/-- An entry: the producer's number, and its state. -/
def pmE (m : PM) : Value × Value := (.int .i64 m.p.id, .agg #[.int .i64 m.p.id, .int .i64 m.p.epoch, .slice m.ad m.p.last.length m.cap, .int .i64 m.p.opn])
abbrev TcMap (w : World) (km : Nat) (ms : List PM) : Prop := MapAs Try.prog 2 pmE w km ms
theorem keyI : Maps.Keyed Try.prog 2 := Maps.int_keyed Try.underlying2
theorem tcMapT : Try.prog.underlying 104 = some (.map 2 48) := Try.underlying104
theorem wf_i64 {n : Int} (h0 : -9223372036854775808 ≤ n) (h1 : n ≤ 9223372036854775807) : (Lit.int .i64 n).wf = true := by
 have e1 : IntKind.i64.min = -9223372036854775808 := rfl
 have e2 : IntKind.i64.max = 9223372036854775807 := rfl
 simp only [Lit.wf, e1, e2, Bool.and_eq_true, decide_eq_true_eq]
 omega
theorem key_int {n : Int} (h0 : -9223372036854775808 ≤ n) (h1 : n ≤ 9223372036854775807) : ∃ l, keyOf Try.prog 2 (.int .i64 n) = some l := ⟨_, Maps.keyOf_int_mk Try.underlying2 (wf_i64 h0 h1)⟩
/-! lists of them -/
def lookM (ms : List PM) (k : Int) : Option PM := ms.find? fun m => decide (m.p.id = k)
theorem lookM_p : ∀ (ms : List PM) (k : Int), (lookM ms k).map (·.p) = lookD (pds ms) k
 | [], k => rfl
 | m :: ms, k => by
   have ih := lookM_p ms k
   show _ = lookD (m.p :: pds ms) k
   rw [look_cons]
   unfold lookM at ih ⊢
   rw [List.find?_cons]
   by_cases h : m.p.id = k
   · rw [decide_eq_true h, if_pos h]; rfl
   · rw [decide_eq_false h, if_neg h]; exact ih
theorem lookM_some {ms : List PM} {k : Int} {m : PM} (h : lookM ms k = some m) : m ∈ ms ∧ m.p.id = k := ⟨List.mem_of_find?_eq_some h, by simpa using List.find?_some h⟩
theorem lookM_none {ms : List PM} {k : Int} (h : lookM ms k = none) : ∀ m ∈ ms, m.p.id ≠ k := by
 unfold lookM at h
 rw [List.find?_eq_none] at h
 intro m hm e
 exact h m hm (by simp [e])
def insM : List PM → PM → List PM
 | [], x => [x]
 | m :: ms, x => if m.p.id < x.p.id then m :: insM ms x else if m.p.id = x.p.id then x :: ms else x :: m :: ms
theorem insM_pds : ∀ (ms : List PM) (x : PM), pds (insM ms x) = insD (pds ms) x.p
 | [], x => rfl
 | m :: ms, x => by
   have ih := insM_pds ms x
   show pds (insM (m :: ms) x) = insD (m.p :: pds ms) x.p
   unfold insM insD
   split
   · show m.p :: pds (insM ms x) = _
     rw [ih]
   · split <;> rfl
theorem insM_new : ∀ (ms : List PM) (x : PM), (∀ m ∈ ms, m.p.id ≠ x.p.id) → (insM ms x).Perm (x :: ms)
 | [], x, _ => List.Perm.refl _
 | m :: ms, x, h => by
   unfold insM
   split
   · exact ((insM_new ms x fun q hq => h q (by simp [hq])).cons m).trans (List.Perm.swap _ _ _)
   · rw [if_neg (h m (by simp))]
theorem insM_old : ∀ (ms : List PM) (x m0 : PM), Asc (pds ms) → m0 ∈ ms → m0.p.id = x.p.id → ∃ rest, ms.Perm (m0 :: rest) ∧ (insM ms x).Perm (x :: rest)
 | m :: ms, x, m0, ha, hm, e => by
   have h1 := asc_head (p := m.p) (l := pds ms) ha
   unfold insM
   rcases List.mem_cons.1 hm with rfl | hm
   · rw [if_neg (by omega), if_pos e]
     exact ⟨ms, List.Perm.refl _, List.Perm.refl _⟩
   · have h2 := h1 m0.p (List.mem_map.2 ⟨m0, hm, rfl⟩)
     rw [if_pos (by omega)]
     obtain ⟨rest, r1, r2⟩ := insM_old ms x m0 (asc_tail (p := m.p) (l := pds ms) ha) hm e
     exact ⟨m :: rest, (r1.cons m).trans (List.Perm.swap _ _ _), (r2.cons m).trans (List.Perm.swap _ _ _)⟩
/-! what a block is -/
def IsMap (w : World) (k : Nat) : Prop := ∃ es c, w.heap[k]? = some (.map es c)
/-- A block that is one slice, of whatever type. -/
def IsSl (w : World) (k : Nat) : Prop := ∃ ad n cap t, w.heap[k]? = some (.cells #[.slice ad n cap] t (0, 0))
theorem cell_map {w : World} {k j : Nat} {x : Option Nat} (h : IsMap w k) : w.cell? ⟨k, j, none⟩ = none := by
 obtain ⟨es, c, h⟩ := h
 simp [World.cell?, h]
theorem MapAs.is {α : Type} {P : Program} {t : TypeId} {f : α → Value × Value} {w : World} {km : Nat} {ps : List α} (h : MapAs P t f w km ps) : IsMap w km := by
 obtain ⟨es, c, hb, _⟩ := h
 exact ⟨es, c, hb⟩
section
variable {α : Type} {K : Kind α} {w w' : World} {ad : Option Addr} {len cap k : Nat} {l : List α}
theorem RowAt.past_map (h : RowAt K w ad len cap l) (hg : w.grownBy w' (some k)) (hk : IsMap w k) : RowAt K w' ad len cap l := by
 refine ⟨h.length, h.fits, h.room, ?_⟩
 rcases h.cells with h0 | ⟨b, off, e, hlt, hc⟩
 · exact .inl h0
 · refine .inr ⟨b, off, e, Nat.lt_of_lt_of_le hlt hg.size, fun i x hi j u hj => hg.cell (hc i x hi j u hj) (fun e2 => ?_)⟩
   have h3 := hc i x hi j u hj
   have e3 : b = k := Option.some.inj e2
   rw [e3, cell_map (x := none) hk] at h3
   cases h3
end
theorem LastsAt.past_map {w w' : World} {k : Nat} {ms : List PM} (h : LastsAt w ms) (hg : w.grownBy w' (some k)) (hk : IsMap w k) : LastsAt w' ms := fun m hm => (h m hm).past_map hg hk
theorem TabBox.is {w : World} {k len cap : Nat} {ad : Option Addr} (h : TabBox w k (.slice ad len cap)) : IsSl w k := ⟨ad, len, cap, _, h⟩
/-- The document's own table stays where a map turns. -/
theorem TabOk.past_map {w w' : World} {kt k : Nat} {ad : Option Addr} {len cap : Nat} {ms : List PM} (h : TabOk w kt ad len cap ms) (hg : w.grownBy w' (some k)) (hk : IsMap w k) : TabOk w' kt ad len cap ms :=
 ⟨⟨h.tab.box.grown hg (fun e => by
  obtain ⟨es, c, hm⟩ := hk
  have hb := h.tab.box
  unfold TabBox at hb
  rw [← Option.some.inj e, hm] at hb
  cases hb), ⟨h.tab.pds.row.past_map hg hk, h.tab.pds.ins.past_map hg hk⟩⟩, fun a ha => ⟨(h.row a ha).1, Nat.lt_of_lt_of_le (h.row a ha).2 hg.size⟩, fun m hm a ha => ⟨(h.ins m hm a ha).1, Nat.lt_of_lt_of_le (h.ins m hm a ha).2 hg.size⟩⟩
/-! the code's table -/
def TcBox (w : World) (kt km : Nat) : Prop := w.heap[kt]? = some (.cells #[.map (some km)] 106 (0, 0))
section
variable {w w' : World} {kt km : Nat}
theorem TcBox.c0 (h : TcBox w kt km) : w.cell? ⟨kt, 0, none⟩ = some (.map (some km)) := by rw [cell_of_row _ _ 0 _ _ _ h]; rfl
theorem TcBox.free (h : TcBox w kt km) (j : Nat) : w.frozen? ⟨kt, j, none⟩ = false := frozen_of_row w kt j _ _ h
theorem TcBox.lt (h : TcBox w kt km) : kt < w.heap.size := lt_of_block h
theorem TcBox.same (h : TcBox w kt km) (he : w'.heap[kt]? = w.heap[kt]?) : TcBox w' kt km := he.trans h
theorem TcBox.on (h : TcBox w kt km) (hb : Below w.heap.size w w') : TcBox w' kt km := h.same (hb.block kt h.lt)
end
structure TcOk (w : World) (kt km : Nat) (ms : List PM) : Prop where
 box : TcBox w kt km
 map : TcMap w km ms
 ins : LastsAt w ms
section
variable {w w' : World} {kt km k : Nat} {ms : List PM}
theorem TcOk.keep (h : TcOk w kt km ms) (hb : Below w.heap.size w w') : TcOk w' kt km ms := ⟨h.box.on hb, h.map.on hb, h.ins.keep hb⟩
theorem TcBox.past_map (h : TcBox w kt km) (hg : w.grownBy w' (some k)) (hk : IsMap w k) : TcBox w' kt km := h.same (hg.block kt h.lt fun e => by
 obtain ⟨es, c, hm⟩ := hk
 unfold TcBox at h
 rw [Option.some.inj e, hm] at h
 cases h)
/-- Another map turns. -/
theorem TcOk.past_map (h : TcOk w kt km ms) (hg : w.grownBy w' (some k)) (hk : IsMap w k) (hne : k ≠ km) : TcOk w' kt km ms :=
 ⟨h.box.past_map hg hk, h.map.grown hg (fun e => hne (Option.some.inj e)), h.ins.past_map hg hk⟩
end
def GivesNewT (w : World) (e : Ending) (w' : World) : Prop := ∃ kt km, e = .returned (.pointer (some ⟨kt, 0, none⟩)) ∧ TcOk w' kt km [] ∧ Below w.heap.size w w' ∧ w.heap.size ≤ kt ∧ w.heap.size ≤ km
set_option maxRecDepth 100000 in
theorem tcNew_any (w : World) : Calls Try.prog 54 #[] w (GivesNewT w) := by
 have hmm := @run_makeMap Try.prog
 go_enter Try.func54, Try.ntmps54
 go_wp2
 go_ret
 have hb : Below w.heap.size w ((w.alloc (.map #[] 0)).alloc (.cells #[.map (some w.heap.size)] 106)) := ((Below.refl _ w).alloc (Nat.le_refl _) _).alloc (by simp) _
 refine ⟨_, _, rfl, ⟨?_, ?_, fun m hm => by cases hm⟩, hb, by simp, Nat.le_refl _⟩
 · have h1 := heap_alloc_new (w.alloc (.map #[] 0)) (.cells #[.map (some w.heap.size)] 106)
   show (_ : World).heap[_]? = _
   simpa using h1
 · exact (mapAs_new Try.prog 2 pmE w).on ((Below.refl _ _).alloc (by simp) _)
theorem tcOpen_any (w : World) (id ep op : Int) (ad : Option Addr) (n cap : Nat) (r : Bool) (hr : decide (0 ≤ op) = r) :
 Calls Try.prog 56 #[.agg #[.int .i64 id, .int .i64 ep, .slice ad n cap, .int .i64 op]] w fun e w' => e = .returned (.bool r) ∧ Below w.heap.size w w' := by
 have HR := Lib.hid hr
 clear hr
 obtain ⟨W0, hW0⟩ : ∃ W0, W0 = (w.alloc (.cells #[.int .i64 id, .int .i64 ep, .slice ad n cap, .int .i64 op] 48)) := ⟨_, rfl⟩
 have HB0 : Hid (Below w.heap.size w W0) := by show Below _ _ _; rw [hW0]; exact (Below.refl _ _).alloc (Nat.le_refl _) _
 have HP0 : Hid (PBox W0 w.heap.size (id) (ep) (.slice ad n cap) (op)) := by
  show PBox _ w.heap.size (id) (ep) (.slice ad n cap) (op)
  rw [hW0]
  have h1 := pbox_new w (id) (ep) (.slice ad n cap) (op)
  simpa using h1
 have HW0 := Lib.hid hW0
 clear hW0
 obtain ⟨B1, hB1⟩ : ∃ B, B = w.heap.size := ⟨_, rfl⟩
 rw [← hB1] at HP0
 go_enter Try.func56, Try.ntmps56
 go_upto_region 1 with fail
 rw [← HW0.out, ← hB1]
 clear HW0 hB1
 have q3 := HP0.out.c3
 go_wp2
 go_ret
 exact ⟨by rw [← HR.out]; rfl, HB0.out⟩
end Go.Proofs.Ytipaebflkebdjaa
namespace Go.Proofs.Ytipaebflkebdjaa
open Go.RowKit
open Go.SeqMath
open Go.ProdMath
open Go.BatMath hiding AllB getD_lt take_all
set_option linter.unusedVariables false

/-- What a look-up finds: the state of a producer, or none. -/
theorem tc_look (ms : List PM) (id : Int) (h0 : -9223372036854775808 ≤ id) (h1 : id ≤ 9223372036854775807) (hfew : fewP (pds ms)) :
 ∃ (p : Pd) (kn : Bool) (ad : Option Addr) (n cap : Nat), (lookD (pds ms) id).getD Pd.zero = p ∧ (lookD (pds ms) id).isSome = kn ∧ n ≤ 5 ∧
   (∀ W km, TcMap W km ms → (Instr.lookup 104 (.map (some km)) (.int .i64 id) true).run Try.prog W = .ok (.tuple #[.agg #[.int .i64 p.id, .int .i64 p.epoch, .slice ad n cap, .int .i64 p.opn], .bool kn]) W) ∧
   (∀ W km, TcMap W km ms → (Instr.lookup 104 (.map (some km)) (.int .i64 id) false).run Try.prog W = .ok (.agg #[.int .i64 p.id, .int .i64 p.epoch, .slice ad n cap, .int .i64 p.opn]) W) ∧
   ∀ W, LastsAt W ms → RowAt trK W ad n cap p.last := by
 have hl := lookM_p ms id
 cases hm : lookM ms id with
 | none =>
   rw [hm] at hl
   refine ⟨Pd.zero, false, none, 0, 0, by rw [← hl]; rfl, by rw [← hl]; rfl, by omega, fun W km hW => ?_, fun W km hW => ?_, fun W hW => rowAt_nil W⟩
   all_goals have hz : (zeroValue 48).run Try.prog W = .ok (.agg #[.int .i64 0, .int .i64 0, .slice none 0 0, .int .i64 0]) W := Try.zeroValue48 W
   · exact mapAs_none tcMapT keyI hW _ (key_int h0 h1) (fun q hq e => lookM_none hm q hq (by simpa [pmE] using e)) _ hz true
   · exact mapAs_none tcMapT keyI hW _ (key_int h0 h1) (fun q hq e => lookM_none hm q hq (by simpa [pmE] using e)) _ hz false
 | some m =>
   rw [hm] at hl
   obtain ⟨hmem, hid⟩ := lookM_some hm
   refine ⟨m.p, true, m.ad, m.p.last.length, m.cap, by rw [← hl]; rfl, by rw [← hl]; rfl, hfew m.p (List.mem_map.2 ⟨m, hmem, rfl⟩), fun W km hW => ?_, fun W km hW => ?_, fun W hW => hW m hmem⟩
   · have h2 := mapAs_some tcMapT keyI hW m hmem true
     rw [← hid]
     exact h2
   · have h2 := mapAs_some tcMapT keyI hW m hmem false
     rw [← hid]
     exact h2
end Go.Proofs.Ytipaebflkebdjaa
namespace Go.Proofs.Ytipaebflkebdjaa
open Go.RowKit
open Go.SeqMath
open Go.ProdMath
open Go.BatMath hiding AllB getD_lt take_all
set_option linter.unusedVariables false

theorem prAp_old (w : World) (o : Obj) {r : Nat} (h : r < w.heap.size) : (w.alloc o).heap[r]? = w.heap[r]? := by
 show (w.heap.push o)[r]? = _
 rw [Array.getElem?_push_lt h, Array.getElem?_eq_getElem h]
/-- The blocks ahead of the result: the batch that came in, the result's, and how many there are. -/
structure AP (w : World) (xo : Obj) (W : World) : Prop where
 xb : W.heap[w.heap.size + 1]? = some xo
 rb : PBox W (w.heap.size + 2) 0 0 (.slice none 0 0) 0
 sz : W.heap.size = w.heap.size + 3
 bel : Below w.heap.size w W
theorem AP.p {w W : World} {xo : Obj} (h : AP w xo W) (j : Nat) (u : Value) : AP w xo (W.setCell ⟨w.heap.size, j, none⟩ u) :=
 ⟨box_off h.xb (by omega) _, h.rb.off (by omega) _, by rw [size_set]; exact h.sz, h.bel.setCell (Nat.le_refl _) _⟩
theorem resultsPrApply {tmps : Array Value} {B : Nat} {W : World} {b0 b1 b3 : Int} {v : Value} (h : PBox W B b0 b1 v b3) (ht : tmps.getD 6 undef = .pointer (some ⟨B, 0, none⟩)) :
 (results Try.f69 tmps).run Try.prog W = .ok (.agg #[.int .i64 b0, .int .i64 b1, v, .int .i64 b3]) W := by
 rw [results_cell_one (p := 6) (ty := 48) Try.results69, ht]
 have hl := run_loadVar_row (P := Try.prog) W B 48 48 _ (0, 0) _ h Try.underlying48 rfl (by kernel_rfl)
 simp only [asAddr, Sem.run_pure, Result.andThen, hl]
/-- What the walk knows ahead of the new state. -/
def ApCut (w : World) (xo : Obj) (b2 : Int) (l0 : List Tr) (o0 : Int) (W : World) : Prop :=
 ∃ i1 e1 a1 n1 c1 o1 l1, AP w xo W ∧ PBox W w.heap.size i1 e1 (.slice a1 n1 c1) o1 ∧ RowAt trK W a1 n1 c1 l1 ∧ n1 ≤ 1000000 ∧ Hid ((if b2 = e1 then l1 else []) = l0) ∧ Hid (o1 = o0)
set_option maxRecDepth 100000 in
set_option maxHeartbeats 8000000 in
theorem prApply_any (w : World) (id ep op : Int) (last : List Tr) (ad : Option Addr) (n cap : Nat) (hl : RowAt trK w ad n cap last) (hn : n ≤ 1000000) (known : Bool) (b0 b1 b2 b3 : Int) (b4 : Bool) (b5 : Int) (recs : List Rc) (rd : Option Addr) (rn rc : Nat) (hrl : recs.length = rn) (hrn : rn ≤ 140737488355328) (p : Pd) (hp : applyD ⟨id, ep, last, op⟩ known ⟨b0, b1, b2, b3, b4, b5, recs⟩ = p) :
 Calls Try.prog 69 #[.agg #[.int .i64 id, .int .i64 ep, .slice ad n cap, .int .i64 op], .bool known, .agg #[.int .i64 b0, .int .i64 b1, .int .i64 b2, .int .i64 b3, .bool b4, .int .i64 b5, .slice rd rn rc]] w (GivesApply w p) := by
 obtain ⟨xo, hxo⟩ : ∃ xo : Obj, xo = (.cells #[.int .i64 b0, .int .i64 b1, .int .i64 b2, .int .i64 b3, .bool b4, .int .i64 b5, .slice rd rn rc] 52 (0, 0)) := ⟨_, rfl⟩
 obtain ⟨W0, hW0⟩ : ∃ W0, W0 = (((w.alloc (.cells #[.int .i64 id, .int .i64 ep, .slice ad n cap, .int .i64 op] 48)).alloc (.cells #[.int .i64 b0, .int .i64 b1, .int .i64 b2, .int .i64 b3, .bool b4, .int .i64 b5, .slice rd rn rc] 52)).alloc (.cells #[.int .i64 0, .int .i64 0, .slice none 0 0, .int .i64 0] 48)) := ⟨_, rfl⟩
 have HA0 : Hid (AP w xo W0) := by
  show AP _ _ _
  rw [hW0, hxo]
  have e2 := Below.refl w.heap.size w
  refine ⟨?_, ?_, by simp, ((e2.alloc (Nat.le_refl _) _).alloc (by simp) _).alloc (by simp <;> omega) _⟩
  · rw [prAp_old _ _ (by simp)]
    have := heap_alloc_new (w.alloc (.cells #[.int .i64 id, .int .i64 ep, .slice ad n cap, .int .i64 op] 48)) (.cells #[.int .i64 b0, .int .i64 b1, .int .i64 b2, .int .i64 b3, .bool b4, .int .i64 b5, .slice rd rn rc] 52)
    simpa using this
  · show (_ : World).heap[_]? = _
    have := heap_alloc_new ((w.alloc (.cells #[.int .i64 id, .int .i64 ep, .slice ad n cap, .int .i64 op] 48)).alloc (.cells #[.int .i64 b0, .int .i64 b1, .int .i64 b2, .int .i64 b3, .bool b4, .int .i64 b5, .slice rd rn rc] 52)) (.cells #[.int .i64 0, .int .i64 0, .slice none 0 0, .int .i64 0] 48)
    simpa using this
 have HPB : Hid (PBox W0 w.heap.size id ep (.slice ad n cap) op) := by
  show (_ : World).heap[_]? = _
  rw [hW0, prAp_old _ _ (by simp <;> omega), prAp_old _ _ (by simp)]
  exact heap_alloc_new w _
 have HL0 := Lib.hid (hl.keep HA0.out.bel)
 have HPP : Hid (applyD ⟨id, ep, last, op⟩ known ⟨b0, b1, b2, b3, b4, b5, recs⟩ = p) := hp
 have HRL := Lib.hid hrl
 have HXO := Lib.hid hxo
 clear hl hp hrl hxo
 go_enter Try.func69, Try.ntmps69
 go_upto_if 9 with (fail)
 rw [← hW0]
 clear hW0
 obtain ⟨l0, hl0⟩ : ∃ l0, l0 = oldLast ⟨id, ep, last, op⟩ known ⟨b0, b1, b2, b3, b4, b5, recs⟩ := ⟨_, rfl⟩
 obtain ⟨o0, ho0⟩ : ∃ o0, o0 = oldOpen ⟨id, ep, last, op⟩ known := ⟨_, rfl⟩
 have HPE1 : Hid (b5 ≠ 0 → p = ⟨b1, b2, l0, -1⟩) := by
  intro hm
  rw [← HPP.out, hl0]
  simp [applyD, hm]
 have HPE2 : Hid (b5 = 0 → ∀ oz, oz = (if b4 = true ∧ o0 < 0 then b0 else o0) → p = ⟨b1, b2, newLast l0 ⟨b3, lastI b3 rn, b0⟩, oz⟩) := by
  intro hm oz hoz
  rw [hoz, ← HPP.out, hl0, ho0, ← HRL.out]
  simp [applyD, hm]
 have HLE : Hid (l0 = if known = true ∧ ep = b2 then last else []) := by show l0 = _; rw [hl0]; rfl
 have HOE : Hid (o0 = if known = true then op else -1) := by show o0 = _; rw [ho0]; rfl
 clear hl0 ho0 HPP HRL
 go_cut [] from 8 (fun wx => ApCut w xo b2 l0 o0 wx)
 case first =>
  have q0 := HPB.out.c0
  have q1 := HPB.out.c1
  have q2 := HPB.out.c2
  have q3 := HPB.out.c3
  have f0 := HPB.out.free 0
  have f1 := HPB.out.free 1
  have f2 := HPB.out.free 2
  have f3 := HPB.out.free 3
  cases known
  · go_wp2
    go_meet
    case rel =>
     refine ⟨0, 0, none, 0, 0, -1, [], (((HA0.out.p 0 _).p 1 _).p 2 _).p 3 _, (((HPB.out.s0 0).s1 0).s2 (.slice none 0 0)).s3 (-1), rowAt_nil _, by omega, ?_, ?_⟩
     · show _ = _; rw [HLE.out]; simp
     · show _ = _; rw [HOE.out]; rfl
  · go_wp2
    go_meet
    case rel =>
     refine ⟨id, ep, ad, n, cap, op, last, HA0.out, HPB.out, HL0.out, hn, ?_, ?_⟩
     · show _ = _
       rw [HLE.out]
       by_cases h : b2 = ep
       · rw [if_pos h, if_pos (by simp [h])]
       · rw [if_neg h, if_neg (fun h2 => h h2.2.symm)]
     · show _ = _; rw [HOE.out]; rfl
 case rest =>
  obtain ⟨i1, e1, a1, n1, c1, o1, l1, hap, hpb, hrw, hn1, hle, hoe⟩ := hcut
  have HAP := Lib.hid hap
  have HPB1 := Lib.hid hpb
  have HRW := Lib.hid hrw
  clear hap hpb hrw HA0 HPB HL0 HLE HOE hn
  have hxb : BoxAt wc (w.heap.size + 1) b0 b1 b2 b3 b4 b5 (.slice rd rn rc) := by have := HAP.out.xb; rw [HXO.out] at this; exact this
  have HXB := Lib.hid hxb
  clear hxb
  have x1 := HXB.out.c1
  have x2 := HXB.out.c2
  have y1 := HPB1.out.c1
  go_upto_region 4 with fail
  obtain ⟨W1, hW1⟩ : ∃ W1, W1 = wc.alloc (.cells #[.int .i64 b1, .int .i64 b2, .slice none 0 0, .int .i64 (-1)] 48) := ⟨_, rfl⟩
  obtain ⟨po, hpo⟩ : ∃ po : Obj, po = .cells #[.int .i64 i1, .int .i64 e1, .slice a1 n1 c1, .int .i64 o1] 48 (0, 0) := ⟨_, rfl⟩
  have hb1 : Below wc.heap.size wc W1 := by rw [hW1]; exact (Below.refl _ _).alloc (Nat.le_refl _) _
  have HPB2 := Lib.hid (HPB1.out.on hb1)
  have HA1 : Hid (AS w po xo b1 b2 (.slice none 0 0) (-1) W1) := by
   show AS _ _ _ _ _ _ _ _
   refine ⟨by rw [hpo]; exact HPB2.out, ?_, HAP.out.rb.on hb1, ?_, HAP.out.bel.trans (hb1.mono HAP.out.bel.size)⟩
   · rw [hb1.block _ (lt_of_block HAP.out.xb)]; exact HAP.out.xb
   · have h3 := pbox_new wc b1 b2 (.slice none 0 0) (-1)
     rw [← hW1, HAP.out.sz] at h3
     exact h3
  have HL1 := Lib.hid (HRW.out.keep hb1)
  have HXB1 := Lib.hid (HXB.out.on hb1)
  have hsz := HAP.out.sz
  rw [← hW1, hsz]
  have HPO := Lib.hid hpo
  clear hW1 hb1 hsz x1 x2 y1 HPB1 HRW HXB HAP hpo
  have x2 := HXB1.out.c2
  have y1 := HPB2.out.c1
  have y2 := HPB2.out.c2
  have o2 := HA1.out.ob.c2
  have f2 := HA1.out.ob.free 2
  go_upto_if 20 with (fail)
  go_cut [] from 16 (fun wx => ∃ v, AS w po xo b1 b2 v (-1) wx ∧ OwnRow trK wx (w.heap.size + 4) v l0)
  case first =>
   by_cases hee : b2 = e1
   · have hd : (b2 == e1) = true := by rw [hee]; simp
     have e2 : l0 = l1 := by rw [← hle.out, if_pos hee]
     have HE2 := Lib.hid e2
     have HVE : Hid (OwnRow trK W1 (w.heap.size + 4) (.slice none 0 0) []) := ownRow_nil _ _ _
     clear hee e2
     go_wp2_with (at_builtin; refine list_row (by rfl) trK_ok (.tmp 22) (.tmp 24) rfl (w.heap.size + 4) [] l1 _ rfl HVE.out HA1.out.lt a1 n1 c1 rfl HL1.out (by rw [List.length_nil]; omega) ?_)
     intro v2 w2 hap
     obtain ⟨ad2, cap2, hv2, _, _⟩ := OwnRow.row trK_ok (l := l1) (n := n1) hap.1 HL1.out.length
     subst hv2
     have HO2 : Hid (OwnRow trK w2 (w.heap.size + 4) (.slice ad2 n1 cap2) l1) := hap.1
     have HA2 : Hid (AS w po xo b1 b2 (.slice none 0 0) (-1) w2) := HA1.out.grown hap.2.1 fun k hk => (HVE.out.lt k hk).1
     clear hap HVE o2 f2
     have o2 := HA2.out.ob.c2
     have f2 := HA2.out.ob.free 2
     go_wp2
     go_meet
     case rel => exact ⟨_, HA2.out.s2 (.slice ad2 n1 cap2), by rw [HE2.out]; exact HO2.out.off (by omega) _ _⟩
   · have hd : (b2 == e1) = false := beq_false_of_ne hee
     have e2 : l0 = [] := by rw [← hle.out, if_neg hee]
     clear hee
     go_wp2
     go_meet
     case rel => exact ⟨_, HA1.out, by rw [e2]; exact ownRow_nil _ _ _⟩
  case rest =>
   obtain ⟨v, ha, ho⟩ := hcut
   have HA := Lib.hid ha
   have HO := Lib.hid ho
   have hxb : BoxAt wc (w.heap.size + 1) b0 b1 b2 b3 b4 b5 (.slice rd rn rc) := by have := ha.xb; rw [HXO.out] at this; exact this
   have HXC := Lib.hid hxb
   have hn0 : l0.length ≤ 1000000 := by
    have hll := HL1.out.length
    rw [← hle.out]
    split
    · omega
    · exact Nat.zero_le _
   clear hxb ha ho HXB1 HPB2 HA1 HL1 hle x2 y1 y2 o2 f2
   obtain ⟨n0, hln0⟩ : ∃ n0, l0.length = n0 := ⟨_, rfl⟩
   rw [hln0] at hn0
   obtain ⟨ad0, cap0, hv0, hr0, hk0⟩ := OwnRow.row trK_ok HO.out hln0
   subst hv0
   have HLN := Lib.hid hln0
   have HR0 := Lib.hid hr0
   have HK0 : Hid (∀ a, ad0 = some a → w.heap.size + 4 ≤ a.block ∧ a.block < wc.heap.size) := fun a ha => hk0 a ha
   clear hln0 hr0 hk0
   have p5 := HXC.out.c5
   by_cases hm : b5 = 0
   · have hd : (b5 == 0) = true := by rw [hm]; rfl
     have hdn : (b5 != 0) = false := by rw [hm]; rfl
     have HPE : Hid (∀ oz, oz = (if b4 = true ∧ o0 < 0 then b0 else o0) → p = ⟨b1, b2, newLast l0 ⟨b3, lastI b3 rn, b0⟩, oz⟩) := HPE2.out hm
     obtain ⟨lv, hlv⟩ : ∃ lv, lastI b3 rn = lv := ⟨_, rfl⟩
     rw [hlv] at HPE
     have HLV := Lib.hid hlv
     have HM := Lib.hid hm
     clear HPE1 HPE2 hm hlv
     go_upto_region 8 with fail
     clear p5
     have KS : Hid (∀ W, AS w po xo b1 b2 (.slice ad0 n0 cap0) (-1) W → (fun (W : World) => W.cell? ⟨(w.heap.size + 1), 0, none⟩ = some (.int .i64 b0) ∧ W.cell? ⟨(w.heap.size + 1), 1, none⟩ = some (.int .i64 b1) ∧ W.cell? ⟨(w.heap.size + 1), 2, none⟩ = some (.int .i64 b2) ∧ W.cell? ⟨(w.heap.size + 1), 3, none⟩ = some (.int .i64 b3) ∧ W.cell? ⟨(w.heap.size + 1), 4, none⟩ = some (.bool b4) ∧ W.cell? ⟨(w.heap.size + 1), 5, none⟩ = some (.int .i64 b5) ∧ W.cell? ⟨(w.heap.size + 1), 6, none⟩ = some (.slice rd rn rc) ∧ W.cell? ⟨(w.heap.size + 3), 0, none⟩ = some (.int .i64 b1) ∧ W.cell? ⟨(w.heap.size + 3), 1, none⟩ = some (.int .i64 b2) ∧ W.cell? ⟨(w.heap.size + 3), 2, none⟩ = some (.slice ad0 n0 cap0) ∧ W.cell? ⟨(w.heap.size + 3), 3, none⟩ = some (.int .i64 (-1)) ∧ W.frozen? ⟨w.heap.size + 3, 2, none⟩ = false) W) := by
      intro W hW
      have hX : BoxAt W (w.heap.size + 1) b0 b1 b2 b3 b4 b5 (.slice rd rn rc) := by have := hW.xb; rw [HXO.out] at this; exact this
      exact ⟨hX.c0, hX.c1, hX.c2, hX.c3, hX.c4, hX.c5, hX.c6, hW.ob.c0, hW.ob.c1, hW.ob.c2, hW.ob.c3, hW.ob.free 2⟩
     have hdr : Below wc.heap.size wc wc.drew := (Below.refl _ wc).drew
     have HAd := Lib.hid (HA.out.on hdr)
     have HOd := Lib.hid (HO.out.on hdr)
     refine wp_region_noPanic ?_
     refine wp_region_z [12] (fun (W : World) => W.cell? ⟨(w.heap.size + 1), 0, none⟩ = some (.int .i64 b0) ∧ W.cell? ⟨(w.heap.size + 1), 1, none⟩ = some (.int .i64 b1) ∧ W.cell? ⟨(w.heap.size + 1), 2, none⟩ = some (.int .i64 b2) ∧ W.cell? ⟨(w.heap.size + 1), 3, none⟩ = some (.int .i64 b3) ∧ W.cell? ⟨(w.heap.size + 1), 4, none⟩ = some (.bool b4) ∧ W.cell? ⟨(w.heap.size + 1), 5, none⟩ = some (.int .i64 b5) ∧ W.cell? ⟨(w.heap.size + 1), 6, none⟩ = some (.slice rd rn rc) ∧ W.cell? ⟨(w.heap.size + 3), 0, none⟩ = some (.int .i64 b1) ∧ W.cell? ⟨(w.heap.size + 3), 1, none⟩ = some (.int .i64 b2) ∧ W.cell? ⟨(w.heap.size + 3), 2, none⟩ = some (.slice ad0 n0 cap0) ∧ W.cell? ⟨(w.heap.size + 3), 3, none⟩ = some (.int .i64 (-1)) ∧ W.frozen? ⟨w.heap.size + 3, 2, none⟩ = false) (by kernel_rfl) ?_
     have hHeld := KS.out _ HAd.out
     obtain ⟨u0, hu0⟩ : ∃ u, u = wc.drew := ⟨_, rfl⟩
     rw [← hu0] at hHeld HAd HOd
     rw [← hu0]
     clear hu0
     refine zt 0 ?_
     refine zt 1 ?_
     refine zt 2 ?_
     refine zt 3 ?_
     refine zt 4 ?_
     refine zt 6 ?_
     refine zt 7 ?_
     refine zr 5 (fun C hC => ?_)
     go_simp
     refine (prEnd_any u0 b0 b1 b2 b3 b4 b5 rd rn rc HM.out hrn lv HLV.out).mono ?_
     rintro e uz ⟨rfl, hbz⟩
     have HAz := Lib.hid (HAd.out.on hbz)
     have HOz := Lib.hid (HOd.out.on hbz)
     clear hbz
     go_wp2_with fail
     have hHeld := KS.out _ HAz.out
     refine zc hC hHeld ?_
     clear hC C
     refine zt 8 ?_
     refine zr 9 (fun C hC => ?_)
     go_simp
     obtain ⟨u1, hu1⟩ : ∃ u, u = uz.alloc (.cells #[.int .i64 b3, .int .i64 lv, .int .i64 b0] 93) := ⟨_, rfl⟩
     have hb1 : Below uz.heap.size uz u1 := by rw [hu1]; exact (Below.refl _ _).alloc (Nat.le_refl _) _
     have HA1 := Lib.hid (HAz.out.on hb1)
     have HO1 := Lib.hid (HOz.out.on hb1)
     have HX1 : Hid (RowAt trK u1 (some ⟨uz.heap.size, 0, none⟩) 1 1 [⟨b3, lv, b0⟩]) := by show RowAt _ _ _ _ _ _; rw [hu1]; exact rowAt_lit trK_ok uz [⟨b3, lv, b0⟩] (by simp) _ rfl 1 rfl
     obtain ⟨G0, hG0⟩ : ∃ G, G = uz.heap.size := ⟨_, rfl⟩
     rw [← hG0] at HX1
     rw [← hu1, ← hG0]
     clear hu1 hb1 hG0
     have hHeld := KS.out _ HA1.out
     refine zc hC hHeld ?_
     clear hC C
     refine zr 10 (fun C hC => ?_)
     refine held_row (by rfl) trK_ok (.tmp 32) (.tmp 40) rfl (w.heap.size + 4) l0 [⟨b3, lv, b0⟩] _ rfl HO1.out HA1.out.lt (some ⟨G0, 0, none⟩) 1 1 rfl HX1.out (by rw [HLN.out]; omega) ?_
     rintro v2 u2 hap
     obtain ⟨ad2, cap2, hv2, hr2, hk2⟩ := OwnRow.row trK_ok hap.1 (n := n0 + 1) (by rw [List.length_append, HLN.out]; rfl)
     subst hv2
     have HA2 : Hid (AS w po xo b1 b2 (.slice ad0 n0 cap0) (-1) u2) := HA1.out.grown hap.2.1 fun k hk => (HO1.out.lt k hk).1
     have HR2 := Lib.hid hr2
     have HK2 : Hid (∀ a, ad2 = some a → w.heap.size + 4 ≤ a.block ∧ a.block < u2.heap.size) := fun a ha => hk2 a ha
     clear hap hr2 hk2 HO1 HA1 HX1 HAz HOz
     have hHeld := KS.out _ HA2.out
     refine zc hC hHeld ?_
     clear hC C
     refine zt 11 ?_
     refine zr 12 (fun C hC => ?_)
     go_simp
     refine hC.out _ _ (zfree_no (by kernel_rfl)) (fun _ => ?_)
     clear hC C
     (try simp only [Act.put, List.setIfInBounds_toArray, List.set_cons_zero, List.set_cons_succ])
     refine wpAnyZ_done (by kernel_rfl) ?_ _
     refine NoPanic.normal ?_
     clear hHeld
     obtain ⟨w3, hw3⟩ : ∃ w3, w3 = u2.setCell ⟨w.heap.size + 3, 2, none⟩ (.slice ad2 (n0 + 1) cap2) := ⟨_, rfl⟩
     have HA3 : Hid (AS w po xo b1 b2 (.slice ad2 (n0 + 1) cap2) (-1) w3) := by show AS _ _ _ _ _ _ _ _; rw [hw3]; exact HA2.out.s2 _
     have HR3 : Hid (RowAt trK w3 ad2 (n0 + 1) cap2 (l0 ++ [⟨b3, lv, b0⟩])) := by show RowAt _ _ _ _ _ _; rw [hw3]; exact HR2.out.off (fun a ha => by have := (HK2.out a ha).1; omega) _ _
     have HK3 : Hid (∀ a, ad2 = some a → w.heap.size + 4 ≤ a.block ∧ a.block < w3.heap.size) := fun a ha => by rw [hw3, size_set]; exact HK2.out a ha
     rw [← hw3]
     clear hw3 HA2 HR2 HA HAd HOd HR0 HK0 HXC HO HK2
     obtain ⟨k, hk⟩ : ∃ k, k = n0 + 1 - 5 := ⟨_, rfl⟩
     obtain ⟨ad4, cap4, hcut, hr4, hk4⟩ := row_from trK_ok HR3.out k (by omega)
     have hcut : ∀ W, (Instr.slice 46 (.slice ad2 (n0 + 1) cap2) (some (.int .i64 (k : Int))) none none).run Try.prog W = .ok (.slice ad4 (n0 + 1 - k) cap4) W := hcut
     have hmx : (if (n0 : Int) + 1 - 5 < 0 then 0 else (n0 : Int) + 1 - 5) = (k : Int) := by split <;> omega
     have HK4 : Hid (∀ a, ad4 = some a → w.heap.size + 4 ≤ a.block ∧ a.block < w3.heap.size) := fun a ha => by
      obtain ⟨a0, h0, h1⟩ := hk4 a ha
      rw [h1]; exact HK3.out a0 h0
     obtain ⟨l4, hl4⟩ : ∃ l4, l4 = (l0 ++ [(⟨b3, lv, b0⟩ : Tr)]).drop k := ⟨_, rfl⟩
     have HPF : Hid (∀ oz, oz = (if b4 = true ∧ o1 < 0 then b0 else o1) → p = ⟨b1, b2, l4, oz⟩) := by
      intro oz hoz
      rw [hoe.out] at hoz
      rw [HPE.out oz hoz, hl4, hk]
      unfold newLast
      rw [HLN.out]
     rw [← hl4] at hr4
     have HR4 := Lib.hid hr4
     have HKK := Lib.hid hk
     clear hr4 hk4 hl4 HPE HR3 HK3 hk
     have o0_ := HA3.out.ob.c2
     have g2 := HA3.out.ob.free 2
     go_upto_region 10 with fail
     obtain ⟨n4, hn4⟩ : ∃ n4, n4 = n0 + 1 - k := ⟨_, rfl⟩
     rw [← hn4] at HR4
     rw [← hn4]
     obtain ⟨w4, hw4⟩ : ∃ w4, w4 = w3.setCell ⟨w.heap.size + 3, 2, none⟩ (.slice ad4 n4 cap4) := ⟨_, rfl⟩
     have HA4 : Hid (AS w po xo b1 b2 (.slice ad4 n4 cap4) (-1) w4) := by show AS _ _ _ _ _ _ _ _; rw [hw4]; exact HA3.out.s2 _
     have HR5 : Hid (RowAt trK w4 ad4 n4 cap4 l4) := by show RowAt _ _ _ _ _ _; rw [hw4]; exact HR4.out.off (fun a ha => by have := (HK4.out a ha).1; omega) _ _
     have HK5 : Hid (∀ a, ad4 = some a → w.heap.size + 4 ≤ a.block ∧ a.block < w4.heap.size) := fun a ha => by rw [hw4, size_set]; exact HK4.out a ha
     rw [← hw4]
     clear hw4 HA3 HR4 HK4 hcut hmx hn4 o0_ g2 KS
     have HPC : Hid (PBox w4 w.heap.size i1 e1 (.slice a1 n1 c1) o1) := by show (_ : World).heap[_]? = _; rw [HA4.out.pb, HPO.out]
     have y3 := HPC.out.c3
     have g3 := HA4.out.ob.free 3
     have oc3 := HA4.out.ob.c3
     go_upto_region 11 with fail
     obtain ⟨w5, hw5⟩ : ∃ w5, w5 = w4.setCell ⟨w.heap.size + 3, 3, none⟩ (.int .i64 o1) := ⟨_, rfl⟩
     have HA5 : Hid (AS w po xo b1 b2 (.slice ad4 n4 cap4) o1 w5) := by show AS _ _ _ _ _ _ _ _; rw [hw5]; exact HA4.out.s3 _
     have HR6 : Hid (RowAt trK w5 ad4 n4 cap4 l4) := by show RowAt _ _ _ _ _ _; rw [hw5]; exact HR5.out.off (fun a ha => by have := (HK5.out a ha).1; omega) _ _
     have HK6 : Hid (∀ a, ad4 = some a → w.heap.size + 4 ≤ a.block ∧ a.block < w5.heap.size) := fun a ha => by rw [hw5, size_set]; exact HK5.out a ha
     rw [← hw5]
     clear hw5 HA4 HR5 HK5 y3 g3 oc3 HPC
     have HPC : Hid (PBox w5 w.heap.size i1 e1 (.slice a1 n1 c1) o1) := by show (_ : World).heap[_]? = _; rw [HA5.out.pb, HPO.out]
     have hX : BoxAt w5 (w.heap.size + 1) b0 b1 b2 b3 b4 b5 (.slice rd rn rc) := by have := HA5.out.xb; rw [HXO.out] at this; exact this
     have p4 := hX.c4
     cases b4
     · have HP : Hid (p = ⟨b1, b2, l4, o1⟩) := HPF.out o1 (by simp)
       clear HPF hX
       have oc0 := HA5.out.ob.c0
       have g0 := HA5.out.ob.free 0
       have r0 := HA5.out.rb.c0
       have f0 := HA5.out.rb.free 0
       have oc1 := HA5.out.ob.c1
       have g1 := HA5.out.ob.free 1
       have r1 := HA5.out.rb.c1
       have f1 := HA5.out.rb.free 1
       have oc2 := HA5.out.ob.c2
       have g2 := HA5.out.ob.free 2
       have r2 := HA5.out.rb.c2
       have f2 := HA5.out.rb.free 2
       have oc3 := HA5.out.ob.c3
       have g3 := HA5.out.ob.free 3
       have r3 := HA5.out.rb.c3
       have f3 := HA5.out.rb.free 3
       go_wp2
       exact bodyPost_ret (resultsPrApply ((((HA5.out.rb.s0 b1).s1 b2).s2 (.slice ad4 n4 cap4)).s3 o1) rfl) rfl (gives_apply HA5.out HP.out HR6.out HK6.out)
     · have y0 := HPC.out.c0
       have y1 := HPC.out.c1
       have y2 := HPC.out.c2
       have y3 := HPC.out.c3
       clear hX
       by_cases hlt : 0 ≤ o1
       · have HD : Hid (decide (0 ≤ o1) = true) := decide_eq_true hlt
         have HP : Hid (p = ⟨b1, b2, l4, o1⟩) := HPF.out o1 (by simp [Int.not_lt.2 hlt])
         clear HPF hlt
         go_wp2_with fail
         refine (prOpen_any w5 i1 e1 o1 a1 n1 c1 true HD.out).mono ?_
         rintro e w6 ⟨rfl, hb6⟩
         have HA6 := Lib.hid (HA5.out.on hb6)
         have HR7 := Lib.hid (HR6.out.keep hb6)
         have HK7 : Hid (∀ a, ad4 = some a → w.heap.size + 4 ≤ a.block ∧ a.block < w6.heap.size) := fun a ha => ⟨(HK6.out a ha).1, Nat.lt_of_lt_of_le (HK6.out a ha).2 hb6.size⟩
         clear hb6 HA5 HR6 HK6 y0 y1 y2 y3 p4 HPC
         have oc0 := HA6.out.ob.c0
         have g0 := HA6.out.ob.free 0
         have r0 := HA6.out.rb.c0
         have f0 := HA6.out.rb.free 0
         have oc1 := HA6.out.ob.c1
         have g1 := HA6.out.ob.free 1
         have r1 := HA6.out.rb.c1
         have f1 := HA6.out.rb.free 1
         have oc2 := HA6.out.ob.c2
         have g2 := HA6.out.ob.free 2
         have r2 := HA6.out.rb.c2
         have f2 := HA6.out.rb.free 2
         have oc3 := HA6.out.ob.c3
         have g3 := HA6.out.ob.free 3
         have r3 := HA6.out.rb.c3
         have f3 := HA6.out.rb.free 3
         go_wp2
         exact bodyPost_ret (resultsPrApply ((((HA6.out.rb.s0 b1).s1 b2).s2 (.slice ad4 n4 cap4)).s3 o1) rfl) rfl (gives_apply HA6.out HP.out HR7.out HK7.out)
       · have HD : Hid (decide (0 ≤ o1) = false) := decide_eq_false hlt
         have HP : Hid (p = ⟨b1, b2, l4, b0⟩) := HPF.out b0 (by simp [Int.not_le.1 hlt])
         clear HPF hlt
         go_wp2_with fail
         refine (prOpen_any w5 i1 e1 o1 a1 n1 c1 false HD.out).mono ?_
         rintro e w6 ⟨rfl, hb6⟩
         have HA6 := Lib.hid (HA5.out.on hb6)
         have HR7 := Lib.hid (HR6.out.keep hb6)
         have HK7 : Hid (∀ a, ad4 = some a → w.heap.size + 4 ≤ a.block ∧ a.block < w6.heap.size) := fun a ha => ⟨(HK6.out a ha).1, Nat.lt_of_lt_of_le (HK6.out a ha).2 hb6.size⟩
         have hX : BoxAt w6 (w.heap.size + 1) b0 b1 b2 b3 true b5 (.slice rd rn rc) := by have := HA6.out.xb; rw [HXO.out] at this; exact this
         clear hb6 HA5 HR6 HK6 y0 y1 y2 y3 p4 HPC
         have p0 := hX.c0
         clear hX
         have oc0 := HA6.out.ob.c0
         have g0 := HA6.out.ob.free 0
         have r0 := HA6.out.rb.c0
         have f0 := HA6.out.rb.free 0
         have oc1 := HA6.out.ob.c1
         have g1 := HA6.out.ob.free 1
         have r1 := HA6.out.rb.c1
         have f1 := HA6.out.rb.free 1
         have oc2 := HA6.out.ob.c2
         have g2 := HA6.out.ob.free 2
         have r2 := HA6.out.rb.c2
         have f2 := HA6.out.rb.free 2
         have oc3 := HA6.out.ob.c3
         have g3 := HA6.out.ob.free 3
         have r3 := HA6.out.rb.c3
         have f3 := HA6.out.rb.free 3
         go_wp2
         exact bodyPost_ret (resultsPrApply (((((HA6.out.s3 b0).rb.s0 b1).s1 b2).s2 (.slice ad4 n4 cap4)).s3 b0) rfl) rfl (gives_apply (HA6.out.s3 b0) HP.out (HR7.out.off (fun a ha => by have := (HK7.out a ha).1; omega) _ _) (fun a ha => by rw [size_set]; exact HK7.out a ha))
   · have hd : (b5 == 0) = false := beq_false_of_ne hm
     have hdn : (b5 != 0) = true := by unfold bne; rw [hd]; rfl
     have HPE := Lib.hid (HPE1.out hm)
     clear HPE1 HPE2 hm
     have oc0 := HA.out.ob.c0
     have g0 := HA.out.ob.free 0
     have r0 := HA.out.rb.c0
     have f0 := HA.out.rb.free 0
     have oc1 := HA.out.ob.c1
     have g1 := HA.out.ob.free 1
     have r1 := HA.out.rb.c1
     have f1 := HA.out.rb.free 1
     have oc2 := HA.out.ob.c2
     have g2 := HA.out.ob.free 2
     have r2 := HA.out.rb.c2
     have f2 := HA.out.rb.free 2
     have oc3 := HA.out.ob.c3
     have g3 := HA.out.ob.free 3
     have r3 := HA.out.rb.c3
     have f3 := HA.out.rb.free 3
     go_wp2
     exact bodyPost_ret (resultsPrApply ((((HA.out.rb.s0 b1).s1 b2).s2 (.slice ad0 n0 cap0)).s3 (-1)) rfl) rfl (gives_apply HA.out HPE.out HR0.out HK0.out)
end Go.Proofs.Ytipaebflkebdjaa
namespace Go.Proofs.Ytipaebflkebdjaa
open Go.RowKit
open Go.SeqMath
open Go.ProdMath
open Go.BatMath hiding AllB getD_lt take_all
set_option linter.unusedVariables false

theorem right_prod {b : Bat} (h : rightE b = 0) : b.prod = -1 ∨ 0 ≤ b.prod := by
 unfold rightE at h
 split at h
 · omega
 · split at h
   · split at h
     · rename_i h2; exact .inr (head_of h2.2.1).1
     · omega
   · split at h
     · rename_i h2
       rcases h2.1 with h3 | h3
       · exact .inl (none_of h3).1
       · exact .inr (head_of h3.1).1
     · omega
end Go.Proofs.Ytipaebflkebdjaa
