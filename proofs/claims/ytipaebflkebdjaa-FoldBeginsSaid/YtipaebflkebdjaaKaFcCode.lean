/- The code's own Committed; all of the code's fold. -/
import Derived.Test.YtipaebflkebdjaaKa12
import Derived.Test.YtipaebflkebdjaaKa13
namespace Go.Proofs.Ytipaebflkebdjaa
open Go.RowKit
open Go.FoMath
open Go.AbMath (withinD DrsOk row_drops)
open Go.ProdMath
open Go.BatMath hiding AllB getD_lt take_all
set_option linter.unusedVariables false

set_option maxRecDepth 100000 in
theorem fcCommitted_any (w : World) (start : Int) (ad : Option Addr) (len cap : Nat) (ms : List BM) (h : FoBats w start ad len cap ms) :
 Calls Try.prog 22 #[.int .i64 start, .slice ad len cap] w (GivesGots w (committedD start (bats ms))) := by
 have HCM : Hid (keptG (recordsD (bats ms) (-9223372036854775808) (stableD start (bats ms))) (foldR [] (bats ms)) = committedD start (bats ms)) := committed_is h.row h.lo h.hi (by have := h.lo; omega)
 have HR := Lib.hid h.foRow
 have H := Lib.hid h.at_
 have HLL : Hid (len ≤ 5000) := h.few
 have HFEW : Hid ((recordsD (bats ms) (-9223372036854775808) (stableD start (bats ms))).length ≤ 100000) := by
  show _ ≤ _
  have h5 := recordsD_few (a := -9223372036854775808) (z := stableD start (bats ms)) (l := bats ms) (fun b hb => (HR.out.few b hb).2.2)
  have h6 : (bats ms).length = len := by unfold bats; rw [List.length_map]; exact H.out.row.length
  have h7 := HLL.out
  rw [h6] at h5
  omega
 have HDN : Hid ((foldR [] (bats ms)).length ≤ 5000) := by
  show _ ≤ _
  have h5 := AbMath.drops_len (bats ms) []
  have h6 : (bats ms).length = len := by unfold bats; rw [List.length_map]; exact H.out.row.length
  have h7 := HLL.out
  rw [h6] at h5
  omega
 clear h
 obtain ⟨st, hst⟩ : ∃ e, e = stableD start (bats ms) := ⟨_, rfl⟩
 rw [← hst] at HCM HFEW
 have HST := Lib.hid hst
 clear hst
 obtain ⟨rs, hrs⟩ : ∃ e, e = recordsD (bats ms) (-9223372036854775808) st := ⟨_, rfl⟩
 rw [← hrs] at HCM HFEW
 have HRS := Lib.hid hrs
 clear hrs
 go_enter Try.func22, Try.ntmps22
 go_wp2_with fail
 refine (fcStable_any w start ad len cap ms H.out HLL.out HR.out).mono ?_
 rintro e w1 ⟨rfl, hb⟩
 have HB1 := Lib.hid hb
 rw [← HST.out]
 clear hb
 go_wp2_with fail
 refine (fcRecords_any w1 start ad len cap ms (H.out.keep HB1.out) HLL.out HR.out.few _ st).mono ?_
 rintro e w2 ⟨qa, qn, qc, rfl, hrow, -, hb⟩
 have HB2 := Lib.hid (HB1.out.trans (hb.mono HB1.out.size))
 rw [← HRS.out] at hrow
 have HQ2 := Lib.hid hrow
 clear hb hrow HB1
 go_wp2_with fail
 refine (acOf_any w2 ad len cap ms (H.out.keep HB2.out) HLL.out (batsOk_of HR.out.ok)).mono ?_
 rintro e w3 ⟨ra, rF, rfl, hrr, -, hb⟩
 have HB3 := Lib.hid (HB2.out.trans (hb.mono HB2.out.size))
 have HQ3 := Lib.hid (HQ2.out.keep hb)
 have HRR := Lib.hid hrr
 clear hb hrr HB2 HQ2
 go_wp2_with fail
 refine (acAll_any rF w3 ra _ HRR.out (Nat.le_trans HDN.out (by decide))).mono ?_
 rintro e w4 ⟨ea, en2, ec, rfl, hwr, hb⟩
 have HB4 := Lib.hid (HB3.out.trans (hb.mono HB3.out.size))
 have HQ4 := Lib.hid (HQ3.out.keep hb)
 have HW4 := Lib.hid hwr
 clear hb hwr HB3 HQ3 HRR
 go_wp2_with fail
 refine (fcDeliver_any w4 ⟨rs, foldR [] (bats ms), 0, 0⟩ (.agg #[.slice qa qn qc, .slice ea en2 ec, .int .i64 0, .int .i64 0]) ⟨qa, qn, qc, ea, en2, ec, rfl, HQ4.out, HW4.out⟩ HFEW.out (Nat.le_trans HDN.out (by decide))).mono ?_
 rintro e w5 ⟨ga, gn, gc, rfl, hrow, hfr, hb⟩
 have HB5 := Lib.hid (HB4.out.trans (hb.mono HB4.out.size))
 have HFR : Hid (∀ a, ga = some a → w.heap.size ≤ a.block ∧ a.block < w5.heap.size) := fun a ha => ⟨Nat.le_trans HB4.out.size (hfr a ha).1, (hfr a ha).2⟩
 have HQ5 : Hid (RowAt gtK w5 ga gn gc (committedD start (bats ms))) := by
  show RowAt _ _ _ _ _ _
  rw [← HCM.out]
  exact hrow
 clear hb hrow hfr
 go_wp2
 go_ret
 exact ⟨ga, gn, gc, rfl, HQ5.out, HFR.out, HB5.out⟩
/-- The code's fold does what the laws ask of it. -/
theorem foCode : FoCode where
 end_ W start ad len cap ms h := fcEnd_any W start ad len cap ms h.at_ (Nat.le_trans h.few (by decide)) h.foRow.ok _ rfl
 stable W start ad len cap ms h := fcStable_any W start ad len cap ms h.at_ h.few h.foRow
 records W start ad len cap ms a z h := fcRecords_any W start ad len cap ms h.at_ h.few h.foRow.few a z
 fetch W start ad len cap ms o n only h := fcFetch_any W start ad len cap ms h.at_ h.few h.foRow (row_drops h.row h.lo h.hi).1 o n only
 committed W start ad len cap ms h := fcCommitted_any W start ad len cap ms h
 deliver W v f h hl hd := fcDeliver_any W f v h hl hd
end Go.Proofs.Ytipaebflkebdjaa
