/- THE STATEMENT OF 'FilesApart', PROVED, as the tied card of the second form: for any bytes and any asks that are together of bulk at most 1048576, what is done to one file turns no other one; the condition is that unicode/utf8's two tables hold what the library's text lays in them (the card ties them). -/
import Derived.Test.YtjocfkkcnkpjdaaDoorRows
import Derived.Test.YtjocfkkcnkpjdaaDoorTie
import Derived.Test.YtjocfkkcnkpjdaaDoorCards
import Derived.WalkKit
import Derived.ProofKit
import Derived.OpenShut
import Derived.ChangeOld
import Derived.Below
import Derived.LaidMore
import Derived.Lay
import Derived.SevenTiedAt
import Derived.Stop.Joined
import Derived.Test.YtjocfkkcnkpjdaaDoorBytes
import Derived.Test.YtjocfkkcnkpjdaaDoorCondLaid
import Derived.Test.YtjocfkkcnkpjdaaDoorFlOpen
import Derived.Test.YtjocfkkcnkpjdaaDoorTabsLaid
import Derived.Test.YtjocfkkcnkpjdaaDoorFlApartLaw
namespace Go.Proofs.YtjocfkkcnkpjdaaDoor.filesApart
open Go.ChangeShapes Go.WideShapes Go.ChangeAt Go.RowKit
set_option linter.unusedVariables false

theorem laidOut : laidOutB Tryd.prog = true := by kernel_rfl
theorem own : ownKnob Tryd.prog.godebug = none := by kernel_rfl
theorem walk (a0 : Option Addr) (len0 cap0 : Nat) (z0 : List Int) (a1 : Option Addr) (len1 cap1 : Nat) (z1 : List Int) (a2 : Option Addr) (len2 cap2 : Nat) (l2 : List YtjocfkkcnkpjdaaDoor.Ak) (W : World) (w0 : YtjocfkkcnkpjdaaDoor.IsRow .u8 W a0 len0 cap0 z0) (b0 : len0 ≤ 1048576) (w1 : YtjocfkkcnkpjdaaDoor.IsRow .u8 W a1 len1 cap1 z1) (b1 : len1 ≤ 1048576) (w2 : YtjocfkkcnkpjdaaDoor.RowAt YtjocfkkcnkpjdaaDoor.askK W a2 len2 cap2 l2) (x2 : ∀ y ∈ l2, YtjocfkkcnkpjdaaDoor.AskIn W y) (hT : YtjocfkkcnkpjdaaDoor.Tabs W) :
    Calls Tryd.prog 8 #[.slice a0 len0 cap0, .slice a1 len1 cap1, .slice a2 len2 cap2] W fun e w' => e = .returned (.bool true) ∧ Below W.heap.size W w' :=
  (fun a0 len0 cap0 z0 a1 len1 cap1 z1 a2 len2 cap2 l2 W w0 b0 w1 b1 w2 x2 hT => apart_law a0 len0 cap0 z0 a1 len1 cap1 z1 a2 len2 cap2 l2 W w0 b0 w1 b1 w2 x2 hT) a0 len0 cap0 z0 a1 len1 cap1 z1 a2 len2 cap2 l2 W w0 b0 w1 b1 w2 x2 hT

set_option maxRecDepth 100000 in
theorem contract (H : Type) (enc : TypeId × Value → H) (W : World) (base : Nat) (args : Array Value) (ds gs : List (DataW H)) (before : List MemPlace)
    (hval0 : ∀ (j : Nat) t v, Tryd.f8.params[j]? = some t → args[j]? = some v → Value.okWide Tryd.prog W .any base t v)
    (hW : DataW.Whole enc Tryd.prog Tryd.f8.params.toList Rows.filesApartSpec.vars false W args.toList ds gs before) (hk : Rows.uptoSmall H (ds ++ gs) = true) (hL : laidMetH Tryd.prog Rows.filesApartUptoRow.laid W) :
    Calls Tryd.prog 8 args W fun e W' => ∃ v, e = .returned v ∧ Rows.filesApartSpec.post enc Tryd.prog Tryd.f8 false true false false W args v W' := by
  have hval : ∀ (j : Nat) t v, Tryd.f8.params[j]? = some t → args[j]? = some v → Value.okWide Tryd.prog W .any base t v := hval0
  have hW' := hW
  obtain ⟨p, q, hA0, hV, rfl, hfz, hnd⟩ := hW
  have hA : DataW.TrodAll enc Tryd.prog W 0 (fun _ => true) true Tryd.f8.params.toList args.toList ds p := hA0
  rw [Tryd.params8] at hA hval
  obtain ⟨v0, vs0, d0, ds0, p0, q0, hargs, rfl, rfl, h0, r0⟩ := trodAll_cons hA
  obtain ⟨v1, vs1, d1, ds1, p1, q1, rfl, rfl, rfl, h1, r1⟩ := trodAll_cons r0
  obtain ⟨v2, vs2, d2, ds2, p2, q2, rfl, rfl, rfl, h2, r2⟩ := trodAll_cons r1
  obtain ⟨rfl, rfl, rfl⟩ := trodAll_nil r2
  obtain rfl : args = #[v0, v1, v2] := by cases args; simp_all
  obtain ⟨rfl, rfl⟩ := trodVars_none hV
  have b := YtjocfkkcnkpjdaaDoor.bound hk
  simp only [List.cons_append, List.nil_append, Rows.uptoBulkAll] at b
  obtain ⟨a0, len0, cap0, rfl⟩ := okWide_slice Tryd.underlying23 (hval 0 23 v0 rfl rfl)
  have k0 := h0
  have lt0 : ∀ x ∈ p0, x.block < W.heap.size := by obtain ⟨m, hm⟩ := k0; exact DataW.trod_lt m _ _ _ hm
  obtain ⟨z0, w0, b0⟩ : ∃ zs, YtjocfkkcnkpjdaaDoor.IsRow .u8 W a0 len0 cap0 zs ∧ len0 ≤ 1048576 := by
    obtain ⟨fuel, hf⟩ := h0
    obtain ⟨ad, ln, cp, zs, e, hr, hb⟩ := YtjocfkkcnkpjdaaDoor.open_row Tryd.underlying23 Tryd.underlying5 (by kernel_rfl) (show DataW.trod enc Tryd.prog W 0 (fun _ => true) true fuel 23 [.slice a0 len0 cap0] = some _ by simpa [Value.cells] using hf)
    simp only [Value.slice.injEq] at e
    obtain ⟨rfl, rfl, rfl⟩ := e
    simp only at hb
    exact ⟨zs, hr, by omega⟩
  obtain ⟨a1, len1, cap1, rfl⟩ := okWide_slice Tryd.underlying23 (hval 1 23 v1 rfl rfl)
  have k1 := h1
  have lt1 : ∀ x ∈ p1, x.block < W.heap.size := by obtain ⟨m, hm⟩ := k1; exact DataW.trod_lt m _ _ _ hm
  obtain ⟨z1, w1, b1⟩ : ∃ zs, YtjocfkkcnkpjdaaDoor.IsRow .u8 W a1 len1 cap1 zs ∧ len1 ≤ 1048576 := by
    obtain ⟨fuel, hf⟩ := h1
    obtain ⟨ad, ln, cp, zs, e, hr, hb⟩ := YtjocfkkcnkpjdaaDoor.open_row Tryd.underlying23 Tryd.underlying5 (by kernel_rfl) (show DataW.trod enc Tryd.prog W 0 (fun _ => true) true fuel 23 [.slice a1 len1 cap1] = some _ by simpa [Value.cells] using hf)
    simp only [Value.slice.injEq] at e
    obtain ⟨rfl, rfl, rfl⟩ := e
    simp only at hb
    exact ⟨zs, hr, by omega⟩
  obtain ⟨a2, len2, cap2, rfl⟩ := okWide_slice Tryd.underlying22 (hval 2 22 v2 rfl rfl)
  have k2 := h2
  have lt2 : ∀ x ∈ p2, x.block < W.heap.size := by obtain ⟨m, hm⟩ := k2; exact DataW.trod_lt m _ _ _ hm
  obtain ⟨l2, w2, x2⟩ : ∃ l, YtjocfkkcnkpjdaaDoor.RowAt YtjocfkkcnkpjdaaDoor.askK W a2 len2 cap2 l ∧ ∀ y ∈ l, YtjocfkkcnkpjdaaDoor.AskIn W y := by
    obtain ⟨fuel, hf⟩ := h2
    exact YtjocfkkcnkpjdaaDoor.open_asks (show DataW.trod enc Tryd.prog W 0 (fun _ => true) true fuel 22 [.slice a2 len2 cap2] = some _ by simpa [Value.cells] using hf) (by simp only; omega)
  have hT := YtjocfkkcnkpjdaaDoor.tabs_of_laid (show laidMetH Tryd.prog _ W from hL)
  clear hA0 hval0
  refine (walk a0 len0 cap0 z0 a1 len1 cap1 z1 a2 len2 cap2 l2 W w0 b0 w1 b1 w2 x2 hT).mono fun e W' ⟨he, bel⟩ => ?_
  subst he
  exact ⟨_, rfl, _, _, _, [], _, [], hW', trodAll_mk1 (shut_bool Tryd.underlying4 _), (trodAll_cons_mk (Below.trod laidOut (by kernel_rfl) (of_decide_eq_true (by kernel_rfl)) k0 bel lt0) (trodAll_cons_mk (Below.trod laidOut (by kernel_rfl) (of_decide_eq_true (by kernel_rfl)) k1 bel lt1) (trodAll_cons_mk (Below.trod laidOut (by kernel_rfl) (of_decide_eq_true (by kernel_rfl)) k2 bel lt2) trodAll_mk0))), rfl, bel.frame _, fun h => by cases h⟩

set_option maxRecDepth 100000 in
theorem lifted (os : Os) (started : os.Started) (H : Type) (enc : TypeId × Value → H) (F : Stop.Interp) :
    ReturnsInHanded {} Tryd.checked os 8 .any (fun w args => ((Rows.OpenSpec.upto Rows.filesApartSpec).pre enc Tryd.prog Tryd.f8 Rows.filesApartUptoRow.domain false w args ∧ laidMetH Tryd.prog Rows.filesApartUptoRow.laid w) ∧ sizedMet enc Tryd.prog Tryd.f8 (Rows.OpenSpec.upto Rows.filesApartSpec) false w args)
      (((Rows.OpenSpec.upto Rows.filesApartSpec).at F).post enc Tryd.prog Tryd.f8 false true false false) := by
  refine YtjocfkkcnkpjdaaDoor.returns_cond_and (C := Tryd.checked) (s := (Rows.OpenSpec.upto Rows.filesApartSpec)) (k := Rows.uptoSmall) rfl (X := fun w _ => laidMetH Tryd.prog Rows.filesApartUptoRow.laid w) (fun _ _ _ hh h => h.of_heap hh) own started (by kernel_rfl) Tryd.func8
    (YtjocfkkcnkpjdaaDoor.witness_cond_laid (enc := enc) (C := Tryd.checked) (s := (Rows.OpenSpec.upto Rows.filesApartSpec)) (k := Rows.uptoSmall) rfl (X := fun w _ => laidMetH Tryd.prog Rows.filesApartUptoRow.laid w) false (World.laidAll Tryd.prog os Rows.filesApartUptoRow.laid) #[.slice none 0 0, .slice none 0 0, .slice none 0 0] 8 (World.laidAll_os _ _ _)
      (World.shaped_of_ZipB (by kernel_rfl) (by kernel_rfl)) (by kernel_rfl) (x := ([.nil, .nil, .nil], [], [])) (by kernel_rfl) rfl (by kernel_rfl) (by kernel_rfl)
      (by rw [MakeChecks.laidMetH_plain _ _ _ (by kernel_rfl)]; exact laidMet_laidAll _ (by kernel_rfl) (by kernel_rfl))) ?_
  intro W base args ds gs before hval hW hk hL
  exact contract H enc W base args ds gs before hval hW hk hL

theorem over : Rows.FilesApartUptoSaid :=
  OpenClaim.holds_of_cond 8 Tryd.f8 rfl rfl rfl rfl rfl rfl rfl ⟨rfl, rfl, rfl, rfl, rfl⟩ rfl rfl rfl rfl rfl (by kernel_rfl) Tryd.func8 (by kernel_rfl)
    (of_decide_eq_true (by kernel_rfl)) (by unfold Func.isWrapper; first | (rw [if_pos (by decide +kernel)]; kernel_rfl) | (rw [if_neg (by decide +kernel)]; exact ⟨rfl, rfl⟩))
    (fun os started H enc _ F => lifted os started H enc F)

/-- THE STATEMENT -/
theorem proved : Rows.FilesApartUptoCardSaid :=
  Claim7.holds_tied_plain_at .later [] [.data, .pinned] true (true, "7aa89cd7a1f863723287b46134dff1b216b3129a9e4aa86e57a54623f8ef6c0c") false over (fun _ h => by cases h) (by kernel_rfl) (fun _ h => by cases h) filesApartUpto_row_tie rfl ⟨rfl, rfl⟩ (by kernel_rfl) rfl
    (fun f fn hf hfn => by
      obtain rfl : f = 8 := Option.some.inj ((show Tryd.prog.funcNamed (Rows.filesApartUptoRow.func) = some 8 by kernel_rfl).symm.trans hf) |>.symm
      obtain rfl : fn = Tryd.f8 := (Option.some.inj (Tryd.func8.symm.trans hfn)).symm
      exact ⟨by kernel_rfl, fun j t ht => by
        rw [Tryd.params8] at ht
        have hm : t ∈ [23, 23, 22] := by simpa using Array.mem_of_getElem? ht
        have hall : (([23, 23, 22] : List TypeId).all fun u => !Tryd.prog.wantsStandIn u) = true := by kernel_rfl
        exact (show Tryd.prog.wantsStandIn t = false by simpa using List.all_eq_true.1 hall t (by simpa using hm))⟩)
    (by kernel_rfl)
#print axioms proved
end Go.Proofs.YtjocfkkcnkpjdaaDoor.filesApart
