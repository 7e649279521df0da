/- THE STATEMENT OF 'FilesPlays', PROVED, as the tied card of the second form: for any asks of bulk at most 1048576, made small and as they came, the code's files answer as the document's own do, crashes and stops among them, and a copy turned leaves what it was copied from; the condition is that unicode/utf8's two tables hold what the library's text lays in them (the card ties them). -/
import Derived.Test.YtjocfkkcnkpjdaaDoorRows
import Derived.Test.YtjocfkkcnkpjdaaDoorTie
import Derived.Test.YtjocfkkcnkpjdaaDoorCards
import Derived.WalkKit
import Derived.ProofKit
import Derived.OpenShut
import Derived.ChangeOld
import Derived.Below
import Derived.LaidMore
import Derived.Lay
import Derived.SevenTiedAt
import Derived.Stop.Joined
import Derived.Test.YtjocfkkcnkpjdaaDoorBytes
import Derived.Test.YtjocfkkcnkpjdaaDoorCondLaid
import Derived.Test.YtjocfkkcnkpjdaaDoorFlOpen
import Derived.Test.YtjocfkkcnkpjdaaDoorTabsLaid
import Derived.Test.YtjocfkkcnkpjdaaDoorFlPlayLaw
namespace Go.Proofs.YtjocfkkcnkpjdaaDoor.filesPlays
open Go.ChangeShapes Go.WideShapes Go.ChangeAt Go.RowKit
set_option linter.unusedVariables false

theorem laidOut : laidOutB Tryd.prog = true := by kernel_rfl
theorem own : ownKnob Tryd.prog.godebug = none := by kernel_rfl
theorem walk (a0 : Option Addr) (len0 cap0 : Nat) (l0 : List YtjocfkkcnkpjdaaDoor.Ak) (W : World) (w0 : YtjocfkkcnkpjdaaDoor.RowAt YtjocfkkcnkpjdaaDoor.askK W a0 len0 cap0 l0) (x0 : ∀ y ∈ l0, YtjocfkkcnkpjdaaDoor.AskIn W y) (n0 : len0 ≤ 1048576) (hT : YtjocfkkcnkpjdaaDoor.Tabs W) :
    Calls Tryd.prog 4 #[.slice a0 len0 cap0] W fun e w' => e = .returned (.bool true) ∧ Below W.heap.size W w' :=
  (fun a0 len0 cap0 l0 W w0 x0 n0 hT => YtjocfkkcnkpjdaaDoor.plays_any W a0 len0 cap0 l0 w0 x0 n0 hT (YtjocfkkcnkpjdaaDoor.tabs_two hT)) a0 len0 cap0 l0 W w0 x0 n0 hT

set_option maxRecDepth 100000 in
theorem contract (H : Type) (enc : TypeId × Value → H) (W : World) (base : Nat) (args : Array Value) (ds gs : List (DataW H)) (before : List MemPlace)
    (hval0 : ∀ (j : Nat) t v, Tryd.f4.params[j]? = some t → args[j]? = some v → Value.okWide Tryd.prog W .any base t v)
    (hW : DataW.Whole enc Tryd.prog Tryd.f4.params.toList Rows.filesPlaysSpec.vars false W args.toList ds gs before) (hk : Rows.uptoSmall H (ds ++ gs) = true) (hL : laidMetH Tryd.prog Rows.filesPlaysUptoRow.laid W) :
    Calls Tryd.prog 4 args W fun e W' => ∃ v, e = .returned v ∧ Rows.filesPlaysSpec.post enc Tryd.prog Tryd.f4 false true false false W args v W' := by
  have hval : ∀ (j : Nat) t v, Tryd.f4.params[j]? = some t → args[j]? = some v → Value.okWide Tryd.prog W .any base t v := hval0
  have hW' := hW
  obtain ⟨p, q, hA0, hV, rfl, hfz, hnd⟩ := hW
  have hA : DataW.TrodAll enc Tryd.prog W 0 (fun _ => true) true Tryd.f4.params.toList args.toList ds p := hA0
  rw [Tryd.params4] at hA hval
  obtain ⟨v0, vs0, d0, ds0, p0, q0, hargs, rfl, rfl, h0, r0⟩ := trodAll_cons hA
  obtain ⟨rfl, rfl, rfl⟩ := trodAll_nil r0
  obtain rfl : args = #[v0] := by cases args; simp_all
  obtain ⟨rfl, rfl⟩ := trodVars_none hV
  have b := YtjocfkkcnkpjdaaDoor.bound hk
  simp only [List.cons_append, List.nil_append, Rows.uptoBulkAll] at b
  obtain ⟨a0, len0, cap0, rfl⟩ := okWide_slice Tryd.underlying22 (hval 0 22 v0 rfl rfl)
  have k0 := h0
  have lt0 : ∀ x ∈ p0, x.block < W.heap.size := by obtain ⟨m, hm⟩ := k0; exact DataW.trod_lt m _ _ _ hm
  have n0 : len0 ≤ 1048576 := by
    obtain ⟨fuel, hf⟩ := h0
    exact YtjocfkkcnkpjdaaDoor.asks_len (show DataW.trod enc Tryd.prog W 0 (fun _ => true) true fuel 22 [.slice a0 len0 cap0] = some _ by simpa [Value.cells] using hf) (by simp only; omega)
  obtain ⟨l0, w0, x0⟩ : ∃ l, YtjocfkkcnkpjdaaDoor.RowAt YtjocfkkcnkpjdaaDoor.askK W a0 len0 cap0 l ∧ ∀ y ∈ l, YtjocfkkcnkpjdaaDoor.AskIn W y := by
    obtain ⟨fuel, hf⟩ := h0
    exact YtjocfkkcnkpjdaaDoor.open_asks (show DataW.trod enc Tryd.prog W 0 (fun _ => true) true fuel 22 [.slice a0 len0 cap0] = some _ by simpa [Value.cells] using hf) (by simp only; omega)
  have hT := YtjocfkkcnkpjdaaDoor.tabs_of_laid (show laidMetH Tryd.prog _ W from hL)
  clear hA0 hval0
  refine (walk a0 len0 cap0 l0 W w0 x0 n0 hT).mono fun e W' ⟨he, bel⟩ => ?_
  subst he
  exact ⟨_, rfl, _, _, _, [], _, [], hW', trodAll_mk1 (shut_bool Tryd.underlying4 _), (trodAll_cons_mk (Below.trod laidOut (by kernel_rfl) (of_decide_eq_true (by kernel_rfl)) k0 bel lt0) trodAll_mk0), rfl, bel.frame _, fun h => by cases h⟩

set_option maxRecDepth 100000 in
theorem lifted (os : Os) (started : os.Started) (H : Type) (enc : TypeId × Value → H) (F : Stop.Interp) :
    ReturnsInHanded {} Tryd.checked os 4 .any (fun w args => ((Rows.OpenSpec.upto Rows.filesPlaysSpec).pre enc Tryd.prog Tryd.f4 Rows.filesPlaysUptoRow.domain false w args ∧ laidMetH Tryd.prog Rows.filesPlaysUptoRow.laid w) ∧ sizedMet enc Tryd.prog Tryd.f4 (Rows.OpenSpec.upto Rows.filesPlaysSpec) false w args)
      (((Rows.OpenSpec.upto Rows.filesPlaysSpec).at F).post enc Tryd.prog Tryd.f4 false true false false) := by
  refine YtjocfkkcnkpjdaaDoor.returns_cond_and (C := Tryd.checked) (s := (Rows.OpenSpec.upto Rows.filesPlaysSpec)) (k := Rows.uptoSmall) rfl (X := fun w _ => laidMetH Tryd.prog Rows.filesPlaysUptoRow.laid w) (fun _ _ _ hh h => h.of_heap hh) own started (by kernel_rfl) Tryd.func4
    (YtjocfkkcnkpjdaaDoor.witness_cond_laid (enc := enc) (C := Tryd.checked) (s := (Rows.OpenSpec.upto Rows.filesPlaysSpec)) (k := Rows.uptoSmall) rfl (X := fun w _ => laidMetH Tryd.prog Rows.filesPlaysUptoRow.laid w) false (World.laidAll Tryd.prog os Rows.filesPlaysUptoRow.laid) #[.slice none 0 0] 8 (World.laidAll_os _ _ _)
      (World.shaped_of_ZipB (by kernel_rfl) (by kernel_rfl)) (by kernel_rfl) (x := ([.nil], [], [])) (by kernel_rfl) rfl (by kernel_rfl) (by kernel_rfl)
      (by rw [MakeChecks.laidMetH_plain _ _ _ (by kernel_rfl)]; exact laidMet_laidAll _ (by kernel_rfl) (by kernel_rfl))) ?_
  intro W base args ds gs before hval hW hk hL
  exact contract H enc W base args ds gs before hval hW hk hL

theorem over : Rows.FilesPlaysUptoSaid :=
  OpenClaim.holds_of_cond 4 Tryd.f4 rfl rfl rfl rfl rfl rfl rfl ⟨rfl, rfl, rfl, rfl, rfl⟩ rfl rfl rfl rfl rfl (by kernel_rfl) Tryd.func4 (by kernel_rfl)
    (of_decide_eq_true (by kernel_rfl)) (by unfold Func.isWrapper; first | (rw [if_pos (by decide +kernel)]; kernel_rfl) | (rw [if_neg (by decide +kernel)]; exact ⟨rfl, rfl⟩))
    (fun os started H enc _ F => lifted os started H enc F)

/-- THE STATEMENT -/
theorem proved : Rows.FilesPlaysUptoCardSaid :=
  Claim7.holds_tied_plain_at .later [] [.data, .pinned] true (true, "7aa89cd7a1f863723287b46134dff1b216b3129a9e4aa86e57a54623f8ef6c0c") false over (fun _ h => by cases h) (by kernel_rfl) (fun _ h => by cases h) filesPlaysUpto_row_tie rfl ⟨rfl, rfl⟩ (by kernel_rfl) rfl
    (fun f fn hf hfn => by
      obtain rfl : f = 4 := Option.some.inj ((show Tryd.prog.funcNamed (Rows.filesPlaysUptoRow.func) = some 4 by kernel_rfl).symm.trans hf) |>.symm
      obtain rfl : fn = Tryd.f4 := (Option.some.inj (Tryd.func4.symm.trans hfn)).symm
      exact ⟨by kernel_rfl, fun j t ht => by
        rw [Tryd.params4] at ht
        have hm : t ∈ [22] := by simpa using Array.mem_of_getElem? ht
        have hall : (([22] : List TypeId).all fun u => !Tryd.prog.wantsStandIn u) = true := by kernel_rfl
        exact (show Tryd.prog.wantsStandIn t = false by simpa using List.all_eq_true.1 hall t (by simpa using hm))⟩)
    (by kernel_rfl)
#print axioms proved
end Go.Proofs.YtjocfkkcnkpjdaaDoor.filesPlays
