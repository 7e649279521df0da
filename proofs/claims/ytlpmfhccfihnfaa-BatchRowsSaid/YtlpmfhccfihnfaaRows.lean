/-
  No cell of these rows narrows 'for every input' (looked for: loops, veiled, ifaces, maps, wideKeys, modest, calm, conditions, laid).
  DERIVED. THE GIVEN ROWS OF THIS SEAT. 5 by the template 'for every input the law returns true; each argument reads behind the call as it read before'; 0 by the template 'total and deterministic' (their statements: YtlpmfhccfihnfaaTotals.lean).
  GIVEN WITH THE SEED: the statements are not yours to turn. If you find one false, say at which input.
  Laid BY PROGRAM, IN A SANDBOX (cutbox-rows.mjs): the forced cells as the released guide's own fill.sh prints them over the translation 94bdc5dde8b39e8a… (all of the seat's roots in one cut). By AI agents, Wed Nov 11 2026. No macro, syntax, notation, axiom, sorry.
-/
import Derived.Test.YtlpmfhccfihnfaaChecked
import GoSem.Claim
import GoSem.ClaimJoined
import GoSem.ClaimMapViews
import Derived.JoinedTies
import Derived.KernelRfl
namespace Go.Proofs.Ytlpmfhccfihnfaa
/- THE CELL 'sum', in the pinned program and in every row, IS THE sha256 OF THE DUMP (.gsa) THAT YtlpmfhccfihnfaaProg.lean LOADS. Nothing in Lean hashes anything: it is a label: what it is worth is what the hold of that sum in a sandbox is worth. -/
noncomputable def Try.pinned : Pinned := { name := "ytlpmfhccfihnfaa", sum := "94bdc5dde8b39e8a9889c541fb37f7ef0528f309da787fcb75a363de7d6d9ba9", checked := Try.checked }
namespace Rows
def none {H : Type} : Left H := { results := [], args := [] }

/-- 'bordereaulaw6.BatchNumbers': WHATEVER THE INPUT: true; the input reads as it did. -/
def batchNumbersSpec : ChangeSpec := { name := "batchNumbers", fn := fun _ => fun
  | [] => { results := [.lit (.bool true)], args := [] }
  | _ => none }
def batchNumbersRow : OpenClaim := { program := "ytlpmfhccfihnfaa", sum := "94bdc5dde8b39e8a9889c541fb37f7ef0528f309da787fcb75a363de7d6d9ba9", func := "bordereau/bordereaulaw6.BatchNumbers", spec := "batchNumbers", apart := false }
def BatchNumbersSaid : Prop := batchNumbersRow.holds Try.pinned (OpenSpec.ofChange batchNumbersSpec)

/-- ITS FALSE NEIGHBOUR: 'it returns false'. Refute it at one input. -/
def batchNumbersWrong : ChangeSpec := { name := "batchNumbers", fn := fun _ => fun
  | [] => { results := [.lit (.bool false)], args := [] }
  | _ => none }
def BatchNumbersWrongFalsely : Prop := batchNumbersRow.holds Try.pinned (OpenSpec.ofChange batchNumbersWrong)

/-- 'bordereaulaw6.BatchTells': WHATEVER THE INPUT: true; the input reads as it did. -/
def batchTellsSpec : ChangeSpec := { name := "batchTells", fn := fun _ => fun
  | [d1, d2, d3, d4, d5, d6, d7] => { results := [.lit (.bool true)], args := [d1, d2, d3, d4, d5, d6, d7] }
  | _ => none }
def batchTellsRow : OpenClaim := { program := "ytlpmfhccfihnfaa", sum := "94bdc5dde8b39e8a9889c541fb37f7ef0528f309da787fcb75a363de7d6d9ba9", func := "bordereau/bordereaulaw6.BatchTells", spec := "batchTells", apart := false }
def BatchTellsSaid : Prop := batchTellsRow.holds Try.pinned (OpenSpec.ofChange batchTellsSpec)

/-- ITS FALSE NEIGHBOUR: 'it returns false'. Refute it at one input. -/
def batchTellsWrong : ChangeSpec := { name := "batchTells", fn := fun _ => fun
  | [d1, d2, d3, d4, d5, d6, d7] => { results := [.lit (.bool false)], args := [d1, d2, d3, d4, d5, d6, d7] }
  | _ => none }
def BatchTellsWrongFalsely : Prop := batchTellsRow.holds Try.pinned (OpenSpec.ofChange batchTellsWrong)

/-- 'bordereaulaw6.BatchRebased': WHATEVER THE INPUT: true; the input reads as it did. -/
def batchRebasedSpec : ChangeSpec := { name := "batchRebased", fn := fun _ => fun
  | [d1, d2, d3] => { results := [.lit (.bool true)], args := [d1, d2, d3] }
  | _ => none }
def batchRebasedRow : OpenClaim := { program := "ytlpmfhccfihnfaa", sum := "94bdc5dde8b39e8a9889c541fb37f7ef0528f309da787fcb75a363de7d6d9ba9", func := "bordereau/bordereaulaw6.BatchRebased", spec := "batchRebased", apart := false }
def BatchRebasedSaid : Prop := batchRebasedRow.holds Try.pinned (OpenSpec.ofChange batchRebasedSpec)

/-- ITS FALSE NEIGHBOUR: 'it returns false'. Refute it at one input. -/
def batchRebasedWrong : ChangeSpec := { name := "batchRebased", fn := fun _ => fun
  | [d1, d2, d3] => { results := [.lit (.bool false)], args := [d1, d2, d3] }
  | _ => none }
def BatchRebasedWrongFalsely : Prop := batchRebasedRow.holds Try.pinned (OpenSpec.ofChange batchRebasedWrong)

/-- 'bordereaulaw6.BatchRows': WHATEVER THE INPUT: true; the input reads as it did. -/
def batchRowsSpec : ChangeSpec := { name := "batchRows", fn := fun _ => fun
  | [d1, d2] => { results := [.lit (.bool true)], args := [d1, d2] }
  | _ => none }
def batchRowsRow : OpenClaim := { program := "ytlpmfhccfihnfaa", sum := "94bdc5dde8b39e8a9889c541fb37f7ef0528f309da787fcb75a363de7d6d9ba9", func := "bordereau/bordereaulaw6.BatchRows", spec := "batchRows", apart := false }
def BatchRowsSaid : Prop := batchRowsRow.holds Try.pinned (OpenSpec.ofChange batchRowsSpec)

/-- ITS FALSE NEIGHBOUR: 'it returns false'. Refute it at one input. -/
def batchRowsWrong : ChangeSpec := { name := "batchRows", fn := fun _ => fun
  | [d1, d2] => { results := [.lit (.bool false)], args := [d1, d2] }
  | _ => none }
def BatchRowsWrongFalsely : Prop := batchRowsRow.holds Try.pinned (OpenSpec.ofChange batchRowsWrong)

/-- 'bordereaulaw6.BatchBases': WHATEVER THE INPUT: true; the input reads as it did. -/
def batchBasesSpec : ChangeSpec := { name := "batchBases", fn := fun _ => fun
  | [d1, d2, d3] => { results := [.lit (.bool true)], args := [d1, d2, d3] }
  | _ => none }
def batchBasesRow : OpenClaim := { program := "ytlpmfhccfihnfaa", sum := "94bdc5dde8b39e8a9889c541fb37f7ef0528f309da787fcb75a363de7d6d9ba9", func := "bordereau/bordereaulaw6.BatchBases", spec := "batchBases", apart := false }
def BatchBasesSaid : Prop := batchBasesRow.holds Try.pinned (OpenSpec.ofChange batchBasesSpec)

/-- ITS FALSE NEIGHBOUR: 'it returns false'. Refute it at one input. -/
def batchBasesWrong : ChangeSpec := { name := "batchBases", fn := fun _ => fun
  | [d1, d2, d3] => { results := [.lit (.bool false)], args := [d1, d2, d3] }
  | _ => none }
def BatchBasesWrongFalsely : Prop := batchBasesRow.holds Try.pinned (OpenSpec.ofChange batchBasesWrong)

/- THE SECOND FORM. 'bulk': how many values and letters a reading holds, each counted each time it is reached (what is shared counts as often as it is met; a slice's spare places count too). A statement '..UptoSaid' is the law's where the arguments, and the package variables that the reading takes, are together of bulk at most 1048576: NARROWER than '..Said'. Prove '..Said' where nothing that the law and all that it calls make is longer than what came in: it says more and counts as full. Else prove '..UptoSaid'. A law counts once. -/
mutual
def uptoBulk {H : Type} : DataW H → Nat
  | .lit (.string bytes) => bytes.length + 1
  | .lit _ => 1
  | .nil => 1
  | .ptr d => uptoBulk d + 1
  | .slice elems spare => uptoBulkAll elems + uptoBulkAll spare + 1
  | .agg parts => uptoBulkAll parts + 1
  | .iface _ d => uptoBulk d + 1
  | .map entries => uptoBulkEntries entries + 1
  | .held _ => 1
def uptoBulkAll {H : Type} : List (DataW H) → Nat
  | [] => 0
  | d :: r => uptoBulk d + uptoBulkAll r
def uptoBulkEntries {H : Type} : List (Lit × DataW H) → Nat
  | [] => 0
  | x :: r => uptoBulkEntry x + uptoBulkEntries r
def uptoBulkEntry {H : Type} : Lit × DataW H → Nat
  | (.string bytes, d) => bytes.length + uptoBulk d + 1
  | (_, d) => uptoBulk d + 1
 end
def uptoSmall : (H : Type) → List (DataW H) → Bool := fun _ ds => decide (uptoBulkAll ds ≤ 1048576)
def OpenSpec.upto (s : _root_.Go.ChangeSpec) : _root_.Go.OpenSpec := { _root_.Go.OpenSpec.ofChange s with cond := some uptoSmall }

/-- 'bordereaulaw6.BatchNumbers', WHERE WHAT IT READS IS OF BULK AT MOST 1048576: true; the input reads as it did. -/
def batchNumbersUptoRow : OpenClaim := { program := "ytlpmfhccfihnfaa", sum := "94bdc5dde8b39e8a9889c541fb37f7ef0528f309da787fcb75a363de7d6d9ba9", func := "bordereau/bordereaulaw6.BatchNumbers", spec := "batchNumbers", apart := false, narrowed := true }
def BatchNumbersUptoSaid : Prop := batchNumbersUptoRow.holds Try.pinned (OpenSpec.upto batchNumbersSpec)

/-- 'bordereaulaw6.BatchTells', WHERE WHAT IT READS IS OF BULK AT MOST 1048576: true; the input reads as it did. -/
def batchTellsUptoRow : OpenClaim := { program := "ytlpmfhccfihnfaa", sum := "94bdc5dde8b39e8a9889c541fb37f7ef0528f309da787fcb75a363de7d6d9ba9", func := "bordereau/bordereaulaw6.BatchTells", spec := "batchTells", apart := false, narrowed := true }
def BatchTellsUptoSaid : Prop := batchTellsUptoRow.holds Try.pinned (OpenSpec.upto batchTellsSpec)

/-- 'bordereaulaw6.BatchRebased', WHERE WHAT IT READS IS OF BULK AT MOST 1048576: true; the input reads as it did. -/
def batchRebasedUptoRow : OpenClaim := { program := "ytlpmfhccfihnfaa", sum := "94bdc5dde8b39e8a9889c541fb37f7ef0528f309da787fcb75a363de7d6d9ba9", func := "bordereau/bordereaulaw6.BatchRebased", spec := "batchRebased", apart := false, narrowed := true }
def BatchRebasedUptoSaid : Prop := batchRebasedUptoRow.holds Try.pinned (OpenSpec.upto batchRebasedSpec)

/-- 'bordereaulaw6.BatchRows', WHERE WHAT IT READS IS OF BULK AT MOST 1048576: true; the input reads as it did. -/
def batchRowsUptoRow : OpenClaim := { program := "ytlpmfhccfihnfaa", sum := "94bdc5dde8b39e8a9889c541fb37f7ef0528f309da787fcb75a363de7d6d9ba9", func := "bordereau/bordereaulaw6.BatchRows", spec := "batchRows", apart := false, narrowed := true }
def BatchRowsUptoSaid : Prop := batchRowsUptoRow.holds Try.pinned (OpenSpec.upto batchRowsSpec)

/-- 'bordereaulaw6.BatchBases', WHERE WHAT IT READS IS OF BULK AT MOST 1048576: true; the input reads as it did. -/
def batchBasesUptoRow : OpenClaim := { program := "ytlpmfhccfihnfaa", sum := "94bdc5dde8b39e8a9889c541fb37f7ef0528f309da787fcb75a363de7d6d9ba9", func := "bordereau/bordereaulaw6.BatchBases", spec := "batchBases", apart := false, narrowed := true }
def BatchBasesUptoSaid : Prop := batchBasesUptoRow.holds Try.pinned (OpenSpec.upto batchBasesSpec)

end Rows
end Go.Proofs.Ytlpmfhccfihnfaa
