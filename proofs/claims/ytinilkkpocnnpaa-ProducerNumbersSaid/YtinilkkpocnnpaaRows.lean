/-
  No cell of these rows narrows 'for every input' (looked for: loops, veiled, ifaces, maps, wideKeys, modest, calm, conditions, laid).
  DERIVED. THE GIVEN ROWS OF THIS SEAT. 4 by the template 'for every input the law returns true; each argument reads behind the call as it read before'; 0 by the template 'total and deterministic' (their statements: YtinilkkpocnnpaaTotals.lean).
  GIVEN WITH THE SEED: the statements are not yours to turn. If you find one false, say at which input.
  Laid BY PROGRAM, IN A SANDBOX (cutbox-rows.mjs): the forced cells as the released guide's own fill.sh prints them over the translation 203e2fd6913d32ae… (all of the seat's roots in one cut). By AI agents, Wed Nov 11 2026. No macro, syntax, notation, axiom, sorry.
-/
import Derived.Test.YtinilkkpocnnpaaChecked
import GoSem.Claim
import GoSem.ClaimJoined
import GoSem.ClaimMapViews
import Derived.JoinedTies
import Derived.KernelRfl
namespace Go.Proofs.Ytinilkkpocnnpaa
/- THE CELL 'sum', in the pinned program and in every row, IS THE sha256 OF THE DUMP (.gsa) THAT YtinilkkpocnnpaaProg.lean LOADS. Nothing in Lean hashes anything: it is a label: what it is worth is what the hold of that sum in a sandbox is worth. -/
noncomputable def Try.pinned : Pinned := { name := "ytinilkkpocnnpaa", sum := "203e2fd6913d32ae02f56259d542d62a2cb52d95060651b7410e3ccf7a249cf9", checked := Try.checked }
namespace Rows
def none {H : Type} : Left H := { results := [], args := [] }

/-- 'bordereaulaw10.ProducerNumbers': WHATEVER THE INPUT: true; the input reads as it did. -/
def producerNumbersSpec : ChangeSpec := { name := "producerNumbers", fn := fun _ => fun
  | [] => { results := [.lit (.bool true)], args := [] }
  | _ => none }
def producerNumbersRow : OpenClaim := { program := "ytinilkkpocnnpaa", sum := "203e2fd6913d32ae02f56259d542d62a2cb52d95060651b7410e3ccf7a249cf9", func := "bordereau/bordereaulaw10.ProducerNumbers", spec := "producerNumbers", apart := false }
def ProducerNumbersSaid : Prop := producerNumbersRow.holds Try.pinned (OpenSpec.ofChange producerNumbersSpec)

/-- ITS FALSE NEIGHBOUR: 'it returns false'. Refute it at one input. -/
def producerNumbersWrong : ChangeSpec := { name := "producerNumbers", fn := fun _ => fun
  | [] => { results := [.lit (.bool false)], args := [] }
  | _ => none }
def ProducerNumbersWrongFalsely : Prop := producerNumbersRow.holds Try.pinned (OpenSpec.ofChange producerNumbersWrong)

/-- 'bordereaulaw10.ProducerOnce': WHATEVER THE INPUT: true; the input reads as it did. -/
def producerOnceSpec : ChangeSpec := { name := "producerOnce", fn := fun _ => fun
  | [d1, d2] => { results := [.lit (.bool true)], args := [d1, d2] }
  | _ => none }
def producerOnceRow : OpenClaim := { program := "ytinilkkpocnnpaa", sum := "203e2fd6913d32ae02f56259d542d62a2cb52d95060651b7410e3ccf7a249cf9", func := "bordereau/bordereaulaw10.ProducerOnce", spec := "producerOnce", apart := false }
def ProducerOnceSaid : Prop := producerOnceRow.holds Try.pinned (OpenSpec.ofChange producerOnceSpec)

/-- ITS FALSE NEIGHBOUR: 'it returns false'. Refute it at one input. -/
def producerOnceWrong : ChangeSpec := { name := "producerOnce", fn := fun _ => fun
  | [d1, d2] => { results := [.lit (.bool false)], args := [d1, d2] }
  | _ => none }
def ProducerOnceWrongFalsely : Prop := producerOnceRow.holds Try.pinned (OpenSpec.ofChange producerOnceWrong)

/-- 'bordereaulaw10.ProducerMarkers': WHATEVER THE INPUT: true; the input reads as it did. -/
def producerMarkersSpec : ChangeSpec := { name := "producerMarkers", fn := fun _ => fun
  | [d1, d2, d3] => { results := [.lit (.bool true)], args := [d1, d2, d3] }
  | _ => none }
def producerMarkersRow : OpenClaim := { program := "ytinilkkpocnnpaa", sum := "203e2fd6913d32ae02f56259d542d62a2cb52d95060651b7410e3ccf7a249cf9", func := "bordereau/bordereaulaw10.ProducerMarkers", spec := "producerMarkers", apart := false }
def ProducerMarkersSaid : Prop := producerMarkersRow.holds Try.pinned (OpenSpec.ofChange producerMarkersSpec)

/-- ITS FALSE NEIGHBOUR: 'it returns false'. Refute it at one input. -/
def producerMarkersWrong : ChangeSpec := { name := "producerMarkers", fn := fun _ => fun
  | [d1, d2, d3] => { results := [.lit (.bool false)], args := [d1, d2, d3] }
  | _ => none }
def ProducerMarkersWrongFalsely : Prop := producerMarkersRow.holds Try.pinned (OpenSpec.ofChange producerMarkersWrong)

/-- 'bordereaulaw10.ProducerEpochs': WHATEVER THE INPUT: true; the input reads as it did. -/
def producerEpochsSpec : ChangeSpec := { name := "producerEpochs", fn := fun _ => fun
  | [d1, d2, d3] => { results := [.lit (.bool true)], args := [d1, d2, d3] }
  | _ => none }
def producerEpochsRow : OpenClaim := { program := "ytinilkkpocnnpaa", sum := "203e2fd6913d32ae02f56259d542d62a2cb52d95060651b7410e3ccf7a249cf9", func := "bordereau/bordereaulaw10.ProducerEpochs", spec := "producerEpochs", apart := false }
def ProducerEpochsSaid : Prop := producerEpochsRow.holds Try.pinned (OpenSpec.ofChange producerEpochsSpec)

/-- ITS FALSE NEIGHBOUR: 'it returns false'. Refute it at one input. -/
def producerEpochsWrong : ChangeSpec := { name := "producerEpochs", fn := fun _ => fun
  | [d1, d2, d3] => { results := [.lit (.bool false)], args := [d1, d2, d3] }
  | _ => none }
def ProducerEpochsWrongFalsely : Prop := producerEpochsRow.holds Try.pinned (OpenSpec.ofChange producerEpochsWrong)

/- THE SECOND FORM. 'bulk': how many values and letters a reading holds, each counted each time it is reached (what is shared counts as often as it is met; a slice's spare places count too). A statement '..UptoSaid' is the law's where the arguments, and the package variables that the reading takes, are together of bulk at most 1048576: NARROWER than '..Said'. Prove '..Said' where nothing that the law and all that it calls make is longer than what came in: it says more and counts as full. Else prove '..UptoSaid'. A law counts once. -/
mutual
def uptoBulk {H : Type} : DataW H → Nat
  | .lit (.string bytes) => bytes.length + 1
  | .lit _ => 1
  | .nil => 1
  | .ptr d => uptoBulk d + 1
  | .slice elems spare => uptoBulkAll elems + uptoBulkAll spare + 1
  | .agg parts => uptoBulkAll parts + 1
  | .iface _ d => uptoBulk d + 1
  | .map entries => uptoBulkEntries entries + 1
  | .held _ => 1
def uptoBulkAll {H : Type} : List (DataW H) → Nat
  | [] => 0
  | d :: r => uptoBulk d + uptoBulkAll r
def uptoBulkEntries {H : Type} : List (Lit × DataW H) → Nat
  | [] => 0
  | x :: r => uptoBulkEntry x + uptoBulkEntries r
def uptoBulkEntry {H : Type} : Lit × DataW H → Nat
  | (.string bytes, d) => bytes.length + uptoBulk d + 1
  | (_, d) => uptoBulk d + 1
 end
def uptoSmall : (H : Type) → List (DataW H) → Bool := fun _ ds => decide (uptoBulkAll ds ≤ 1048576)
def OpenSpec.upto (s : _root_.Go.ChangeSpec) : _root_.Go.OpenSpec := { _root_.Go.OpenSpec.ofChange s with cond := some uptoSmall }

/-- 'bordereaulaw10.ProducerNumbers', WHERE WHAT IT READS IS OF BULK AT MOST 1048576: true; the input reads as it did. -/
def producerNumbersUptoRow : OpenClaim := { program := "ytinilkkpocnnpaa", sum := "203e2fd6913d32ae02f56259d542d62a2cb52d95060651b7410e3ccf7a249cf9", func := "bordereau/bordereaulaw10.ProducerNumbers", spec := "producerNumbers", apart := false, narrowed := true }
def ProducerNumbersUptoSaid : Prop := producerNumbersUptoRow.holds Try.pinned (OpenSpec.upto producerNumbersSpec)

/-- 'bordereaulaw10.ProducerOnce', WHERE WHAT IT READS IS OF BULK AT MOST 1048576: true; the input reads as it did. -/
def producerOnceUptoRow : OpenClaim := { program := "ytinilkkpocnnpaa", sum := "203e2fd6913d32ae02f56259d542d62a2cb52d95060651b7410e3ccf7a249cf9", func := "bordereau/bordereaulaw10.ProducerOnce", spec := "producerOnce", apart := false, narrowed := true }
def ProducerOnceUptoSaid : Prop := producerOnceUptoRow.holds Try.pinned (OpenSpec.upto producerOnceSpec)

/-- 'bordereaulaw10.ProducerMarkers', WHERE WHAT IT READS IS OF BULK AT MOST 1048576: true; the input reads as it did. -/
def producerMarkersUptoRow : OpenClaim := { program := "ytinilkkpocnnpaa", sum := "203e2fd6913d32ae02f56259d542d62a2cb52d95060651b7410e3ccf7a249cf9", func := "bordereau/bordereaulaw10.ProducerMarkers", spec := "producerMarkers", apart := false, narrowed := true }
def ProducerMarkersUptoSaid : Prop := producerMarkersUptoRow.holds Try.pinned (OpenSpec.upto producerMarkersSpec)

/-- 'bordereaulaw10.ProducerEpochs', WHERE WHAT IT READS IS OF BULK AT MOST 1048576: true; the input reads as it did. -/
def producerEpochsUptoRow : OpenClaim := { program := "ytinilkkpocnnpaa", sum := "203e2fd6913d32ae02f56259d542d62a2cb52d95060651b7410e3ccf7a249cf9", func := "bordereau/bordereaulaw10.ProducerEpochs", spec := "producerEpochs", apart := false, narrowed := true }
def ProducerEpochsUptoSaid : Prop := producerEpochsUptoRow.holds Try.pinned (OpenSpec.upto producerEpochsSpec)

end Rows
end Go.Proofs.Ytinilkkpocnnpaa
