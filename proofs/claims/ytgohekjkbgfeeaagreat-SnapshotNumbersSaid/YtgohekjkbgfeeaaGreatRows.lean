/-
  No cell of these rows narrows 'for every input' (looked for: loops, veiled, ifaces, maps, wideKeys, modest, calm, conditions, laid).
  DERIVED. THE GIVEN ROWS OF THIS SEAT. 4 by the template 'for every input the law returns true; each argument reads behind the call as it read before'; 0 by the template 'total and deterministic' (their statements: YtgohekjkbgfeeaaGreatTotals.lean).
  GIVEN WITH THE SEED: the statements are not yours to turn. If you find one false, say at which input.
  Laid BY PROGRAM, IN A SANDBOX (cutbox-rows.mjs): the forced cells as the released guide's own fill.sh prints them over the translation 39e8d5724781603f… (all of the seat's roots in one cut). By AI agents, Wed Nov 11 2026. No macro, syntax, notation, axiom, sorry.
-/
import Derived.Test.YtgohekjkbgfeeaaGreatChecked
import GoSem.Claim
import GoSem.ClaimJoined
import GoSem.ClaimMapViews
import Derived.JoinedTies
import Derived.KernelRfl
namespace Go.Proofs.YtgohekjkbgfeeaaGreat
/- THE CELL 'sum', in the pinned program and in every row, IS THE sha256 OF THE DUMP (.gsa) THAT YtgohekjkbgfeeaaGreatProg.lean LOADS. Nothing in Lean hashes anything: it is a label: what it is worth is what the hold of that sum in a sandbox is worth. -/
noncomputable def Tryz.pinned : Pinned := { name := "ytgohekjkbgfeeaagreat", sum := "39e8d5724781603fd53b2484702a1fd29ae6d4b6d5417379988bc275fcb7e07e", checked := Tryz.checked }
namespace Rows
def none {H : Type} : Left H := { results := [], args := [] }

/-- 'bordereaulaw12.SnapshotNumbers': WHATEVER THE INPUT: true; the input reads as it did. -/
def snapshotNumbersSpec : ChangeSpec := { name := "snapshotNumbers", fn := fun _ => fun
  | [] => { results := [.lit (.bool true)], args := [] }
  | _ => none }
def snapshotNumbersRow : OpenClaim := { program := "ytgohekjkbgfeeaagreat", sum := "39e8d5724781603fd53b2484702a1fd29ae6d4b6d5417379988bc275fcb7e07e", func := "bordereau/bordereaulaw12.SnapshotNumbers", spec := "snapshotNumbers", inPlace := ["internal/bytealg.IndexByteString", "internal/bytealg.IndexString"], unfollowed := true, recurses := true, named := ["internal/bytealg.MaxLen"], apart := false }
def SnapshotNumbersSaid : Prop := snapshotNumbersRow.holds Tryz.pinned (OpenSpec.ofChange snapshotNumbersSpec)

/-- ITS FALSE NEIGHBOUR: 'it returns false'. Refute it at one input. -/
def snapshotNumbersWrong : ChangeSpec := { name := "snapshotNumbers", fn := fun _ => fun
  | [] => { results := [.lit (.bool false)], args := [] }
  | _ => none }
def SnapshotNumbersWrongFalsely : Prop := snapshotNumbersRow.holds Tryz.pinned (OpenSpec.ofChange snapshotNumbersWrong)

/-- 'bordereaulaw12.SnapshotTells': WHATEVER THE INPUT: true; the input reads as it did. -/
def snapshotTellsSpec : ChangeSpec := { name := "snapshotTells", fn := fun _ => fun
  | [d1, d2, d3, d4, d5, d6, d7, d8] => { results := [.lit (.bool true)], args := [d1, d2, d3, d4, d5, d6, d7, d8] }
  | _ => none }
def snapshotTellsRow : OpenClaim := { program := "ytgohekjkbgfeeaagreat", sum := "39e8d5724781603fd53b2484702a1fd29ae6d4b6d5417379988bc275fcb7e07e", func := "bordereau/bordereaulaw12.SnapshotTells", spec := "snapshotTells", inPlace := ["internal/bytealg.IndexByteString", "internal/bytealg.IndexString"], unfollowed := true, recurses := true, named := ["internal/bytealg.MaxLen"], apart := false }
def SnapshotTellsSaid : Prop := snapshotTellsRow.holds Tryz.pinned (OpenSpec.ofChange snapshotTellsSpec)

/-- ITS FALSE NEIGHBOUR: 'it returns false'. Refute it at one input. -/
def snapshotTellsWrong : ChangeSpec := { name := "snapshotTells", fn := fun _ => fun
  | [d1, d2, d3, d4, d5, d6, d7, d8] => { results := [.lit (.bool false)], args := [d1, d2, d3, d4, d5, d6, d7, d8] }
  | _ => none }
def SnapshotTellsWrongFalsely : Prop := snapshotTellsRow.holds Tryz.pinned (OpenSpec.ofChange snapshotTellsWrong)

/-- 'bordereaulaw12.SnapshotGoesOn': WHATEVER THE INPUT: true; the input reads as it did. -/
def snapshotGoesOnSpec : ChangeSpec := { name := "snapshotGoesOn", fn := fun _ => fun
  | [d1, d2] => { results := [.lit (.bool true)], args := [d1, d2] }
  | _ => none }
def snapshotGoesOnRow : OpenClaim := { program := "ytgohekjkbgfeeaagreat", sum := "39e8d5724781603fd53b2484702a1fd29ae6d4b6d5417379988bc275fcb7e07e", func := "bordereau/bordereaulaw12.SnapshotGoesOn", spec := "snapshotGoesOn", inPlace := ["internal/bytealg.IndexByteString", "internal/bytealg.IndexString"], unfollowed := true, recurses := true, named := ["internal/bytealg.MaxLen"], apart := false }
def SnapshotGoesOnSaid : Prop := snapshotGoesOnRow.holds Tryz.pinned (OpenSpec.ofChange snapshotGoesOnSpec)

/-- ITS FALSE NEIGHBOUR: 'it returns false'. Refute it at one input. -/
def snapshotGoesOnWrong : ChangeSpec := { name := "snapshotGoesOn", fn := fun _ => fun
  | [d1, d2] => { results := [.lit (.bool false)], args := [d1, d2] }
  | _ => none }
def SnapshotGoesOnWrongFalsely : Prop := snapshotGoesOnRow.holds Tryz.pinned (OpenSpec.ofChange snapshotGoesOnWrong)

/-- 'bordereaulaw12.SnapshotBad': WHATEVER THE INPUT: true; the input reads as it did. -/
def snapshotBadSpec : ChangeSpec := { name := "snapshotBad", fn := fun _ => fun
  | [d1, d2, d3] => { results := [.lit (.bool true)], args := [d1, d2, d3] }
  | _ => none }
def snapshotBadRow : OpenClaim := { program := "ytgohekjkbgfeeaagreat", sum := "39e8d5724781603fd53b2484702a1fd29ae6d4b6d5417379988bc275fcb7e07e", func := "bordereau/bordereaulaw12.SnapshotBad", spec := "snapshotBad", inPlace := ["internal/bytealg.IndexByteString", "internal/bytealg.IndexString"], unfollowed := true, recurses := true, named := ["internal/bytealg.MaxLen"], apart := false }
def SnapshotBadSaid : Prop := snapshotBadRow.holds Tryz.pinned (OpenSpec.ofChange snapshotBadSpec)

/-- ITS FALSE NEIGHBOUR: 'it returns false'. Refute it at one input. -/
def snapshotBadWrong : ChangeSpec := { name := "snapshotBad", fn := fun _ => fun
  | [d1, d2, d3] => { results := [.lit (.bool false)], args := [d1, d2, d3] }
  | _ => none }
def SnapshotBadWrongFalsely : Prop := snapshotBadRow.holds Tryz.pinned (OpenSpec.ofChange snapshotBadWrong)

/- THE SECOND FORM. 'bulk': how many values and letters a reading holds, each counted each time it is reached (what is shared counts as often as it is met; a slice's spare places count too). A statement '..UptoSaid' is the law's where the arguments, and the package variables that the reading takes, are together of bulk at most 1048576: NARROWER than '..Said'. Prove '..Said' where nothing that the law and all that it calls make is longer than what came in: it says more and counts as full. Else prove '..UptoSaid'. A law counts once. -/
mutual
def uptoBulk {H : Type} : DataW H → Nat
  | .lit (.string bytes) => bytes.length + 1
  | .lit _ => 1
  | .nil => 1
  | .ptr d => uptoBulk d + 1
  | .slice elems spare => uptoBulkAll elems + uptoBulkAll spare + 1
  | .agg parts => uptoBulkAll parts + 1
  | .iface _ d => uptoBulk d + 1
  | .map entries => uptoBulkEntries entries + 1
  | .held _ => 1
def uptoBulkAll {H : Type} : List (DataW H) → Nat
  | [] => 0
  | d :: r => uptoBulk d + uptoBulkAll r
def uptoBulkEntries {H : Type} : List (Lit × DataW H) → Nat
  | [] => 0
  | x :: r => uptoBulkEntry x + uptoBulkEntries r
def uptoBulkEntry {H : Type} : Lit × DataW H → Nat
  | (.string bytes, d) => bytes.length + uptoBulk d + 1
  | (_, d) => uptoBulk d + 1
 end
def uptoSmall : (H : Type) → List (DataW H) → Bool := fun _ ds => decide (uptoBulkAll ds ≤ 1048576)
def OpenSpec.upto (s : _root_.Go.ChangeSpec) : _root_.Go.OpenSpec := { _root_.Go.OpenSpec.ofChange s with cond := some uptoSmall }

/-- 'bordereaulaw12.SnapshotNumbers', WHERE WHAT IT READS IS OF BULK AT MOST 1048576: true; the input reads as it did. -/
def snapshotNumbersUptoRow : OpenClaim := { program := "ytgohekjkbgfeeaagreat", sum := "39e8d5724781603fd53b2484702a1fd29ae6d4b6d5417379988bc275fcb7e07e", func := "bordereau/bordereaulaw12.SnapshotNumbers", spec := "snapshotNumbers", inPlace := ["internal/bytealg.IndexByteString", "internal/bytealg.IndexString"], unfollowed := true, recurses := true, named := ["internal/bytealg.MaxLen"], apart := false, narrowed := true }
def SnapshotNumbersUptoSaid : Prop := snapshotNumbersUptoRow.holds Tryz.pinned (OpenSpec.upto snapshotNumbersSpec)

/-- 'bordereaulaw12.SnapshotTells', WHERE WHAT IT READS IS OF BULK AT MOST 1048576: true; the input reads as it did. -/
def snapshotTellsUptoRow : OpenClaim := { program := "ytgohekjkbgfeeaagreat", sum := "39e8d5724781603fd53b2484702a1fd29ae6d4b6d5417379988bc275fcb7e07e", func := "bordereau/bordereaulaw12.SnapshotTells", spec := "snapshotTells", inPlace := ["internal/bytealg.IndexByteString", "internal/bytealg.IndexString"], unfollowed := true, recurses := true, named := ["internal/bytealg.MaxLen"], apart := false, narrowed := true }
def SnapshotTellsUptoSaid : Prop := snapshotTellsUptoRow.holds Tryz.pinned (OpenSpec.upto snapshotTellsSpec)

/-- 'bordereaulaw12.SnapshotGoesOn', WHERE WHAT IT READS IS OF BULK AT MOST 1048576: true; the input reads as it did. -/
def snapshotGoesOnUptoRow : OpenClaim := { program := "ytgohekjkbgfeeaagreat", sum := "39e8d5724781603fd53b2484702a1fd29ae6d4b6d5417379988bc275fcb7e07e", func := "bordereau/bordereaulaw12.SnapshotGoesOn", spec := "snapshotGoesOn", inPlace := ["internal/bytealg.IndexByteString", "internal/bytealg.IndexString"], unfollowed := true, recurses := true, named := ["internal/bytealg.MaxLen"], apart := false, narrowed := true }
def SnapshotGoesOnUptoSaid : Prop := snapshotGoesOnUptoRow.holds Tryz.pinned (OpenSpec.upto snapshotGoesOnSpec)

/-- 'bordereaulaw12.SnapshotBad', WHERE WHAT IT READS IS OF BULK AT MOST 1048576: true; the input reads as it did. -/
def snapshotBadUptoRow : OpenClaim := { program := "ytgohekjkbgfeeaagreat", sum := "39e8d5724781603fd53b2484702a1fd29ae6d4b6d5417379988bc275fcb7e07e", func := "bordereau/bordereaulaw12.SnapshotBad", spec := "snapshotBad", inPlace := ["internal/bytealg.IndexByteString", "internal/bytealg.IndexString"], unfollowed := true, recurses := true, named := ["internal/bytealg.MaxLen"], apart := false, narrowed := true }
def SnapshotBadUptoSaid : Prop := snapshotBadUptoRow.holds Tryz.pinned (OpenSpec.upto snapshotBadSpec)

end Rows
end Go.Proofs.YtgohekjkbgfeeaaGreat
