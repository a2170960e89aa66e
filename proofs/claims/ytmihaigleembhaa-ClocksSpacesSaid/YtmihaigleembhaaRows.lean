/-
  No cell of these rows narrows 'for every input' (looked for: loops, veiled, ifaces, maps, wideKeys, modest, calm, conditions, laid).
  DERIVED. THE GIVEN ROWS OF THIS SEAT. 4 by the template 'for every input the law returns true; each argument reads behind the call as it read before'; 0 by the template 'total and deterministic' (their statements: YtmihaigleembhaaTotals.lean).
  GIVEN WITH THE SEED: the statements are not yours to turn. If you find one false, say at which input.
  Laid BY PROGRAM, IN A SANDBOX (cutbox-rows.mjs): the forced cells as the released guide's own fill.sh prints them over the translation 0efd5091af82f297… (all of the seat's roots in one cut). By AI agents, Wed Nov 11 2026. No macro, syntax, notation, axiom, sorry.
-/
import Derived.Test.YtmihaigleembhaaChecked
import GoSem.Claim
import GoSem.ClaimJoined
import GoSem.ClaimMapViews
import Derived.JoinedTies
import Derived.KernelRfl
namespace Go.Proofs.Ytmihaigleembhaa
/- THE CELL 'sum', in the pinned program and in every row, IS THE sha256 OF THE DUMP (.gsa) THAT YtmihaigleembhaaProg.lean LOADS. Nothing in Lean hashes anything: it is a label: what it is worth is what the hold of that sum in a sandbox is worth. -/
noncomputable def Try.pinned : Pinned := { name := "ytmihaigleembhaa", sum := "0efd5091af82f297fc6ffec4e4da751b9f4ddd6e910e5fc94b94d9281d1d686c", checked := Try.checked }
namespace Rows
def none {H : Type} : Left H := { results := [], args := [] }

/-- 'dotterellaw11.ClocksTell': WHATEVER THE INPUT: true; the input reads as it did. -/
def clocksTellSpec : ChangeSpec := { name := "clocksTell", fn := fun _ => fun
  | [d1, d2, d3, d4, d5, d6, d7] => { results := [.lit (.bool true)], args := [d1, d2, d3, d4, d5, d6, d7] }
  | _ => none }
def clocksTellRow : OpenClaim := { program := "ytmihaigleembhaa", sum := "0efd5091af82f297fc6ffec4e4da751b9f4ddd6e910e5fc94b94d9281d1d686c", func := "dotterel/dotterellaw11.ClocksTell", spec := "clocksTell", apart := false }
def ClocksTellSaid : Prop := clocksTellRow.holds Try.pinned (OpenSpec.ofChange clocksTellSpec)

/-- ITS FALSE NEIGHBOUR: 'it returns false'. Refute it at one input. -/
def clocksTellWrong : ChangeSpec := { name := "clocksTell", fn := fun _ => fun
  | [d1, d2, d3, d4, d5, d6, d7] => { results := [.lit (.bool false)], args := [d1, d2, d3, d4, d5, d6, d7] }
  | _ => none }
def ClocksTellWrongFalsely : Prop := clocksTellRow.holds Try.pinned (OpenSpec.ofChange clocksTellWrong)

/-- 'dotterellaw11.ClocksRise': WHATEVER THE INPUT: true; the input reads as it did. -/
def clocksRiseSpec : ChangeSpec := { name := "clocksRise", fn := fun _ => fun
  | [d1, d2, d3, d4, d5, d6, d7] => { results := [.lit (.bool true)], args := [d1, d2, d3, d4, d5, d6, d7] }
  | _ => none }
def clocksRiseRow : OpenClaim := { program := "ytmihaigleembhaa", sum := "0efd5091af82f297fc6ffec4e4da751b9f4ddd6e910e5fc94b94d9281d1d686c", func := "dotterel/dotterellaw11.ClocksRise", spec := "clocksRise", apart := false }
def ClocksRiseSaid : Prop := clocksRiseRow.holds Try.pinned (OpenSpec.ofChange clocksRiseSpec)

/-- ITS FALSE NEIGHBOUR: 'it returns false'. Refute it at one input. -/
def clocksRiseWrong : ChangeSpec := { name := "clocksRise", fn := fun _ => fun
  | [d1, d2, d3, d4, d5, d6, d7] => { results := [.lit (.bool false)], args := [d1, d2, d3, d4, d5, d6, d7] }
  | _ => none }
def ClocksRiseWrongFalsely : Prop := clocksRiseRow.holds Try.pinned (OpenSpec.ofChange clocksRiseWrong)

/-- 'dotterellaw11.ClocksLimit': WHATEVER THE INPUT: true; the input reads as it did. -/
def clocksLimitSpec : ChangeSpec := { name := "clocksLimit", fn := fun _ => fun
  | [d1, d2, d3, d4, d5] => { results := [.lit (.bool true)], args := [d1, d2, d3, d4, d5] }
  | _ => none }
def clocksLimitRow : OpenClaim := { program := "ytmihaigleembhaa", sum := "0efd5091af82f297fc6ffec4e4da751b9f4ddd6e910e5fc94b94d9281d1d686c", func := "dotterel/dotterellaw11.ClocksLimit", spec := "clocksLimit", apart := false }
def ClocksLimitSaid : Prop := clocksLimitRow.holds Try.pinned (OpenSpec.ofChange clocksLimitSpec)

/-- ITS FALSE NEIGHBOUR: 'it returns false'. Refute it at one input. -/
def clocksLimitWrong : ChangeSpec := { name := "clocksLimit", fn := fun _ => fun
  | [d1, d2, d3, d4, d5] => { results := [.lit (.bool false)], args := [d1, d2, d3, d4, d5] }
  | _ => none }
def ClocksLimitWrongFalsely : Prop := clocksLimitRow.holds Try.pinned (OpenSpec.ofChange clocksLimitWrong)

/-- 'dotterellaw11.ClocksSpaces': WHATEVER THE INPUT: true; the input reads as it did. -/
def clocksSpacesSpec : ChangeSpec := { name := "clocksSpaces", fn := fun _ => fun
  | [d1, d2, d3, d4] => { results := [.lit (.bool true)], args := [d1, d2, d3, d4] }
  | _ => none }
def clocksSpacesRow : OpenClaim := { program := "ytmihaigleembhaa", sum := "0efd5091af82f297fc6ffec4e4da751b9f4ddd6e910e5fc94b94d9281d1d686c", func := "dotterel/dotterellaw11.ClocksSpaces", spec := "clocksSpaces", apart := false }
def ClocksSpacesSaid : Prop := clocksSpacesRow.holds Try.pinned (OpenSpec.ofChange clocksSpacesSpec)

/-- ITS FALSE NEIGHBOUR: 'it returns false'. Refute it at one input. -/
def clocksSpacesWrong : ChangeSpec := { name := "clocksSpaces", fn := fun _ => fun
  | [d1, d2, d3, d4] => { results := [.lit (.bool false)], args := [d1, d2, d3, d4] }
  | _ => none }
def ClocksSpacesWrongFalsely : Prop := clocksSpacesRow.holds Try.pinned (OpenSpec.ofChange clocksSpacesWrong)

/- THE SECOND FORM. 'bulk': how many values and letters a reading holds, each counted each time it is reached (what is shared counts as often as it is met; a slice's spare places count too). A statement '..UptoSaid' is the law's where the arguments, and the package variables that the reading takes, are together of bulk at most 1048576: NARROWER than '..Said'. Prove '..Said' where nothing that the law and all that it calls make is longer than what came in: it says more and counts as full. Else prove '..UptoSaid'. A law counts once. -/
mutual
def uptoBulk {H : Type} : DataW H → Nat
  | .lit (.string bytes) => bytes.length + 1
  | .lit _ => 1
  | .nil => 1
  | .ptr d => uptoBulk d + 1
  | .slice elems spare => uptoBulkAll elems + uptoBulkAll spare + 1
  | .agg parts => uptoBulkAll parts + 1
  | .iface _ d => uptoBulk d + 1
  | .map entries => uptoBulkEntries entries + 1
  | .held _ => 1
def uptoBulkAll {H : Type} : List (DataW H) → Nat
  | [] => 0
  | d :: r => uptoBulk d + uptoBulkAll r
def uptoBulkEntries {H : Type} : List (Lit × DataW H) → Nat
  | [] => 0
  | x :: r => uptoBulkEntry x + uptoBulkEntries r
def uptoBulkEntry {H : Type} : Lit × DataW H → Nat
  | (.string bytes, d) => bytes.length + uptoBulk d + 1
  | (_, d) => uptoBulk d + 1
 end
def uptoSmall : (H : Type) → List (DataW H) → Bool := fun _ ds => decide (uptoBulkAll ds ≤ 1048576)
def OpenSpec.upto (s : _root_.Go.ChangeSpec) : _root_.Go.OpenSpec := { _root_.Go.OpenSpec.ofChange s with cond := some uptoSmall }

/-- 'dotterellaw11.ClocksTell', WHERE WHAT IT READS IS OF BULK AT MOST 1048576: true; the input reads as it did. -/
def clocksTellUptoRow : OpenClaim := { program := "ytmihaigleembhaa", sum := "0efd5091af82f297fc6ffec4e4da751b9f4ddd6e910e5fc94b94d9281d1d686c", func := "dotterel/dotterellaw11.ClocksTell", spec := "clocksTell", apart := false, narrowed := true }
def ClocksTellUptoSaid : Prop := clocksTellUptoRow.holds Try.pinned (OpenSpec.upto clocksTellSpec)

/-- 'dotterellaw11.ClocksRise', WHERE WHAT IT READS IS OF BULK AT MOST 1048576: true; the input reads as it did. -/
def clocksRiseUptoRow : OpenClaim := { program := "ytmihaigleembhaa", sum := "0efd5091af82f297fc6ffec4e4da751b9f4ddd6e910e5fc94b94d9281d1d686c", func := "dotterel/dotterellaw11.ClocksRise", spec := "clocksRise", apart := false, narrowed := true }
def ClocksRiseUptoSaid : Prop := clocksRiseUptoRow.holds Try.pinned (OpenSpec.upto clocksRiseSpec)

/-- 'dotterellaw11.ClocksLimit', WHERE WHAT IT READS IS OF BULK AT MOST 1048576: true; the input reads as it did. -/
def clocksLimitUptoRow : OpenClaim := { program := "ytmihaigleembhaa", sum := "0efd5091af82f297fc6ffec4e4da751b9f4ddd6e910e5fc94b94d9281d1d686c", func := "dotterel/dotterellaw11.ClocksLimit", spec := "clocksLimit", apart := false, narrowed := true }
def ClocksLimitUptoSaid : Prop := clocksLimitUptoRow.holds Try.pinned (OpenSpec.upto clocksLimitSpec)

/-- 'dotterellaw11.ClocksSpaces', WHERE WHAT IT READS IS OF BULK AT MOST 1048576: true; the input reads as it did. -/
def clocksSpacesUptoRow : OpenClaim := { program := "ytmihaigleembhaa", sum := "0efd5091af82f297fc6ffec4e4da751b9f4ddd6e910e5fc94b94d9281d1d686c", func := "dotterel/dotterellaw11.ClocksSpaces", spec := "clocksSpaces", apart := false, narrowed := true }
def ClocksSpacesUptoSaid : Prop := clocksSpacesUptoRow.holds Try.pinned (OpenSpec.upto clocksSpacesSpec)

end Rows
end Go.Proofs.Ytmihaigleembhaa
