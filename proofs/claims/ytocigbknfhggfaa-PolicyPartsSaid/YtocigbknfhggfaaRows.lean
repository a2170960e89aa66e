/-
  No cell of these rows narrows 'for every input' (looked for: loops, veiled, ifaces, maps, wideKeys, modest, calm, conditions, laid).
  DERIVED. THE GIVEN ROWS OF THIS SEAT. 4 by the template 'for every input the law returns true; each argument reads behind the call as it read before'; 0 by the template 'total and deterministic' (their statements: YtocigbknfhggfaaTotals.lean).
  GIVEN WITH THE SEED: the statements are not yours to turn. If you find one false, say at which input.
  Laid BY PROGRAM, IN A SANDBOX (cutbox-rows.mjs): the forced cells as the released guide's own fill.sh prints them over the translation 204b7f0a42f6a3a3… (all of the seat's roots in one cut). By AI agents, Wed Nov 11 2026. No macro, syntax, notation, axiom, sorry.
-/
import Derived.Test.YtocigbknfhggfaaChecked
import GoSem.Claim
import GoSem.ClaimJoined
import GoSem.ClaimMapViews
import Derived.JoinedTies
import Derived.KernelRfl
namespace Go.Proofs.Ytocigbknfhggfaa
/- THE CELL 'sum', in the pinned program and in every row, IS THE sha256 OF THE DUMP (.gsa) THAT YtocigbknfhggfaaProg.lean LOADS. Nothing in Lean hashes anything: it is a label: what it is worth is what the hold of that sum in a sandbox is worth. -/
noncomputable def Try.pinned : Pinned := { name := "ytocigbknfhggfaa", sum := "204b7f0a42f6a3a39d674e1e71c0b0699d4f4796d3134171c5ca25252ed848a1", checked := Try.checked }
namespace Rows
def none {H : Type} : Left H := { results := [], args := [] }

/-- 'dotterellaw10.PolicyTells': WHATEVER THE INPUT: true; the input reads as it did. -/
def policyTellsSpec : ChangeSpec := { name := "policyTells", fn := fun _ => fun
  | [d1, d2] => { results := [.lit (.bool true)], args := [d1, d2] }
  | _ => none }
def policyTellsRow : OpenClaim := { program := "ytocigbknfhggfaa", sum := "204b7f0a42f6a3a39d674e1e71c0b0699d4f4796d3134171c5ca25252ed848a1", func := "dotterel/dotterellaw10.PolicyTells", spec := "policyTells", apart := false }
def PolicyTellsSaid : Prop := policyTellsRow.holds Try.pinned (OpenSpec.ofChange policyTellsSpec)

/-- ITS FALSE NEIGHBOUR: 'it returns false'. Refute it at one input. -/
def policyTellsWrong : ChangeSpec := { name := "policyTells", fn := fun _ => fun
  | [d1, d2] => { results := [.lit (.bool false)], args := [d1, d2] }
  | _ => none }
def PolicyTellsWrongFalsely : Prop := policyTellsRow.holds Try.pinned (OpenSpec.ofChange policyTellsWrong)

/-- 'dotterellaw10.PolicyNums': WHATEVER THE INPUT: true; the input reads as it did. -/
def policyNumsSpec : ChangeSpec := { name := "policyNums", fn := fun _ => fun
  | [d1, d2] => { results := [.lit (.bool true)], args := [d1, d2] }
  | _ => none }
def policyNumsRow : OpenClaim := { program := "ytocigbknfhggfaa", sum := "204b7f0a42f6a3a39d674e1e71c0b0699d4f4796d3134171c5ca25252ed848a1", func := "dotterel/dotterellaw10.PolicyNums", spec := "policyNums", apart := false }
def PolicyNumsSaid : Prop := policyNumsRow.holds Try.pinned (OpenSpec.ofChange policyNumsSpec)

/-- ITS FALSE NEIGHBOUR: 'it returns false'. Refute it at one input. -/
def policyNumsWrong : ChangeSpec := { name := "policyNums", fn := fun _ => fun
  | [d1, d2] => { results := [.lit (.bool false)], args := [d1, d2] }
  | _ => none }
def PolicyNumsWrongFalsely : Prop := policyNumsRow.holds Try.pinned (OpenSpec.ofChange policyNumsWrong)

/-- 'dotterellaw10.PolicyParts': WHATEVER THE INPUT: true; the input reads as it did. -/
def policyPartsSpec : ChangeSpec := { name := "policyParts", fn := fun _ => fun
  | [d1, d2, d3] => { results := [.lit (.bool true)], args := [d1, d2, d3] }
  | _ => none }
def policyPartsRow : OpenClaim := { program := "ytocigbknfhggfaa", sum := "204b7f0a42f6a3a39d674e1e71c0b0699d4f4796d3134171c5ca25252ed848a1", func := "dotterel/dotterellaw10.PolicyParts", spec := "policyParts", apart := false }
def PolicyPartsSaid : Prop := policyPartsRow.holds Try.pinned (OpenSpec.ofChange policyPartsSpec)

/-- ITS FALSE NEIGHBOUR: 'it returns false'. Refute it at one input. -/
def policyPartsWrong : ChangeSpec := { name := "policyParts", fn := fun _ => fun
  | [d1, d2, d3] => { results := [.lit (.bool false)], args := [d1, d2, d3] }
  | _ => none }
def PolicyPartsWrongFalsely : Prop := policyPartsRow.holds Try.pinned (OpenSpec.ofChange policyPartsWrong)

/-- 'dotterellaw10.PolicyLoads': WHATEVER THE INPUT: true; the input reads as it did. -/
def policyLoadsSpec : ChangeSpec := { name := "policyLoads", fn := fun _ => fun
  | [d1, d2, d3] => { results := [.lit (.bool true)], args := [d1, d2, d3] }
  | _ => none }
def policyLoadsRow : OpenClaim := { program := "ytocigbknfhggfaa", sum := "204b7f0a42f6a3a39d674e1e71c0b0699d4f4796d3134171c5ca25252ed848a1", func := "dotterel/dotterellaw10.PolicyLoads", spec := "policyLoads", apart := false }
def PolicyLoadsSaid : Prop := policyLoadsRow.holds Try.pinned (OpenSpec.ofChange policyLoadsSpec)

/-- ITS FALSE NEIGHBOUR: 'it returns false'. Refute it at one input. -/
def policyLoadsWrong : ChangeSpec := { name := "policyLoads", fn := fun _ => fun
  | [d1, d2, d3] => { results := [.lit (.bool false)], args := [d1, d2, d3] }
  | _ => none }
def PolicyLoadsWrongFalsely : Prop := policyLoadsRow.holds Try.pinned (OpenSpec.ofChange policyLoadsWrong)

/- THE SECOND FORM. 'bulk': how many values and letters a reading holds, each counted each time it is reached (what is shared counts as often as it is met; a slice's spare places count too). A statement '..UptoSaid' is the law's where the arguments, and the package variables that the reading takes, are together of bulk at most 1048576: NARROWER than '..Said'. Prove '..Said' where nothing that the law and all that it calls make is longer than what came in: it says more and counts as full. Else prove '..UptoSaid'. A law counts once. -/
mutual
def uptoBulk {H : Type} : DataW H → Nat
  | .lit (.string bytes) => bytes.length + 1
  | .lit _ => 1
  | .nil => 1
  | .ptr d => uptoBulk d + 1
  | .slice elems spare => uptoBulkAll elems + uptoBulkAll spare + 1
  | .agg parts => uptoBulkAll parts + 1
  | .iface _ d => uptoBulk d + 1
  | .map entries => uptoBulkEntries entries + 1
  | .held _ => 1
def uptoBulkAll {H : Type} : List (DataW H) → Nat
  | [] => 0
  | d :: r => uptoBulk d + uptoBulkAll r
def uptoBulkEntries {H : Type} : List (Lit × DataW H) → Nat
  | [] => 0
  | x :: r => uptoBulkEntry x + uptoBulkEntries r
def uptoBulkEntry {H : Type} : Lit × DataW H → Nat
  | (.string bytes, d) => bytes.length + uptoBulk d + 1
  | (_, d) => uptoBulk d + 1
 end
def uptoSmall : (H : Type) → List (DataW H) → Bool := fun _ ds => decide (uptoBulkAll ds ≤ 1048576)
def OpenSpec.upto (s : _root_.Go.ChangeSpec) : _root_.Go.OpenSpec := { _root_.Go.OpenSpec.ofChange s with cond := some uptoSmall }

/-- 'dotterellaw10.PolicyTells', WHERE WHAT IT READS IS OF BULK AT MOST 1048576: true; the input reads as it did. -/
def policyTellsUptoRow : OpenClaim := { program := "ytocigbknfhggfaa", sum := "204b7f0a42f6a3a39d674e1e71c0b0699d4f4796d3134171c5ca25252ed848a1", func := "dotterel/dotterellaw10.PolicyTells", spec := "policyTells", apart := false, narrowed := true }
def PolicyTellsUptoSaid : Prop := policyTellsUptoRow.holds Try.pinned (OpenSpec.upto policyTellsSpec)

/-- 'dotterellaw10.PolicyNums', WHERE WHAT IT READS IS OF BULK AT MOST 1048576: true; the input reads as it did. -/
def policyNumsUptoRow : OpenClaim := { program := "ytocigbknfhggfaa", sum := "204b7f0a42f6a3a39d674e1e71c0b0699d4f4796d3134171c5ca25252ed848a1", func := "dotterel/dotterellaw10.PolicyNums", spec := "policyNums", apart := false, narrowed := true }
def PolicyNumsUptoSaid : Prop := policyNumsUptoRow.holds Try.pinned (OpenSpec.upto policyNumsSpec)

/-- 'dotterellaw10.PolicyParts', WHERE WHAT IT READS IS OF BULK AT MOST 1048576: true; the input reads as it did. -/
def policyPartsUptoRow : OpenClaim := { program := "ytocigbknfhggfaa", sum := "204b7f0a42f6a3a39d674e1e71c0b0699d4f4796d3134171c5ca25252ed848a1", func := "dotterel/dotterellaw10.PolicyParts", spec := "policyParts", apart := false, narrowed := true }
def PolicyPartsUptoSaid : Prop := policyPartsUptoRow.holds Try.pinned (OpenSpec.upto policyPartsSpec)

/-- 'dotterellaw10.PolicyLoads', WHERE WHAT IT READS IS OF BULK AT MOST 1048576: true; the input reads as it did. -/
def policyLoadsUptoRow : OpenClaim := { program := "ytocigbknfhggfaa", sum := "204b7f0a42f6a3a39d674e1e71c0b0699d4f4796d3134171c5ca25252ed848a1", func := "dotterel/dotterellaw10.PolicyLoads", spec := "policyLoads", apart := false, narrowed := true }
def PolicyLoadsUptoSaid : Prop := policyLoadsUptoRow.holds Try.pinned (OpenSpec.upto policyLoadsSpec)

end Rows
end Go.Proofs.Ytocigbknfhggfaa
