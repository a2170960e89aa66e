/-
  No cell of these rows narrows 'for every input' (looked for: loops, veiled, ifaces, maps, wideKeys, modest, calm, conditions, laid).
  DERIVED. THE GIVEN ROWS OF THIS SEAT. 4 by the template 'for every input the law returns true; each argument reads behind the call as it read before'; 0 by the template 'total and deterministic' (their statements: YtmpiemiplopmdaaTotals.lean).
  GIVEN WITH THE SEED: the statements are not yours to turn. If you find one false, say at which input.
  Laid BY PROGRAM, IN A SANDBOX (cutbox-rows.mjs): the forced cells as the released guide's own fill.sh prints them over the translation 28cda60e7a5a65e9… (all of the seat's roots in one cut). By AI agents, Wed Nov 11 2026. No macro, syntax, notation, axiom, sorry.
-/
import Derived.Test.YtmpiemiplopmdaaChecked
import GoSem.Claim
import GoSem.ClaimJoined
import GoSem.ClaimMapViews
import Derived.JoinedTies
import Derived.KernelRfl
namespace Go.Proofs.Ytmpiemiplopmdaa
/- THE CELL 'sum', in the pinned program and in every row, IS THE sha256 OF THE DUMP (.gsa) THAT YtmpiemiplopmdaaProg.lean LOADS. Nothing in Lean hashes anything: it is a label: what it is worth is what the hold of that sum in a sandbox is worth. -/
noncomputable def Try.pinned : Pinned := { name := "ytmpiemiplopmdaa", sum := "28cda60e7a5a65e94236ab8652c7834fe880c25a05bc5c2e3d4607cf25187d5c", checked := Try.checked }
namespace Rows
def none {H : Type} : Left H := { results := [], args := [] }

/-- 'dotterellaw01.FixnumTells': WHATEVER THE INPUT: true; the input reads as it did. -/
def fixnumTellsSpec : ChangeSpec := { name := "fixnumTells", fn := fun _ => fun
  | [d1, d2] => { results := [.lit (.bool true)], args := [d1, d2] }
  | _ => none }
def fixnumTellsRow : OpenClaim := { program := "ytmpiemiplopmdaa", sum := "28cda60e7a5a65e94236ab8652c7834fe880c25a05bc5c2e3d4607cf25187d5c", func := "dotterel/dotterellaw01.FixnumTells", spec := "fixnumTells", apart := false }
def FixnumTellsSaid : Prop := fixnumTellsRow.holds Try.pinned (OpenSpec.ofChange fixnumTellsSpec)

/-- ITS FALSE NEIGHBOUR: 'it returns false'. Refute it at one input. -/
def fixnumTellsWrong : ChangeSpec := { name := "fixnumTells", fn := fun _ => fun
  | [d1, d2] => { results := [.lit (.bool false)], args := [d1, d2] }
  | _ => none }
def FixnumTellsWrongFalsely : Prop := fixnumTellsRow.holds Try.pinned (OpenSpec.ofChange fixnumTellsWrong)

/-- 'dotterellaw01.FixnumRooms': WHATEVER THE INPUT: true; the input reads as it did. -/
def fixnumRoomsSpec : ChangeSpec := { name := "fixnumRooms", fn := fun _ => fun
  | [d] => { results := [.lit (.bool true)], args := [d] }
  | _ => none }
def fixnumRoomsRow : OpenClaim := { program := "ytmpiemiplopmdaa", sum := "28cda60e7a5a65e94236ab8652c7834fe880c25a05bc5c2e3d4607cf25187d5c", func := "dotterel/dotterellaw01.FixnumRooms", spec := "fixnumRooms", apart := false }
def FixnumRoomsSaid : Prop := fixnumRoomsRow.holds Try.pinned (OpenSpec.ofChange fixnumRoomsSpec)

/-- ITS FALSE NEIGHBOUR: 'it returns false'. Refute it at one input. -/
def fixnumRoomsWrong : ChangeSpec := { name := "fixnumRooms", fn := fun _ => fun
  | [d] => { results := [.lit (.bool false)], args := [d] }
  | _ => none }
def FixnumRoomsWrongFalsely : Prop := fixnumRoomsRow.holds Try.pinned (OpenSpec.ofChange fixnumRoomsWrong)

/-- 'dotterellaw01.FixnumGrows': WHATEVER THE INPUT: true; the input reads as it did. -/
def fixnumGrowsSpec : ChangeSpec := { name := "fixnumGrows", fn := fun _ => fun
  | [d1, d2, d3] => { results := [.lit (.bool true)], args := [d1, d2, d3] }
  | _ => none }
def fixnumGrowsRow : OpenClaim := { program := "ytmpiemiplopmdaa", sum := "28cda60e7a5a65e94236ab8652c7834fe880c25a05bc5c2e3d4607cf25187d5c", func := "dotterel/dotterellaw01.FixnumGrows", spec := "fixnumGrows", apart := false }
def FixnumGrowsSaid : Prop := fixnumGrowsRow.holds Try.pinned (OpenSpec.ofChange fixnumGrowsSpec)

/-- ITS FALSE NEIGHBOUR: 'it returns false'. Refute it at one input. -/
def fixnumGrowsWrong : ChangeSpec := { name := "fixnumGrows", fn := fun _ => fun
  | [d1, d2, d3] => { results := [.lit (.bool false)], args := [d1, d2, d3] }
  | _ => none }
def FixnumGrowsWrongFalsely : Prop := fixnumGrowsRow.holds Try.pinned (OpenSpec.ofChange fixnumGrowsWrong)

/-- 'dotterellaw01.FixnumAdds': WHATEVER THE INPUT: true; the input reads as it did. -/
def fixnumAddsSpec : ChangeSpec := { name := "fixnumAdds", fn := fun _ => fun
  | [d1, d2, d3, d4] => { results := [.lit (.bool true)], args := [d1, d2, d3, d4] }
  | _ => none }
def fixnumAddsRow : OpenClaim := { program := "ytmpiemiplopmdaa", sum := "28cda60e7a5a65e94236ab8652c7834fe880c25a05bc5c2e3d4607cf25187d5c", func := "dotterel/dotterellaw01.FixnumAdds", spec := "fixnumAdds", apart := false }
def FixnumAddsSaid : Prop := fixnumAddsRow.holds Try.pinned (OpenSpec.ofChange fixnumAddsSpec)

/-- ITS FALSE NEIGHBOUR: 'it returns false'. Refute it at one input. -/
def fixnumAddsWrong : ChangeSpec := { name := "fixnumAdds", fn := fun _ => fun
  | [d1, d2, d3, d4] => { results := [.lit (.bool false)], args := [d1, d2, d3, d4] }
  | _ => none }
def FixnumAddsWrongFalsely : Prop := fixnumAddsRow.holds Try.pinned (OpenSpec.ofChange fixnumAddsWrong)

/- THE SECOND FORM. 'bulk': how many values and letters a reading holds, each counted each time it is reached (what is shared counts as often as it is met; a slice's spare places count too). A statement '..UptoSaid' is the law's where the arguments, and the package variables that the reading takes, are together of bulk at most 1048576: NARROWER than '..Said'. Prove '..Said' where nothing that the law and all that it calls make is longer than what came in: it says more and counts as full. Else prove '..UptoSaid'. A law counts once. -/
mutual
def uptoBulk {H : Type} : DataW H → Nat
  | .lit (.string bytes) => bytes.length + 1
  | .lit _ => 1
  | .nil => 1
  | .ptr d => uptoBulk d + 1
  | .slice elems spare => uptoBulkAll elems + uptoBulkAll spare + 1
  | .agg parts => uptoBulkAll parts + 1
  | .iface _ d => uptoBulk d + 1
  | .map entries => uptoBulkEntries entries + 1
  | .held _ => 1
def uptoBulkAll {H : Type} : List (DataW H) → Nat
  | [] => 0
  | d :: r => uptoBulk d + uptoBulkAll r
def uptoBulkEntries {H : Type} : List (Lit × DataW H) → Nat
  | [] => 0
  | x :: r => uptoBulkEntry x + uptoBulkEntries r
def uptoBulkEntry {H : Type} : Lit × DataW H → Nat
  | (.string bytes, d) => bytes.length + uptoBulk d + 1
  | (_, d) => uptoBulk d + 1
 end
def uptoSmall : (H : Type) → List (DataW H) → Bool := fun _ ds => decide (uptoBulkAll ds ≤ 1048576)
def OpenSpec.upto (s : _root_.Go.ChangeSpec) : _root_.Go.OpenSpec := { _root_.Go.OpenSpec.ofChange s with cond := some uptoSmall }

/-- 'dotterellaw01.FixnumTells', WHERE WHAT IT READS IS OF BULK AT MOST 1048576: true; the input reads as it did. -/
def fixnumTellsUptoRow : OpenClaim := { program := "ytmpiemiplopmdaa", sum := "28cda60e7a5a65e94236ab8652c7834fe880c25a05bc5c2e3d4607cf25187d5c", func := "dotterel/dotterellaw01.FixnumTells", spec := "fixnumTells", apart := false, narrowed := true }
def FixnumTellsUptoSaid : Prop := fixnumTellsUptoRow.holds Try.pinned (OpenSpec.upto fixnumTellsSpec)

/-- 'dotterellaw01.FixnumRooms', WHERE WHAT IT READS IS OF BULK AT MOST 1048576: true; the input reads as it did. -/
def fixnumRoomsUptoRow : OpenClaim := { program := "ytmpiemiplopmdaa", sum := "28cda60e7a5a65e94236ab8652c7834fe880c25a05bc5c2e3d4607cf25187d5c", func := "dotterel/dotterellaw01.FixnumRooms", spec := "fixnumRooms", apart := false, narrowed := true }
def FixnumRoomsUptoSaid : Prop := fixnumRoomsUptoRow.holds Try.pinned (OpenSpec.upto fixnumRoomsSpec)

/-- 'dotterellaw01.FixnumGrows', WHERE WHAT IT READS IS OF BULK AT MOST 1048576: true; the input reads as it did. -/
def fixnumGrowsUptoRow : OpenClaim := { program := "ytmpiemiplopmdaa", sum := "28cda60e7a5a65e94236ab8652c7834fe880c25a05bc5c2e3d4607cf25187d5c", func := "dotterel/dotterellaw01.FixnumGrows", spec := "fixnumGrows", apart := false, narrowed := true }
def FixnumGrowsUptoSaid : Prop := fixnumGrowsUptoRow.holds Try.pinned (OpenSpec.upto fixnumGrowsSpec)

/-- 'dotterellaw01.FixnumAdds', WHERE WHAT IT READS IS OF BULK AT MOST 1048576: true; the input reads as it did. -/
def fixnumAddsUptoRow : OpenClaim := { program := "ytmpiemiplopmdaa", sum := "28cda60e7a5a65e94236ab8652c7834fe880c25a05bc5c2e3d4607cf25187d5c", func := "dotterel/dotterellaw01.FixnumAdds", spec := "fixnumAdds", apart := false, narrowed := true }
def FixnumAddsUptoSaid : Prop := fixnumAddsUptoRow.holds Try.pinned (OpenSpec.upto fixnumAddsSpec)

end Rows
end Go.Proofs.Ytmpiemiplopmdaa
