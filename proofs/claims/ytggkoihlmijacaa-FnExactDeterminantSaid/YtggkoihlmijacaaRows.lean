/-
  No cell of these rows narrows 'for every input' (looked for: loops, veiled, ifaces, maps, wideKeys, modest, calm, conditions, laid).
  DERIVED. THE GIVEN ROWS OF THIS SEAT. 10 by the template 'for every input the law returns true; each argument reads behind the call as it read before'; 0 by the template 'total and deterministic' (their statements: YtggkoihlmijacaaTotals.lean).
  GIVEN WITH THE SEED: the statements are not yours to turn. If you find one false, say at which input.
  Laid BY PROGRAM, IN A SANDBOX (cutbox-rows.mjs): the forced cells as the released guide's own fill.sh prints them over the translation a239abf5e3b03fba… (all of the seat's roots in one cut). By AI agents, Wed Nov 11 2026. No macro, syntax, notation, axiom, sorry.
-/
import Derived.Test.YtggkoihlmijacaaChecked
import GoSem.Claim
import GoSem.ClaimJoined
import GoSem.ClaimMapViews
import Derived.JoinedTies
import Derived.KernelRfl
namespace Go.Proofs.Ytggkoihlmijacaa
/- THE CELL 'sum', in the pinned program and in every row, IS THE sha256 OF THE DUMP (.gsa) THAT YtggkoihlmijacaaProg.lean LOADS. Nothing in Lean hashes anything: it is a label: what it is worth is what the hold of that sum in a sandbox is worth. -/
noncomputable def Try.pinned : Pinned := { name := "ytggkoihlmijacaa", sum := "a239abf5e3b03fba4458ba1ce519063c3d6c352b312ee9d589080a7621fec83e", checked := Try.checked }
namespace Rows
def none {H : Type} : Left H := { results := [], args := [] }

/-- 'laws.FnExactIsSubspace': WHATEVER THE INPUT: true; the input reads as it did. -/
def fnExactIsSubspaceSpec : ChangeSpec := { name := "fnExactIsSubspace", fn := fun _ => fun
  | [d] => { results := [.lit (.bool true)], args := [d] }
  | _ => none }
def fnExactIsSubspaceRow : OpenClaim := { program := "ytggkoihlmijacaa", sum := "a239abf5e3b03fba4458ba1ce519063c3d6c352b312ee9d589080a7621fec83e", func := "loop.example/g01076/laws.FnExactIsSubspace", spec := "fnExactIsSubspace", inPlace := ["slices.overlaps[loop.example/g01076/impl.rowOf[loop.example/g01076/impl.residue]]"], unfollowed := true, recurses := true, apart := false }
def FnExactIsSubspaceSaid : Prop := fnExactIsSubspaceRow.holds Try.pinned (OpenSpec.ofChange fnExactIsSubspaceSpec)

/-- ITS FALSE NEIGHBOUR: 'it returns false'. Refute it at one input. -/
def fnExactIsSubspaceWrong : ChangeSpec := { name := "fnExactIsSubspace", fn := fun _ => fun
  | [d] => { results := [.lit (.bool false)], args := [d] }
  | _ => none }
def FnExactIsSubspaceWrongFalsely : Prop := fnExactIsSubspaceRow.holds Try.pinned (OpenSpec.ofChange fnExactIsSubspaceWrong)

/-- 'laws.FnExactHasVector': WHATEVER THE INPUT: true; the input reads as it did. -/
def fnExactHasVectorSpec : ChangeSpec := { name := "fnExactHasVector", fn := fun _ => fun
  | [d1, d2] => { results := [.lit (.bool true)], args := [d1, d2] }
  | _ => none }
def fnExactHasVectorRow : OpenClaim := { program := "ytggkoihlmijacaa", sum := "a239abf5e3b03fba4458ba1ce519063c3d6c352b312ee9d589080a7621fec83e", func := "loop.example/g01076/laws.FnExactHasVector", spec := "fnExactHasVector", inPlace := ["slices.overlaps[loop.example/g01076/impl.rowOf[loop.example/g01076/impl.residue]]"], unfollowed := true, recurses := true, apart := false }
def FnExactHasVectorSaid : Prop := fnExactHasVectorRow.holds Try.pinned (OpenSpec.ofChange fnExactHasVectorSpec)

/-- ITS FALSE NEIGHBOUR: 'it returns false'. Refute it at one input. -/
def fnExactHasVectorWrong : ChangeSpec := { name := "fnExactHasVector", fn := fun _ => fun
  | [d1, d2] => { results := [.lit (.bool false)], args := [d1, d2] }
  | _ => none }
def FnExactHasVectorWrongFalsely : Prop := fnExactHasVectorRow.holds Try.pinned (OpenSpec.ofChange fnExactHasVectorWrong)

/-- 'laws.FnExactSubspaceSum': WHATEVER THE INPUT: true; the input reads as it did. -/
def fnExactSubspaceSumSpec : ChangeSpec := { name := "fnExactSubspaceSum", fn := fun _ => fun
  | [d1, d2] => { results := [.lit (.bool true)], args := [d1, d2] }
  | _ => none }
def fnExactSubspaceSumRow : OpenClaim := { program := "ytggkoihlmijacaa", sum := "a239abf5e3b03fba4458ba1ce519063c3d6c352b312ee9d589080a7621fec83e", func := "loop.example/g01076/laws.FnExactSubspaceSum", spec := "fnExactSubspaceSum", inPlace := ["slices.overlaps[loop.example/g01076/impl.rowOf[loop.example/g01076/impl.residue]]"], unfollowed := true, recurses := true, apart := false }
def FnExactSubspaceSumSaid : Prop := fnExactSubspaceSumRow.holds Try.pinned (OpenSpec.ofChange fnExactSubspaceSumSpec)

/-- ITS FALSE NEIGHBOUR: 'it returns false'. Refute it at one input. -/
def fnExactSubspaceSumWrong : ChangeSpec := { name := "fnExactSubspaceSum", fn := fun _ => fun
  | [d1, d2] => { results := [.lit (.bool false)], args := [d1, d2] }
  | _ => none }
def FnExactSubspaceSumWrongFalsely : Prop := fnExactSubspaceSumRow.holds Try.pinned (OpenSpec.ofChange fnExactSubspaceSumWrong)

/-- 'laws.FnExactSubspaceIntersection': WHATEVER THE INPUT: true; the input reads as it did. -/
def fnExactSubspaceIntersectionSpec : ChangeSpec := { name := "fnExactSubspaceIntersection", fn := fun _ => fun
  | [d1, d2] => { results := [.lit (.bool true)], args := [d1, d2] }
  | _ => none }
def fnExactSubspaceIntersectionRow : OpenClaim := { program := "ytggkoihlmijacaa", sum := "a239abf5e3b03fba4458ba1ce519063c3d6c352b312ee9d589080a7621fec83e", func := "loop.example/g01076/laws.FnExactSubspaceIntersection", spec := "fnExactSubspaceIntersection", inPlace := ["slices.overlaps[loop.example/g01076/impl.rowOf[loop.example/g01076/impl.residue]]"], unfollowed := true, recurses := true, apart := false }
def FnExactSubspaceIntersectionSaid : Prop := fnExactSubspaceIntersectionRow.holds Try.pinned (OpenSpec.ofChange fnExactSubspaceIntersectionSpec)

/-- ITS FALSE NEIGHBOUR: 'it returns false'. Refute it at one input. -/
def fnExactSubspaceIntersectionWrong : ChangeSpec := { name := "fnExactSubspaceIntersection", fn := fun _ => fun
  | [d1, d2] => { results := [.lit (.bool false)], args := [d1, d2] }
  | _ => none }
def FnExactSubspaceIntersectionWrongFalsely : Prop := fnExactSubspaceIntersectionRow.holds Try.pinned (OpenSpec.ofChange fnExactSubspaceIntersectionWrong)

/-- 'laws.FnExactAnnihilator': WHATEVER THE INPUT: true; the input reads as it did. -/
def fnExactAnnihilatorSpec : ChangeSpec := { name := "fnExactAnnihilator", fn := fun _ => fun
  | [d] => { results := [.lit (.bool true)], args := [d] }
  | _ => none }
def fnExactAnnihilatorRow : OpenClaim := { program := "ytggkoihlmijacaa", sum := "a239abf5e3b03fba4458ba1ce519063c3d6c352b312ee9d589080a7621fec83e", func := "loop.example/g01076/laws.FnExactAnnihilator", spec := "fnExactAnnihilator", inPlace := ["slices.overlaps[loop.example/g01076/impl.rowOf[loop.example/g01076/impl.residue]]"], unfollowed := true, recurses := true, apart := false }
def FnExactAnnihilatorSaid : Prop := fnExactAnnihilatorRow.holds Try.pinned (OpenSpec.ofChange fnExactAnnihilatorSpec)

/-- ITS FALSE NEIGHBOUR: 'it returns false'. Refute it at one input. -/
def fnExactAnnihilatorWrong : ChangeSpec := { name := "fnExactAnnihilator", fn := fun _ => fun
  | [d] => { results := [.lit (.bool false)], args := [d] }
  | _ => none }
def FnExactAnnihilatorWrongFalsely : Prop := fnExactAnnihilatorRow.holds Try.pinned (OpenSpec.ofChange fnExactAnnihilatorWrong)

/-- 'laws.FnExactStandardComplement': WHATEVER THE INPUT: true; the input reads as it did. -/
def fnExactStandardComplementSpec : ChangeSpec := { name := "fnExactStandardComplement", fn := fun _ => fun
  | [d] => { results := [.lit (.bool true)], args := [d] }
  | _ => none }
def fnExactStandardComplementRow : OpenClaim := { program := "ytggkoihlmijacaa", sum := "a239abf5e3b03fba4458ba1ce519063c3d6c352b312ee9d589080a7621fec83e", func := "loop.example/g01076/laws.FnExactStandardComplement", spec := "fnExactStandardComplement", inPlace := ["slices.overlaps[loop.example/g01076/impl.rowOf[loop.example/g01076/impl.residue]]"], unfollowed := true, recurses := true, apart := false }
def FnExactStandardComplementSaid : Prop := fnExactStandardComplementRow.holds Try.pinned (OpenSpec.ofChange fnExactStandardComplementSpec)

/-- ITS FALSE NEIGHBOUR: 'it returns false'. Refute it at one input. -/
def fnExactStandardComplementWrong : ChangeSpec := { name := "fnExactStandardComplement", fn := fun _ => fun
  | [d] => { results := [.lit (.bool false)], args := [d] }
  | _ => none }
def FnExactStandardComplementWrongFalsely : Prop := fnExactStandardComplementRow.holds Try.pinned (OpenSpec.ofChange fnExactStandardComplementWrong)

/-- 'laws.FnExactImageSubspace': WHATEVER THE INPUT: true; the input reads as it did. -/
def fnExactImageSubspaceSpec : ChangeSpec := { name := "fnExactImageSubspace", fn := fun _ => fun
  | [d1, d2] => { results := [.lit (.bool true)], args := [d1, d2] }
  | _ => none }
def fnExactImageSubspaceRow : OpenClaim := { program := "ytggkoihlmijacaa", sum := "a239abf5e3b03fba4458ba1ce519063c3d6c352b312ee9d589080a7621fec83e", func := "loop.example/g01076/laws.FnExactImageSubspace", spec := "fnExactImageSubspace", inPlace := ["slices.overlaps[loop.example/g01076/impl.rowOf[loop.example/g01076/impl.residue]]"], unfollowed := true, recurses := true, apart := false }
def FnExactImageSubspaceSaid : Prop := fnExactImageSubspaceRow.holds Try.pinned (OpenSpec.ofChange fnExactImageSubspaceSpec)

/-- ITS FALSE NEIGHBOUR: 'it returns false'. Refute it at one input. -/
def fnExactImageSubspaceWrong : ChangeSpec := { name := "fnExactImageSubspace", fn := fun _ => fun
  | [d1, d2] => { results := [.lit (.bool false)], args := [d1, d2] }
  | _ => none }
def FnExactImageSubspaceWrongFalsely : Prop := fnExactImageSubspaceRow.holds Try.pinned (OpenSpec.ofChange fnExactImageSubspaceWrong)

/-- 'laws.FnExactPreimageSubspace': WHATEVER THE INPUT: true; the input reads as it did. -/
def fnExactPreimageSubspaceSpec : ChangeSpec := { name := "fnExactPreimageSubspace", fn := fun _ => fun
  | [d1, d2] => { results := [.lit (.bool true)], args := [d1, d2] }
  | _ => none }
def fnExactPreimageSubspaceRow : OpenClaim := { program := "ytggkoihlmijacaa", sum := "a239abf5e3b03fba4458ba1ce519063c3d6c352b312ee9d589080a7621fec83e", func := "loop.example/g01076/laws.FnExactPreimageSubspace", spec := "fnExactPreimageSubspace", inPlace := ["slices.overlaps[loop.example/g01076/impl.rowOf[loop.example/g01076/impl.residue]]"], unfollowed := true, recurses := true, apart := false }
def FnExactPreimageSubspaceSaid : Prop := fnExactPreimageSubspaceRow.holds Try.pinned (OpenSpec.ofChange fnExactPreimageSubspaceSpec)

/-- ITS FALSE NEIGHBOUR: 'it returns false'. Refute it at one input. -/
def fnExactPreimageSubspaceWrong : ChangeSpec := { name := "fnExactPreimageSubspace", fn := fun _ => fun
  | [d1, d2] => { results := [.lit (.bool false)], args := [d1, d2] }
  | _ => none }
def FnExactPreimageSubspaceWrongFalsely : Prop := fnExactPreimageSubspaceRow.holds Try.pinned (OpenSpec.ofChange fnExactPreimageSubspaceWrong)

/-- 'laws.FnExactSolveRows': WHATEVER THE INPUT: true; the input reads as it did. -/
def fnExactSolveRowsSpec : ChangeSpec := { name := "fnExactSolveRows", fn := fun _ => fun
  | [d1, d2] => { results := [.lit (.bool true)], args := [d1, d2] }
  | _ => none }
def fnExactSolveRowsRow : OpenClaim := { program := "ytggkoihlmijacaa", sum := "a239abf5e3b03fba4458ba1ce519063c3d6c352b312ee9d589080a7621fec83e", func := "loop.example/g01076/laws.FnExactSolveRows", spec := "fnExactSolveRows", inPlace := ["slices.overlaps[loop.example/g01076/impl.rowOf[loop.example/g01076/impl.residue]]"], unfollowed := true, recurses := true, apart := false }
def FnExactSolveRowsSaid : Prop := fnExactSolveRowsRow.holds Try.pinned (OpenSpec.ofChange fnExactSolveRowsSpec)

/-- ITS FALSE NEIGHBOUR: 'it returns false'. Refute it at one input. -/
def fnExactSolveRowsWrong : ChangeSpec := { name := "fnExactSolveRows", fn := fun _ => fun
  | [d1, d2] => { results := [.lit (.bool false)], args := [d1, d2] }
  | _ => none }
def FnExactSolveRowsWrongFalsely : Prop := fnExactSolveRowsRow.holds Try.pinned (OpenSpec.ofChange fnExactSolveRowsWrong)

/-- 'laws.FnExactDeterminant': WHATEVER THE INPUT: true; the input reads as it did. -/
def fnExactDeterminantSpec : ChangeSpec := { name := "fnExactDeterminant", fn := fun _ => fun
  | [d] => { results := [.lit (.bool true)], args := [d] }
  | _ => none }
def fnExactDeterminantRow : OpenClaim := { program := "ytggkoihlmijacaa", sum := "a239abf5e3b03fba4458ba1ce519063c3d6c352b312ee9d589080a7621fec83e", func := "loop.example/g01076/laws.FnExactDeterminant", spec := "fnExactDeterminant", inPlace := ["slices.overlaps[loop.example/g01076/impl.rowOf[loop.example/g01076/impl.residue]]"], unfollowed := true, recurses := true, apart := false }
def FnExactDeterminantSaid : Prop := fnExactDeterminantRow.holds Try.pinned (OpenSpec.ofChange fnExactDeterminantSpec)

/-- ITS FALSE NEIGHBOUR: 'it returns false'. Refute it at one input. -/
def fnExactDeterminantWrong : ChangeSpec := { name := "fnExactDeterminant", fn := fun _ => fun
  | [d] => { results := [.lit (.bool false)], args := [d] }
  | _ => none }
def FnExactDeterminantWrongFalsely : Prop := fnExactDeterminantRow.holds Try.pinned (OpenSpec.ofChange fnExactDeterminantWrong)

/- THE SECOND FORM. 'bulk': how many values and letters a reading holds, each counted each time it is reached (what is shared counts as often as it is met; a slice's spare places count too). A statement '..UptoSaid' is the law's where the arguments, and the package variables that the reading takes, are together of bulk at most 1048576: NARROWER than '..Said'. Prove '..Said' where nothing that the law and all that it calls make is longer than what came in: it says more and counts as full. Else prove '..UptoSaid'. A law counts once. -/
mutual
def uptoBulk {H : Type} : DataW H → Nat
  | .lit (.string bytes) => bytes.length + 1
  | .lit _ => 1
  | .nil => 1
  | .ptr d => uptoBulk d + 1
  | .slice elems spare => uptoBulkAll elems + uptoBulkAll spare + 1
  | .agg parts => uptoBulkAll parts + 1
  | .iface _ d => uptoBulk d + 1
  | .map entries => uptoBulkEntries entries + 1
  | .held _ => 1
def uptoBulkAll {H : Type} : List (DataW H) → Nat
  | [] => 0
  | d :: r => uptoBulk d + uptoBulkAll r
def uptoBulkEntries {H : Type} : List (Lit × DataW H) → Nat
  | [] => 0
  | x :: r => uptoBulkEntry x + uptoBulkEntries r
def uptoBulkEntry {H : Type} : Lit × DataW H → Nat
  | (.string bytes, d) => bytes.length + uptoBulk d + 1
  | (_, d) => uptoBulk d + 1
 end
def uptoSmall : (H : Type) → List (DataW H) → Bool := fun _ ds => decide (uptoBulkAll ds ≤ 1048576)
def OpenSpec.upto (s : _root_.Go.ChangeSpec) : _root_.Go.OpenSpec := { _root_.Go.OpenSpec.ofChange s with cond := some uptoSmall }

/-- 'laws.FnExactIsSubspace', WHERE WHAT IT READS IS OF BULK AT MOST 1048576: true; the input reads as it did. -/
def fnExactIsSubspaceUptoRow : OpenClaim := { program := "ytggkoihlmijacaa", sum := "a239abf5e3b03fba4458ba1ce519063c3d6c352b312ee9d589080a7621fec83e", func := "loop.example/g01076/laws.FnExactIsSubspace", spec := "fnExactIsSubspace", inPlace := ["slices.overlaps[loop.example/g01076/impl.rowOf[loop.example/g01076/impl.residue]]"], unfollowed := true, recurses := true, apart := false, narrowed := true }
def FnExactIsSubspaceUptoSaid : Prop := fnExactIsSubspaceUptoRow.holds Try.pinned (OpenSpec.upto fnExactIsSubspaceSpec)

/-- 'laws.FnExactHasVector', WHERE WHAT IT READS IS OF BULK AT MOST 1048576: true; the input reads as it did. -/
def fnExactHasVectorUptoRow : OpenClaim := { program := "ytggkoihlmijacaa", sum := "a239abf5e3b03fba4458ba1ce519063c3d6c352b312ee9d589080a7621fec83e", func := "loop.example/g01076/laws.FnExactHasVector", spec := "fnExactHasVector", inPlace := ["slices.overlaps[loop.example/g01076/impl.rowOf[loop.example/g01076/impl.residue]]"], unfollowed := true, recurses := true, apart := false, narrowed := true }
def FnExactHasVectorUptoSaid : Prop := fnExactHasVectorUptoRow.holds Try.pinned (OpenSpec.upto fnExactHasVectorSpec)

/-- 'laws.FnExactSubspaceSum', WHERE WHAT IT READS IS OF BULK AT MOST 1048576: true; the input reads as it did. -/
def fnExactSubspaceSumUptoRow : OpenClaim := { program := "ytggkoihlmijacaa", sum := "a239abf5e3b03fba4458ba1ce519063c3d6c352b312ee9d589080a7621fec83e", func := "loop.example/g01076/laws.FnExactSubspaceSum", spec := "fnExactSubspaceSum", inPlace := ["slices.overlaps[loop.example/g01076/impl.rowOf[loop.example/g01076/impl.residue]]"], unfollowed := true, recurses := true, apart := false, narrowed := true }
def FnExactSubspaceSumUptoSaid : Prop := fnExactSubspaceSumUptoRow.holds Try.pinned (OpenSpec.upto fnExactSubspaceSumSpec)

/-- 'laws.FnExactSubspaceIntersection', WHERE WHAT IT READS IS OF BULK AT MOST 1048576: true; the input reads as it did. -/
def fnExactSubspaceIntersectionUptoRow : OpenClaim := { program := "ytggkoihlmijacaa", sum := "a239abf5e3b03fba4458ba1ce519063c3d6c352b312ee9d589080a7621fec83e", func := "loop.example/g01076/laws.FnExactSubspaceIntersection", spec := "fnExactSubspaceIntersection", inPlace := ["slices.overlaps[loop.example/g01076/impl.rowOf[loop.example/g01076/impl.residue]]"], unfollowed := true, recurses := true, apart := false, narrowed := true }
def FnExactSubspaceIntersectionUptoSaid : Prop := fnExactSubspaceIntersectionUptoRow.holds Try.pinned (OpenSpec.upto fnExactSubspaceIntersectionSpec)

/-- 'laws.FnExactAnnihilator', WHERE WHAT IT READS IS OF BULK AT MOST 1048576: true; the input reads as it did. -/
def fnExactAnnihilatorUptoRow : OpenClaim := { program := "ytggkoihlmijacaa", sum := "a239abf5e3b03fba4458ba1ce519063c3d6c352b312ee9d589080a7621fec83e", func := "loop.example/g01076/laws.FnExactAnnihilator", spec := "fnExactAnnihilator", inPlace := ["slices.overlaps[loop.example/g01076/impl.rowOf[loop.example/g01076/impl.residue]]"], unfollowed := true, recurses := true, apart := false, narrowed := true }
def FnExactAnnihilatorUptoSaid : Prop := fnExactAnnihilatorUptoRow.holds Try.pinned (OpenSpec.upto fnExactAnnihilatorSpec)

/-- 'laws.FnExactStandardComplement', WHERE WHAT IT READS IS OF BULK AT MOST 1048576: true; the input reads as it did. -/
def fnExactStandardComplementUptoRow : OpenClaim := { program := "ytggkoihlmijacaa", sum := "a239abf5e3b03fba4458ba1ce519063c3d6c352b312ee9d589080a7621fec83e", func := "loop.example/g01076/laws.FnExactStandardComplement", spec := "fnExactStandardComplement", inPlace := ["slices.overlaps[loop.example/g01076/impl.rowOf[loop.example/g01076/impl.residue]]"], unfollowed := true, recurses := true, apart := false, narrowed := true }
def FnExactStandardComplementUptoSaid : Prop := fnExactStandardComplementUptoRow.holds Try.pinned (OpenSpec.upto fnExactStandardComplementSpec)

/-- 'laws.FnExactImageSubspace', WHERE WHAT IT READS IS OF BULK AT MOST 1048576: true; the input reads as it did. -/
def fnExactImageSubspaceUptoRow : OpenClaim := { program := "ytggkoihlmijacaa", sum := "a239abf5e3b03fba4458ba1ce519063c3d6c352b312ee9d589080a7621fec83e", func := "loop.example/g01076/laws.FnExactImageSubspace", spec := "fnExactImageSubspace", inPlace := ["slices.overlaps[loop.example/g01076/impl.rowOf[loop.example/g01076/impl.residue]]"], unfollowed := true, recurses := true, apart := false, narrowed := true }
def FnExactImageSubspaceUptoSaid : Prop := fnExactImageSubspaceUptoRow.holds Try.pinned (OpenSpec.upto fnExactImageSubspaceSpec)

/-- 'laws.FnExactPreimageSubspace', WHERE WHAT IT READS IS OF BULK AT MOST 1048576: true; the input reads as it did. -/
def fnExactPreimageSubspaceUptoRow : OpenClaim := { program := "ytggkoihlmijacaa", sum := "a239abf5e3b03fba4458ba1ce519063c3d6c352b312ee9d589080a7621fec83e", func := "loop.example/g01076/laws.FnExactPreimageSubspace", spec := "fnExactPreimageSubspace", inPlace := ["slices.overlaps[loop.example/g01076/impl.rowOf[loop.example/g01076/impl.residue]]"], unfollowed := true, recurses := true, apart := false, narrowed := true }
def FnExactPreimageSubspaceUptoSaid : Prop := fnExactPreimageSubspaceUptoRow.holds Try.pinned (OpenSpec.upto fnExactPreimageSubspaceSpec)

/-- 'laws.FnExactSolveRows', WHERE WHAT IT READS IS OF BULK AT MOST 1048576: true; the input reads as it did. -/
def fnExactSolveRowsUptoRow : OpenClaim := { program := "ytggkoihlmijacaa", sum := "a239abf5e3b03fba4458ba1ce519063c3d6c352b312ee9d589080a7621fec83e", func := "loop.example/g01076/laws.FnExactSolveRows", spec := "fnExactSolveRows", inPlace := ["slices.overlaps[loop.example/g01076/impl.rowOf[loop.example/g01076/impl.residue]]"], unfollowed := true, recurses := true, apart := false, narrowed := true }
def FnExactSolveRowsUptoSaid : Prop := fnExactSolveRowsUptoRow.holds Try.pinned (OpenSpec.upto fnExactSolveRowsSpec)

/-- 'laws.FnExactDeterminant', WHERE WHAT IT READS IS OF BULK AT MOST 1048576: true; the input reads as it did. -/
def fnExactDeterminantUptoRow : OpenClaim := { program := "ytggkoihlmijacaa", sum := "a239abf5e3b03fba4458ba1ce519063c3d6c352b312ee9d589080a7621fec83e", func := "loop.example/g01076/laws.FnExactDeterminant", spec := "fnExactDeterminant", inPlace := ["slices.overlaps[loop.example/g01076/impl.rowOf[loop.example/g01076/impl.residue]]"], unfollowed := true, recurses := true, apart := false, narrowed := true }
def FnExactDeterminantUptoSaid : Prop := fnExactDeterminantUptoRow.holds Try.pinned (OpenSpec.upto fnExactDeterminantSpec)

end Rows
end Go.Proofs.Ytggkoihlmijacaa
