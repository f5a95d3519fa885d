/-
  No cell of these rows narrows 'for every input' (looked for: loops, veiled, ifaces, maps, wideKeys, modest, calm, conditions, laid).
  DERIVED. THE GIVEN ROWS OF THIS SEAT. 11 by the template 'for every input the law returns true; each argument reads behind the call as it read before'; 0 by the template 'total and deterministic' (their statements: YtbmjkkcjiofkpaaTotals.lean).
  GIVEN WITH THE SEED: the statements are not yours to turn. If you find one false, say at which input.
  Laid BY PROGRAM, IN A SANDBOX (cutbox-rows.mjs): the forced cells as the released guide's own fill.sh prints them over the translation d8e0a8db2dfa9d6e… (all of the seat's roots in one cut). By AI agents, Wed Nov 11 2026. No macro, syntax, notation, axiom, sorry.
-/
import Derived.Test.YtbmjkkcjiofkpaaChecked
import GoSem.Claim
import GoSem.ClaimJoined
import GoSem.ClaimMapViews
import Derived.JoinedTies
import Derived.KernelRfl
namespace Go.Proofs.Ytbmjkkcjiofkpaa
/- THE CELL 'sum', in the pinned program and in every row, IS THE sha256 OF THE DUMP (.gsa) THAT YtbmjkkcjiofkpaaProg.lean LOADS. Nothing in Lean hashes anything: it is a label: what it is worth is what the hold of that sum in a sandbox is worth. -/
noncomputable def Try.pinned : Pinned := { name := "ytbmjkkcjiofkpaa", sum := "d8e0a8db2dfa9d6e20e2442473e20307ce704079bec4e21d4ee515dd283775b7", checked := Try.checked }
namespace Rows
def none {H : Type} : Left H := { results := [], args := [] }

/-- 'laws.FnDeterminants': WHATEVER THE INPUT: true; the input reads as it did. -/
def fnDeterminantsSpec : ChangeSpec := { name := "fnDeterminants", fn := fun _ => fun
  | [d] => { results := [.lit (.bool true)], args := [d] }
  | _ => none }
def fnDeterminantsRow : OpenClaim := { program := "ytbmjkkcjiofkpaa", sum := "d8e0a8db2dfa9d6e20e2442473e20307ce704079bec4e21d4ee515dd283775b7", func := "loop.example/g01076/laws.FnDeterminants", spec := "fnDeterminants", inPlace := ["slices.overlaps[loop.example/g01076/impl.rowOf[loop.example/g01076/impl.residue]]"], unfollowed := true, recurses := true, apart := false }
def FnDeterminantsSaid : Prop := fnDeterminantsRow.holds Try.pinned (OpenSpec.ofChange fnDeterminantsSpec)

/-- ITS FALSE NEIGHBOUR: 'it returns false'. Refute it at one input. -/
def fnDeterminantsWrong : ChangeSpec := { name := "fnDeterminants", fn := fun _ => fun
  | [d] => { results := [.lit (.bool false)], args := [d] }
  | _ => none }
def FnDeterminantsWrongFalsely : Prop := fnDeterminantsRow.holds Try.pinned (OpenSpec.ofChange fnDeterminantsWrong)

/-- 'laws.FnTransposes': WHATEVER THE INPUT: true; the input reads as it did. -/
def fnTransposesSpec : ChangeSpec := { name := "fnTransposes", fn := fun _ => fun
  | [d] => { results := [.lit (.bool true)], args := [d] }
  | _ => none }
def fnTransposesRow : OpenClaim := { program := "ytbmjkkcjiofkpaa", sum := "d8e0a8db2dfa9d6e20e2442473e20307ce704079bec4e21d4ee515dd283775b7", func := "loop.example/g01076/laws.FnTransposes", spec := "fnTransposes", inPlace := ["slices.overlaps[loop.example/g01076/impl.rowOf[loop.example/g01076/impl.residue]]"], unfollowed := true, recurses := true, apart := false }
def FnTransposesSaid : Prop := fnTransposesRow.holds Try.pinned (OpenSpec.ofChange fnTransposesSpec)

/-- ITS FALSE NEIGHBOUR: 'it returns false'. Refute it at one input. -/
def fnTransposesWrong : ChangeSpec := { name := "fnTransposes", fn := fun _ => fun
  | [d] => { results := [.lit (.bool false)], args := [d] }
  | _ => none }
def FnTransposesWrongFalsely : Prop := fnTransposesRow.holds Try.pinned (OpenSpec.ofChange fnTransposesWrong)

/-- 'laws.FnExactIsMatrix': WHATEVER THE INPUT: true; the input reads as it did. -/
def fnExactIsMatrixSpec : ChangeSpec := { name := "fnExactIsMatrix", fn := fun _ => fun
  | [d] => { results := [.lit (.bool true)], args := [d] }
  | _ => none }
def fnExactIsMatrixRow : OpenClaim := { program := "ytbmjkkcjiofkpaa", sum := "d8e0a8db2dfa9d6e20e2442473e20307ce704079bec4e21d4ee515dd283775b7", func := "loop.example/g01076/laws.FnExactIsMatrix", spec := "fnExactIsMatrix", apart := false }
def FnExactIsMatrixSaid : Prop := fnExactIsMatrixRow.holds Try.pinned (OpenSpec.ofChange fnExactIsMatrixSpec)

/-- ITS FALSE NEIGHBOUR: 'it returns false'. Refute it at one input. -/
def fnExactIsMatrixWrong : ChangeSpec := { name := "fnExactIsMatrix", fn := fun _ => fun
  | [d] => { results := [.lit (.bool false)], args := [d] }
  | _ => none }
def FnExactIsMatrixWrongFalsely : Prop := fnExactIsMatrixRow.holds Try.pinned (OpenSpec.ofChange fnExactIsMatrixWrong)

/-- 'laws.FnExactIdentityMatrix': WHATEVER THE INPUT: true; the input reads as it did. -/
def fnExactIdentityMatrixSpec : ChangeSpec := { name := "fnExactIdentityMatrix", fn := fun _ => fun
  | [d1, d2] => { results := [.lit (.bool true)], args := [d1, d2] }
  | _ => none }
def fnExactIdentityMatrixRow : OpenClaim := { program := "ytbmjkkcjiofkpaa", sum := "d8e0a8db2dfa9d6e20e2442473e20307ce704079bec4e21d4ee515dd283775b7", func := "loop.example/g01076/laws.FnExactIdentityMatrix", spec := "fnExactIdentityMatrix", apart := false }
def FnExactIdentityMatrixSaid : Prop := fnExactIdentityMatrixRow.holds Try.pinned (OpenSpec.ofChange fnExactIdentityMatrixSpec)

/-- ITS FALSE NEIGHBOUR: 'it returns false'. Refute it at one input. -/
def fnExactIdentityMatrixWrong : ChangeSpec := { name := "fnExactIdentityMatrix", fn := fun _ => fun
  | [d1, d2] => { results := [.lit (.bool false)], args := [d1, d2] }
  | _ => none }
def FnExactIdentityMatrixWrongFalsely : Prop := fnExactIdentityMatrixRow.holds Try.pinned (OpenSpec.ofChange fnExactIdentityMatrixWrong)

/-- 'laws.FnExactMatrixProduct': WHATEVER THE INPUT: true; the input reads as it did. -/
def fnExactMatrixProductSpec : ChangeSpec := { name := "fnExactMatrixProduct", fn := fun _ => fun
  | [d1, d2] => { results := [.lit (.bool true)], args := [d1, d2] }
  | _ => none }
def fnExactMatrixProductRow : OpenClaim := { program := "ytbmjkkcjiofkpaa", sum := "d8e0a8db2dfa9d6e20e2442473e20307ce704079bec4e21d4ee515dd283775b7", func := "loop.example/g01076/laws.FnExactMatrixProduct", spec := "fnExactMatrixProduct", unfollowed := true, recurses := true, apart := false }
def FnExactMatrixProductSaid : Prop := fnExactMatrixProductRow.holds Try.pinned (OpenSpec.ofChange fnExactMatrixProductSpec)

/-- ITS FALSE NEIGHBOUR: 'it returns false'. Refute it at one input. -/
def fnExactMatrixProductWrong : ChangeSpec := { name := "fnExactMatrixProduct", fn := fun _ => fun
  | [d1, d2] => { results := [.lit (.bool false)], args := [d1, d2] }
  | _ => none }
def FnExactMatrixProductWrongFalsely : Prop := fnExactMatrixProductRow.holds Try.pinned (OpenSpec.ofChange fnExactMatrixProductWrong)

/-- 'laws.FnExactTransposeMatrix': WHATEVER THE INPUT: true; the input reads as it did. -/
def fnExactTransposeMatrixSpec : ChangeSpec := { name := "fnExactTransposeMatrix", fn := fun _ => fun
  | [d] => { results := [.lit (.bool true)], args := [d] }
  | _ => none }
def fnExactTransposeMatrixRow : OpenClaim := { program := "ytbmjkkcjiofkpaa", sum := "d8e0a8db2dfa9d6e20e2442473e20307ce704079bec4e21d4ee515dd283775b7", func := "loop.example/g01076/laws.FnExactTransposeMatrix", spec := "fnExactTransposeMatrix", apart := false }
def FnExactTransposeMatrixSaid : Prop := fnExactTransposeMatrixRow.holds Try.pinned (OpenSpec.ofChange fnExactTransposeMatrixSpec)

/-- ITS FALSE NEIGHBOUR: 'it returns false'. Refute it at one input. -/
def fnExactTransposeMatrixWrong : ChangeSpec := { name := "fnExactTransposeMatrix", fn := fun _ => fun
  | [d] => { results := [.lit (.bool false)], args := [d] }
  | _ => none }
def FnExactTransposeMatrixWrongFalsely : Prop := fnExactTransposeMatrixRow.holds Try.pinned (OpenSpec.ofChange fnExactTransposeMatrixWrong)

/-- 'laws.FnExactReduceRows': WHATEVER THE INPUT: true; the input reads as it did. -/
def fnExactReduceRowsSpec : ChangeSpec := { name := "fnExactReduceRows", fn := fun _ => fun
  | [d] => { results := [.lit (.bool true)], args := [d] }
  | _ => none }
def fnExactReduceRowsRow : OpenClaim := { program := "ytbmjkkcjiofkpaa", sum := "d8e0a8db2dfa9d6e20e2442473e20307ce704079bec4e21d4ee515dd283775b7", func := "loop.example/g01076/laws.FnExactReduceRows", spec := "fnExactReduceRows", inPlace := ["slices.overlaps[loop.example/g01076/impl.rowOf[loop.example/g01076/impl.residue]]"], unfollowed := true, recurses := true, apart := false }
def FnExactReduceRowsSaid : Prop := fnExactReduceRowsRow.holds Try.pinned (OpenSpec.ofChange fnExactReduceRowsSpec)

/-- ITS FALSE NEIGHBOUR: 'it returns false'. Refute it at one input. -/
def fnExactReduceRowsWrong : ChangeSpec := { name := "fnExactReduceRows", fn := fun _ => fun
  | [d] => { results := [.lit (.bool false)], args := [d] }
  | _ => none }
def FnExactReduceRowsWrongFalsely : Prop := fnExactReduceRowsRow.holds Try.pinned (OpenSpec.ofChange fnExactReduceRowsWrong)

/-- 'laws.FnExactDeterminant': WHATEVER THE INPUT: true; the input reads as it did. -/
def fnExactDeterminantSpec : ChangeSpec := { name := "fnExactDeterminant", fn := fun _ => fun
  | [d] => { results := [.lit (.bool true)], args := [d] }
  | _ => none }
def fnExactDeterminantRow : OpenClaim := { program := "ytbmjkkcjiofkpaa", sum := "d8e0a8db2dfa9d6e20e2442473e20307ce704079bec4e21d4ee515dd283775b7", func := "loop.example/g01076/laws.FnExactDeterminant", spec := "fnExactDeterminant", inPlace := ["slices.overlaps[loop.example/g01076/impl.rowOf[loop.example/g01076/impl.residue]]"], unfollowed := true, recurses := true, apart := false }
def FnExactDeterminantSaid : Prop := fnExactDeterminantRow.holds Try.pinned (OpenSpec.ofChange fnExactDeterminantSpec)

/-- ITS FALSE NEIGHBOUR: 'it returns false'. Refute it at one input. -/
def fnExactDeterminantWrong : ChangeSpec := { name := "fnExactDeterminant", fn := fun _ => fun
  | [d] => { results := [.lit (.bool false)], args := [d] }
  | _ => none }
def FnExactDeterminantWrongFalsely : Prop := fnExactDeterminantRow.holds Try.pinned (OpenSpec.ofChange fnExactDeterminantWrong)

/-- 'laws.FnExactInverseMatrix': WHATEVER THE INPUT: true; the input reads as it did. -/
def fnExactInverseMatrixSpec : ChangeSpec := { name := "fnExactInverseMatrix", fn := fun _ => fun
  | [d] => { results := [.lit (.bool true)], args := [d] }
  | _ => none }
def fnExactInverseMatrixRow : OpenClaim := { program := "ytbmjkkcjiofkpaa", sum := "d8e0a8db2dfa9d6e20e2442473e20307ce704079bec4e21d4ee515dd283775b7", func := "loop.example/g01076/laws.FnExactInverseMatrix", spec := "fnExactInverseMatrix", inPlace := ["slices.overlaps[loop.example/g01076/impl.rowOf[loop.example/g01076/impl.residue]]"], unfollowed := true, recurses := true, apart := false }
def FnExactInverseMatrixSaid : Prop := fnExactInverseMatrixRow.holds Try.pinned (OpenSpec.ofChange fnExactInverseMatrixSpec)

/-- ITS FALSE NEIGHBOUR: 'it returns false'. Refute it at one input. -/
def fnExactInverseMatrixWrong : ChangeSpec := { name := "fnExactInverseMatrix", fn := fun _ => fun
  | [d] => { results := [.lit (.bool false)], args := [d] }
  | _ => none }
def FnExactInverseMatrixWrongFalsely : Prop := fnExactInverseMatrixRow.holds Try.pinned (OpenSpec.ofChange fnExactInverseMatrixWrong)

/-- 'laws.FnExactLeftKernel': WHATEVER THE INPUT: true; the input reads as it did. -/
def fnExactLeftKernelSpec : ChangeSpec := { name := "fnExactLeftKernel", fn := fun _ => fun
  | [d] => { results := [.lit (.bool true)], args := [d] }
  | _ => none }
def fnExactLeftKernelRow : OpenClaim := { program := "ytbmjkkcjiofkpaa", sum := "d8e0a8db2dfa9d6e20e2442473e20307ce704079bec4e21d4ee515dd283775b7", func := "loop.example/g01076/laws.FnExactLeftKernel", spec := "fnExactLeftKernel", inPlace := ["slices.overlaps[loop.example/g01076/impl.rowOf[loop.example/g01076/impl.residue]]"], unfollowed := true, recurses := true, apart := false }
def FnExactLeftKernelSaid : Prop := fnExactLeftKernelRow.holds Try.pinned (OpenSpec.ofChange fnExactLeftKernelSpec)

/-- ITS FALSE NEIGHBOUR: 'it returns false'. Refute it at one input. -/
def fnExactLeftKernelWrong : ChangeSpec := { name := "fnExactLeftKernel", fn := fun _ => fun
  | [d] => { results := [.lit (.bool false)], args := [d] }
  | _ => none }
def FnExactLeftKernelWrongFalsely : Prop := fnExactLeftKernelRow.holds Try.pinned (OpenSpec.ofChange fnExactLeftKernelWrong)

/-- 'laws.FnExactSolveRows': WHATEVER THE INPUT: true; the input reads as it did. -/
def fnExactSolveRowsSpec : ChangeSpec := { name := "fnExactSolveRows", fn := fun _ => fun
  | [d1, d2] => { results := [.lit (.bool true)], args := [d1, d2] }
  | _ => none }
def fnExactSolveRowsRow : OpenClaim := { program := "ytbmjkkcjiofkpaa", sum := "d8e0a8db2dfa9d6e20e2442473e20307ce704079bec4e21d4ee515dd283775b7", func := "loop.example/g01076/laws.FnExactSolveRows", spec := "fnExactSolveRows", inPlace := ["slices.overlaps[loop.example/g01076/impl.rowOf[loop.example/g01076/impl.residue]]"], unfollowed := true, recurses := true, apart := false }
def FnExactSolveRowsSaid : Prop := fnExactSolveRowsRow.holds Try.pinned (OpenSpec.ofChange fnExactSolveRowsSpec)

/-- ITS FALSE NEIGHBOUR: 'it returns false'. Refute it at one input. -/
def fnExactSolveRowsWrong : ChangeSpec := { name := "fnExactSolveRows", fn := fun _ => fun
  | [d1, d2] => { results := [.lit (.bool false)], args := [d1, d2] }
  | _ => none }
def FnExactSolveRowsWrongFalsely : Prop := fnExactSolveRowsRow.holds Try.pinned (OpenSpec.ofChange fnExactSolveRowsWrong)

/- THE SECOND FORM. 'bulk': how many values and letters a reading holds, each counted each time it is reached (what is shared counts as often as it is met; a slice's spare places count too). A statement '..UptoSaid' is the law's where the arguments, and the package variables that the reading takes, are together of bulk at most 1048576: NARROWER than '..Said'. Prove '..Said' where nothing that the law and all that it calls make is longer than what came in: it says more and counts as full. Else prove '..UptoSaid'. A law counts once. -/
mutual
def uptoBulk {H : Type} : DataW H → Nat
  | .lit (.string bytes) => bytes.length + 1
  | .lit _ => 1
  | .nil => 1
  | .ptr d => uptoBulk d + 1
  | .slice elems spare => uptoBulkAll elems + uptoBulkAll spare + 1
  | .agg parts => uptoBulkAll parts + 1
  | .iface _ d => uptoBulk d + 1
  | .map entries => uptoBulkEntries entries + 1
  | .held _ => 1
def uptoBulkAll {H : Type} : List (DataW H) → Nat
  | [] => 0
  | d :: r => uptoBulk d + uptoBulkAll r
def uptoBulkEntries {H : Type} : List (Lit × DataW H) → Nat
  | [] => 0
  | x :: r => uptoBulkEntry x + uptoBulkEntries r
def uptoBulkEntry {H : Type} : Lit × DataW H → Nat
  | (.string bytes, d) => bytes.length + uptoBulk d + 1
  | (_, d) => uptoBulk d + 1
 end
def uptoSmall : (H : Type) → List (DataW H) → Bool := fun _ ds => decide (uptoBulkAll ds ≤ 1048576)
def OpenSpec.upto (s : _root_.Go.ChangeSpec) : _root_.Go.OpenSpec := { _root_.Go.OpenSpec.ofChange s with cond := some uptoSmall }

/-- 'laws.FnDeterminants', WHERE WHAT IT READS IS OF BULK AT MOST 1048576: true; the input reads as it did. -/
def fnDeterminantsUptoRow : OpenClaim := { program := "ytbmjkkcjiofkpaa", sum := "d8e0a8db2dfa9d6e20e2442473e20307ce704079bec4e21d4ee515dd283775b7", func := "loop.example/g01076/laws.FnDeterminants", spec := "fnDeterminants", inPlace := ["slices.overlaps[loop.example/g01076/impl.rowOf[loop.example/g01076/impl.residue]]"], unfollowed := true, recurses := true, apart := false, narrowed := true }
def FnDeterminantsUptoSaid : Prop := fnDeterminantsUptoRow.holds Try.pinned (OpenSpec.upto fnDeterminantsSpec)

/-- 'laws.FnTransposes', WHERE WHAT IT READS IS OF BULK AT MOST 1048576: true; the input reads as it did. -/
def fnTransposesUptoRow : OpenClaim := { program := "ytbmjkkcjiofkpaa", sum := "d8e0a8db2dfa9d6e20e2442473e20307ce704079bec4e21d4ee515dd283775b7", func := "loop.example/g01076/laws.FnTransposes", spec := "fnTransposes", inPlace := ["slices.overlaps[loop.example/g01076/impl.rowOf[loop.example/g01076/impl.residue]]"], unfollowed := true, recurses := true, apart := false, narrowed := true }
def FnTransposesUptoSaid : Prop := fnTransposesUptoRow.holds Try.pinned (OpenSpec.upto fnTransposesSpec)

/-- 'laws.FnExactIsMatrix', WHERE WHAT IT READS IS OF BULK AT MOST 1048576: true; the input reads as it did. -/
def fnExactIsMatrixUptoRow : OpenClaim := { program := "ytbmjkkcjiofkpaa", sum := "d8e0a8db2dfa9d6e20e2442473e20307ce704079bec4e21d4ee515dd283775b7", func := "loop.example/g01076/laws.FnExactIsMatrix", spec := "fnExactIsMatrix", apart := false, narrowed := true }
def FnExactIsMatrixUptoSaid : Prop := fnExactIsMatrixUptoRow.holds Try.pinned (OpenSpec.upto fnExactIsMatrixSpec)

/-- 'laws.FnExactIdentityMatrix', WHERE WHAT IT READS IS OF BULK AT MOST 1048576: true; the input reads as it did. -/
def fnExactIdentityMatrixUptoRow : OpenClaim := { program := "ytbmjkkcjiofkpaa", sum := "d8e0a8db2dfa9d6e20e2442473e20307ce704079bec4e21d4ee515dd283775b7", func := "loop.example/g01076/laws.FnExactIdentityMatrix", spec := "fnExactIdentityMatrix", apart := false, narrowed := true }
def FnExactIdentityMatrixUptoSaid : Prop := fnExactIdentityMatrixUptoRow.holds Try.pinned (OpenSpec.upto fnExactIdentityMatrixSpec)

/-- 'laws.FnExactMatrixProduct', WHERE WHAT IT READS IS OF BULK AT MOST 1048576: true; the input reads as it did. -/
def fnExactMatrixProductUptoRow : OpenClaim := { program := "ytbmjkkcjiofkpaa", sum := "d8e0a8db2dfa9d6e20e2442473e20307ce704079bec4e21d4ee515dd283775b7", func := "loop.example/g01076/laws.FnExactMatrixProduct", spec := "fnExactMatrixProduct", unfollowed := true, recurses := true, apart := false, narrowed := true }
def FnExactMatrixProductUptoSaid : Prop := fnExactMatrixProductUptoRow.holds Try.pinned (OpenSpec.upto fnExactMatrixProductSpec)

/-- 'laws.FnExactTransposeMatrix', WHERE WHAT IT READS IS OF BULK AT MOST 1048576: true; the input reads as it did. -/
def fnExactTransposeMatrixUptoRow : OpenClaim := { program := "ytbmjkkcjiofkpaa", sum := "d8e0a8db2dfa9d6e20e2442473e20307ce704079bec4e21d4ee515dd283775b7", func := "loop.example/g01076/laws.FnExactTransposeMatrix", spec := "fnExactTransposeMatrix", apart := false, narrowed := true }
def FnExactTransposeMatrixUptoSaid : Prop := fnExactTransposeMatrixUptoRow.holds Try.pinned (OpenSpec.upto fnExactTransposeMatrixSpec)

/-- 'laws.FnExactReduceRows', WHERE WHAT IT READS IS OF BULK AT MOST 1048576: true; the input reads as it did. -/
def fnExactReduceRowsUptoRow : OpenClaim := { program := "ytbmjkkcjiofkpaa", sum := "d8e0a8db2dfa9d6e20e2442473e20307ce704079bec4e21d4ee515dd283775b7", func := "loop.example/g01076/laws.FnExactReduceRows", spec := "fnExactReduceRows", inPlace := ["slices.overlaps[loop.example/g01076/impl.rowOf[loop.example/g01076/impl.residue]]"], unfollowed := true, recurses := true, apart := false, narrowed := true }
def FnExactReduceRowsUptoSaid : Prop := fnExactReduceRowsUptoRow.holds Try.pinned (OpenSpec.upto fnExactReduceRowsSpec)

/-- 'laws.FnExactDeterminant', WHERE WHAT IT READS IS OF BULK AT MOST 1048576: true; the input reads as it did. -/
def fnExactDeterminantUptoRow : OpenClaim := { program := "ytbmjkkcjiofkpaa", sum := "d8e0a8db2dfa9d6e20e2442473e20307ce704079bec4e21d4ee515dd283775b7", func := "loop.example/g01076/laws.FnExactDeterminant", spec := "fnExactDeterminant", inPlace := ["slices.overlaps[loop.example/g01076/impl.rowOf[loop.example/g01076/impl.residue]]"], unfollowed := true, recurses := true, apart := false, narrowed := true }
def FnExactDeterminantUptoSaid : Prop := fnExactDeterminantUptoRow.holds Try.pinned (OpenSpec.upto fnExactDeterminantSpec)

/-- 'laws.FnExactInverseMatrix', WHERE WHAT IT READS IS OF BULK AT MOST 1048576: true; the input reads as it did. -/
def fnExactInverseMatrixUptoRow : OpenClaim := { program := "ytbmjkkcjiofkpaa", sum := "d8e0a8db2dfa9d6e20e2442473e20307ce704079bec4e21d4ee515dd283775b7", func := "loop.example/g01076/laws.FnExactInverseMatrix", spec := "fnExactInverseMatrix", inPlace := ["slices.overlaps[loop.example/g01076/impl.rowOf[loop.example/g01076/impl.residue]]"], unfollowed := true, recurses := true, apart := false, narrowed := true }
def FnExactInverseMatrixUptoSaid : Prop := fnExactInverseMatrixUptoRow.holds Try.pinned (OpenSpec.upto fnExactInverseMatrixSpec)

/-- 'laws.FnExactLeftKernel', WHERE WHAT IT READS IS OF BULK AT MOST 1048576: true; the input reads as it did. -/
def fnExactLeftKernelUptoRow : OpenClaim := { program := "ytbmjkkcjiofkpaa", sum := "d8e0a8db2dfa9d6e20e2442473e20307ce704079bec4e21d4ee515dd283775b7", func := "loop.example/g01076/laws.FnExactLeftKernel", spec := "fnExactLeftKernel", inPlace := ["slices.overlaps[loop.example/g01076/impl.rowOf[loop.example/g01076/impl.residue]]"], unfollowed := true, recurses := true, apart := false, narrowed := true }
def FnExactLeftKernelUptoSaid : Prop := fnExactLeftKernelUptoRow.holds Try.pinned (OpenSpec.upto fnExactLeftKernelSpec)

/-- 'laws.FnExactSolveRows', WHERE WHAT IT READS IS OF BULK AT MOST 1048576: true; the input reads as it did. -/
def fnExactSolveRowsUptoRow : OpenClaim := { program := "ytbmjkkcjiofkpaa", sum := "d8e0a8db2dfa9d6e20e2442473e20307ce704079bec4e21d4ee515dd283775b7", func := "loop.example/g01076/laws.FnExactSolveRows", spec := "fnExactSolveRows", inPlace := ["slices.overlaps[loop.example/g01076/impl.rowOf[loop.example/g01076/impl.residue]]"], unfollowed := true, recurses := true, apart := false, narrowed := true }
def FnExactSolveRowsUptoSaid : Prop := fnExactSolveRowsUptoRow.holds Try.pinned (OpenSpec.upto fnExactSolveRowsSpec)

end Rows
end Go.Proofs.Ytbmjkkcjiofkpaa
