/-
  No cell of these rows narrows 'for every input' (looked for: loops, veiled, ifaces, maps, wideKeys, modest, calm, conditions, laid).
  DERIVED. THE GIVEN ROWS OF THIS SEAT. 8 by the template 'for every input the law returns true; each argument reads behind the call as it read before'; 0 by the template 'total and deterministic' (their statements: YtndldgmejmephaaTotals.lean).
  GIVEN WITH THE SEED: the statements are not yours to turn. If you find one false, say at which input.
  Laid BY PROGRAM, IN A SANDBOX (cutbox-rows.mjs): the forced cells as the released guide's own fill.sh prints them over the translation 5160a4a31fac0ff6… (all of the seat's roots in one cut). By AI agents, Wed Nov 11 2026. No macro, syntax, notation, axiom, sorry.
-/
import Derived.Test.YtndldgmejmephaaChecked
import GoSem.Claim
import GoSem.ClaimJoined
import GoSem.ClaimMapViews
import Derived.JoinedTies
import Derived.KernelRfl
namespace Go.Proofs.Ytndldgmejmephaa
/- THE CELL 'sum', in the pinned program and in every row, IS THE sha256 OF THE DUMP (.gsa) THAT YtndldgmejmephaaProg.lean LOADS. Nothing in Lean hashes anything: it is a label: what it is worth is what the hold of that sum in a sandbox is worth. -/
noncomputable def Try.pinned : Pinned := { name := "ytndldgmejmephaa", sum := "5160a4a31fac0ff690bd86b1af39cc2680e113b0abebbf907337662a287ae266", checked := Try.checked }
namespace Rows
def none {H : Type} : Left H := { results := [], args := [] }

/-- 'laws.FnExactSumAbelian': WHATEVER THE INPUT: true; the input reads as it did. -/
def fnExactSumAbelianSpec : ChangeSpec := { name := "fnExactSumAbelian", fn := fun _ => fun
  | [d1, d2] => { results := [.lit (.bool true)], args := [d1, d2] }
  | _ => none }
def fnExactSumAbelianRow : OpenClaim := { program := "ytndldgmejmephaa", sum := "5160a4a31fac0ff690bd86b1af39cc2680e113b0abebbf907337662a287ae266", func := "loop.example/g01076/laws.FnExactSumAbelian", spec := "fnExactSumAbelian", inPlace := ["slices.overlaps[loop.example/g01076/impl.cyclic]"], unfollowed := true, recurses := true, apart := false }
def FnExactSumAbelianSaid : Prop := fnExactSumAbelianRow.holds Try.pinned (OpenSpec.ofChange fnExactSumAbelianSpec)

/-- ITS FALSE NEIGHBOUR: 'it returns false'. Refute it at one input. -/
def fnExactSumAbelianWrong : ChangeSpec := { name := "fnExactSumAbelian", fn := fun _ => fun
  | [d1, d2] => { results := [.lit (.bool false)], args := [d1, d2] }
  | _ => none }
def FnExactSumAbelianWrongFalsely : Prop := fnExactSumAbelianRow.holds Try.pinned (OpenSpec.ofChange fnExactSumAbelianWrong)

/-- 'laws.FnExactFromPrimary': WHATEVER THE INPUT: true; the input reads as it did. -/
def fnExactFromPrimarySpec : ChangeSpec := { name := "fnExactFromPrimary", fn := fun _ => fun
  | [d] => { results := [.lit (.bool true)], args := [d] }
  | _ => none }
def fnExactFromPrimaryRow : OpenClaim := { program := "ytndldgmejmephaa", sum := "5160a4a31fac0ff690bd86b1af39cc2680e113b0abebbf907337662a287ae266", func := "loop.example/g01076/laws.FnExactFromPrimary", spec := "fnExactFromPrimary", inPlace := ["slices.overlaps[loop.example/g01076/impl.cyclic]"], unfollowed := true, recurses := true, apart := false }
def FnExactFromPrimarySaid : Prop := fnExactFromPrimaryRow.holds Try.pinned (OpenSpec.ofChange fnExactFromPrimarySpec)

/-- ITS FALSE NEIGHBOUR: 'it returns false'. Refute it at one input. -/
def fnExactFromPrimaryWrong : ChangeSpec := { name := "fnExactFromPrimary", fn := fun _ => fun
  | [d] => { results := [.lit (.bool false)], args := [d] }
  | _ => none }
def FnExactFromPrimaryWrongFalsely : Prop := fnExactFromPrimaryRow.holds Try.pinned (OpenSpec.ofChange fnExactFromPrimaryWrong)

/-- 'laws.FnExactAllAbelian': WHATEVER THE INPUT: true; the input reads as it did. -/
def fnExactAllAbelianSpec : ChangeSpec := { name := "fnExactAllAbelian", fn := fun _ => fun
  | [d] => { results := [.lit (.bool true)], args := [d] }
  | _ => none }
def fnExactAllAbelianRow : OpenClaim := { program := "ytndldgmejmephaa", sum := "5160a4a31fac0ff690bd86b1af39cc2680e113b0abebbf907337662a287ae266", func := "loop.example/g01076/laws.FnExactAllAbelian", spec := "fnExactAllAbelian", recurses := true, apart := false }
def FnExactAllAbelianSaid : Prop := fnExactAllAbelianRow.holds Try.pinned (OpenSpec.ofChange fnExactAllAbelianSpec)

/-- ITS FALSE NEIGHBOUR: 'it returns false'. Refute it at one input. -/
def fnExactAllAbelianWrong : ChangeSpec := { name := "fnExactAllAbelian", fn := fun _ => fun
  | [d] => { results := [.lit (.bool false)], args := [d] }
  | _ => none }
def FnExactAllAbelianWrongFalsely : Prop := fnExactAllAbelianRow.holds Try.pinned (OpenSpec.ofChange fnExactAllAbelianWrong)

/-- 'laws.FnExactHermiteForm': WHATEVER THE INPUT: true; the input reads as it did. -/
def fnExactHermiteFormSpec : ChangeSpec := { name := "fnExactHermiteForm", fn := fun _ => fun
  | [d] => { results := [.lit (.bool true)], args := [d] }
  | _ => none }
def fnExactHermiteFormRow : OpenClaim := { program := "ytndldgmejmephaa", sum := "5160a4a31fac0ff690bd86b1af39cc2680e113b0abebbf907337662a287ae266", func := "loop.example/g01076/laws.FnExactHermiteForm", spec := "fnExactHermiteForm", inPlace := ["slices.overlaps[loop.example/g01076/impl.rowOf[loop.example/g01076/impl.integer]]"], unfollowed := true, recurses := true, apart := false }
def FnExactHermiteFormSaid : Prop := fnExactHermiteFormRow.holds Try.pinned (OpenSpec.ofChange fnExactHermiteFormSpec)

/-- ITS FALSE NEIGHBOUR: 'it returns false'. Refute it at one input. -/
def fnExactHermiteFormWrong : ChangeSpec := { name := "fnExactHermiteForm", fn := fun _ => fun
  | [d] => { results := [.lit (.bool false)], args := [d] }
  | _ => none }
def FnExactHermiteFormWrongFalsely : Prop := fnExactHermiteFormRow.holds Try.pinned (OpenSpec.ofChange fnExactHermiteFormWrong)

/-- 'laws.FnExactIsInLattice': WHATEVER THE INPUT: true; the input reads as it did. -/
def fnExactIsInLatticeSpec : ChangeSpec := { name := "fnExactIsInLattice", fn := fun _ => fun
  | [d1, d2] => { results := [.lit (.bool true)], args := [d1, d2] }
  | _ => none }
def fnExactIsInLatticeRow : OpenClaim := { program := "ytndldgmejmephaa", sum := "5160a4a31fac0ff690bd86b1af39cc2680e113b0abebbf907337662a287ae266", func := "loop.example/g01076/laws.FnExactIsInLattice", spec := "fnExactIsInLattice", inPlace := ["slices.overlaps[loop.example/g01076/impl.rowOf[loop.example/g01076/impl.integer]]"], unfollowed := true, recurses := true, apart := false }
def FnExactIsInLatticeSaid : Prop := fnExactIsInLatticeRow.holds Try.pinned (OpenSpec.ofChange fnExactIsInLatticeSpec)

/-- ITS FALSE NEIGHBOUR: 'it returns false'. Refute it at one input. -/
def fnExactIsInLatticeWrong : ChangeSpec := { name := "fnExactIsInLattice", fn := fun _ => fun
  | [d1, d2] => { results := [.lit (.bool false)], args := [d1, d2] }
  | _ => none }
def FnExactIsInLatticeWrongFalsely : Prop := fnExactIsInLatticeRow.holds Try.pinned (OpenSpec.ofChange fnExactIsInLatticeWrong)

/-- 'laws.FnExactRemainderOf': WHATEVER THE INPUT: true; the input reads as it did. -/
def fnExactRemainderOfSpec : ChangeSpec := { name := "fnExactRemainderOf", fn := fun _ => fun
  | [d1, d2] => { results := [.lit (.bool true)], args := [d1, d2] }
  | _ => none }
def fnExactRemainderOfRow : OpenClaim := { program := "ytndldgmejmephaa", sum := "5160a4a31fac0ff690bd86b1af39cc2680e113b0abebbf907337662a287ae266", func := "loop.example/g01076/laws.FnExactRemainderOf", spec := "fnExactRemainderOf", inPlace := ["slices.overlaps[loop.example/g01076/impl.rowOf[loop.example/g01076/impl.integer]]"], unfollowed := true, recurses := true, apart := false }
def FnExactRemainderOfSaid : Prop := fnExactRemainderOfRow.holds Try.pinned (OpenSpec.ofChange fnExactRemainderOfSpec)

/-- ITS FALSE NEIGHBOUR: 'it returns false'. Refute it at one input. -/
def fnExactRemainderOfWrong : ChangeSpec := { name := "fnExactRemainderOf", fn := fun _ => fun
  | [d1, d2] => { results := [.lit (.bool false)], args := [d1, d2] }
  | _ => none }
def FnExactRemainderOfWrongFalsely : Prop := fnExactRemainderOfRow.holds Try.pinned (OpenSpec.ofChange fnExactRemainderOfWrong)

/-- 'laws.FnExactLatticeIndex': WHATEVER THE INPUT: true; the input reads as it did. -/
def fnExactLatticeIndexSpec : ChangeSpec := { name := "fnExactLatticeIndex", fn := fun _ => fun
  | [d] => { results := [.lit (.bool true)], args := [d] }
  | _ => none }
def fnExactLatticeIndexRow : OpenClaim := { program := "ytndldgmejmephaa", sum := "5160a4a31fac0ff690bd86b1af39cc2680e113b0abebbf907337662a287ae266", func := "loop.example/g01076/laws.FnExactLatticeIndex", spec := "fnExactLatticeIndex", inPlace := ["slices.overlaps[loop.example/g01076/impl.rowOf[loop.example/g01076/impl.integer]]"], unfollowed := true, recurses := true, apart := false }
def FnExactLatticeIndexSaid : Prop := fnExactLatticeIndexRow.holds Try.pinned (OpenSpec.ofChange fnExactLatticeIndexSpec)

/-- ITS FALSE NEIGHBOUR: 'it returns false'. Refute it at one input. -/
def fnExactLatticeIndexWrong : ChangeSpec := { name := "fnExactLatticeIndex", fn := fun _ => fun
  | [d] => { results := [.lit (.bool false)], args := [d] }
  | _ => none }
def FnExactLatticeIndexWrongFalsely : Prop := fnExactLatticeIndexRow.holds Try.pinned (OpenSpec.ofChange fnExactLatticeIndexWrong)

/-- 'laws.FnExactCosetOrder': WHATEVER THE INPUT: true; the input reads as it did. -/
def fnExactCosetOrderSpec : ChangeSpec := { name := "fnExactCosetOrder", fn := fun _ => fun
  | [d1, d2] => { results := [.lit (.bool true)], args := [d1, d2] }
  | _ => none }
def fnExactCosetOrderRow : OpenClaim := { program := "ytndldgmejmephaa", sum := "5160a4a31fac0ff690bd86b1af39cc2680e113b0abebbf907337662a287ae266", func := "loop.example/g01076/laws.FnExactCosetOrder", spec := "fnExactCosetOrder", inPlace := ["slices.overlaps[loop.example/g01076/impl.rowOf[loop.example/g01076/impl.integer]]"], unfollowed := true, recurses := true, apart := false }
def FnExactCosetOrderSaid : Prop := fnExactCosetOrderRow.holds Try.pinned (OpenSpec.ofChange fnExactCosetOrderSpec)

/-- ITS FALSE NEIGHBOUR: 'it returns false'. Refute it at one input. -/
def fnExactCosetOrderWrong : ChangeSpec := { name := "fnExactCosetOrder", fn := fun _ => fun
  | [d1, d2] => { results := [.lit (.bool false)], args := [d1, d2] }
  | _ => none }
def FnExactCosetOrderWrongFalsely : Prop := fnExactCosetOrderRow.holds Try.pinned (OpenSpec.ofChange fnExactCosetOrderWrong)

/- THE SECOND FORM. 'bulk': how many values and letters a reading holds, each counted each time it is reached (what is shared counts as often as it is met; a slice's spare places count too). A statement '..UptoSaid' is the law's where the arguments, and the package variables that the reading takes, are together of bulk at most 1048576: NARROWER than '..Said'. Prove '..Said' where nothing that the law and all that it calls make is longer than what came in: it says more and counts as full. Else prove '..UptoSaid'. A law counts once. -/
mutual
def uptoBulk {H : Type} : DataW H → Nat
  | .lit (.string bytes) => bytes.length + 1
  | .lit _ => 1
  | .nil => 1
  | .ptr d => uptoBulk d + 1
  | .slice elems spare => uptoBulkAll elems + uptoBulkAll spare + 1
  | .agg parts => uptoBulkAll parts + 1
  | .iface _ d => uptoBulk d + 1
  | .map entries => uptoBulkEntries entries + 1
  | .held _ => 1
def uptoBulkAll {H : Type} : List (DataW H) → Nat
  | [] => 0
  | d :: r => uptoBulk d + uptoBulkAll r
def uptoBulkEntries {H : Type} : List (Lit × DataW H) → Nat
  | [] => 0
  | x :: r => uptoBulkEntry x + uptoBulkEntries r
def uptoBulkEntry {H : Type} : Lit × DataW H → Nat
  | (.string bytes, d) => bytes.length + uptoBulk d + 1
  | (_, d) => uptoBulk d + 1
 end
def uptoSmall : (H : Type) → List (DataW H) → Bool := fun _ ds => decide (uptoBulkAll ds ≤ 1048576)
def OpenSpec.upto (s : _root_.Go.ChangeSpec) : _root_.Go.OpenSpec := { _root_.Go.OpenSpec.ofChange s with cond := some uptoSmall }

/-- 'laws.FnExactSumAbelian', WHERE WHAT IT READS IS OF BULK AT MOST 1048576: true; the input reads as it did. -/
def fnExactSumAbelianUptoRow : OpenClaim := { program := "ytndldgmejmephaa", sum := "5160a4a31fac0ff690bd86b1af39cc2680e113b0abebbf907337662a287ae266", func := "loop.example/g01076/laws.FnExactSumAbelian", spec := "fnExactSumAbelian", inPlace := ["slices.overlaps[loop.example/g01076/impl.cyclic]"], unfollowed := true, recurses := true, apart := false, narrowed := true }
def FnExactSumAbelianUptoSaid : Prop := fnExactSumAbelianUptoRow.holds Try.pinned (OpenSpec.upto fnExactSumAbelianSpec)

/-- 'laws.FnExactFromPrimary', WHERE WHAT IT READS IS OF BULK AT MOST 1048576: true; the input reads as it did. -/
def fnExactFromPrimaryUptoRow : OpenClaim := { program := "ytndldgmejmephaa", sum := "5160a4a31fac0ff690bd86b1af39cc2680e113b0abebbf907337662a287ae266", func := "loop.example/g01076/laws.FnExactFromPrimary", spec := "fnExactFromPrimary", inPlace := ["slices.overlaps[loop.example/g01076/impl.cyclic]"], unfollowed := true, recurses := true, apart := false, narrowed := true }
def FnExactFromPrimaryUptoSaid : Prop := fnExactFromPrimaryUptoRow.holds Try.pinned (OpenSpec.upto fnExactFromPrimarySpec)

/-- 'laws.FnExactAllAbelian', WHERE WHAT IT READS IS OF BULK AT MOST 1048576: true; the input reads as it did. -/
def fnExactAllAbelianUptoRow : OpenClaim := { program := "ytndldgmejmephaa", sum := "5160a4a31fac0ff690bd86b1af39cc2680e113b0abebbf907337662a287ae266", func := "loop.example/g01076/laws.FnExactAllAbelian", spec := "fnExactAllAbelian", recurses := true, apart := false, narrowed := true }
def FnExactAllAbelianUptoSaid : Prop := fnExactAllAbelianUptoRow.holds Try.pinned (OpenSpec.upto fnExactAllAbelianSpec)

/-- 'laws.FnExactHermiteForm', WHERE WHAT IT READS IS OF BULK AT MOST 1048576: true; the input reads as it did. -/
def fnExactHermiteFormUptoRow : OpenClaim := { program := "ytndldgmejmephaa", sum := "5160a4a31fac0ff690bd86b1af39cc2680e113b0abebbf907337662a287ae266", func := "loop.example/g01076/laws.FnExactHermiteForm", spec := "fnExactHermiteForm", inPlace := ["slices.overlaps[loop.example/g01076/impl.rowOf[loop.example/g01076/impl.integer]]"], unfollowed := true, recurses := true, apart := false, narrowed := true }
def FnExactHermiteFormUptoSaid : Prop := fnExactHermiteFormUptoRow.holds Try.pinned (OpenSpec.upto fnExactHermiteFormSpec)

/-- 'laws.FnExactIsInLattice', WHERE WHAT IT READS IS OF BULK AT MOST 1048576: true; the input reads as it did. -/
def fnExactIsInLatticeUptoRow : OpenClaim := { program := "ytndldgmejmephaa", sum := "5160a4a31fac0ff690bd86b1af39cc2680e113b0abebbf907337662a287ae266", func := "loop.example/g01076/laws.FnExactIsInLattice", spec := "fnExactIsInLattice", inPlace := ["slices.overlaps[loop.example/g01076/impl.rowOf[loop.example/g01076/impl.integer]]"], unfollowed := true, recurses := true, apart := false, narrowed := true }
def FnExactIsInLatticeUptoSaid : Prop := fnExactIsInLatticeUptoRow.holds Try.pinned (OpenSpec.upto fnExactIsInLatticeSpec)

/-- 'laws.FnExactRemainderOf', WHERE WHAT IT READS IS OF BULK AT MOST 1048576: true; the input reads as it did. -/
def fnExactRemainderOfUptoRow : OpenClaim := { program := "ytndldgmejmephaa", sum := "5160a4a31fac0ff690bd86b1af39cc2680e113b0abebbf907337662a287ae266", func := "loop.example/g01076/laws.FnExactRemainderOf", spec := "fnExactRemainderOf", inPlace := ["slices.overlaps[loop.example/g01076/impl.rowOf[loop.example/g01076/impl.integer]]"], unfollowed := true, recurses := true, apart := false, narrowed := true }
def FnExactRemainderOfUptoSaid : Prop := fnExactRemainderOfUptoRow.holds Try.pinned (OpenSpec.upto fnExactRemainderOfSpec)

/-- 'laws.FnExactLatticeIndex', WHERE WHAT IT READS IS OF BULK AT MOST 1048576: true; the input reads as it did. -/
def fnExactLatticeIndexUptoRow : OpenClaim := { program := "ytndldgmejmephaa", sum := "5160a4a31fac0ff690bd86b1af39cc2680e113b0abebbf907337662a287ae266", func := "loop.example/g01076/laws.FnExactLatticeIndex", spec := "fnExactLatticeIndex", inPlace := ["slices.overlaps[loop.example/g01076/impl.rowOf[loop.example/g01076/impl.integer]]"], unfollowed := true, recurses := true, apart := false, narrowed := true }
def FnExactLatticeIndexUptoSaid : Prop := fnExactLatticeIndexUptoRow.holds Try.pinned (OpenSpec.upto fnExactLatticeIndexSpec)

/-- 'laws.FnExactCosetOrder', WHERE WHAT IT READS IS OF BULK AT MOST 1048576: true; the input reads as it did. -/
def fnExactCosetOrderUptoRow : OpenClaim := { program := "ytndldgmejmephaa", sum := "5160a4a31fac0ff690bd86b1af39cc2680e113b0abebbf907337662a287ae266", func := "loop.example/g01076/laws.FnExactCosetOrder", spec := "fnExactCosetOrder", inPlace := ["slices.overlaps[loop.example/g01076/impl.rowOf[loop.example/g01076/impl.integer]]"], unfollowed := true, recurses := true, apart := false, narrowed := true }
def FnExactCosetOrderUptoSaid : Prop := fnExactCosetOrderUptoRow.holds Try.pinned (OpenSpec.upto fnExactCosetOrderSpec)

end Rows
end Go.Proofs.Ytndldgmejmephaa
