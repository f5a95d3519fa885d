/-
  No cell of these rows narrows 'for every input' (looked for: loops, veiled, ifaces, maps, wideKeys, modest, calm, conditions, laid).
  DERIVED. THE GIVEN ROWS OF THIS SEAT. 13 by the template 'for every input the law returns true; each argument reads behind the call as it read before'; 0 by the template 'total and deterministic' (their statements: YteappjgdcbploaaTotals.lean).
  GIVEN WITH THE SEED: the statements are not yours to turn. If you find one false, say at which input.
  Laid BY PROGRAM, IN A SANDBOX (cutbox-rows.mjs): the forced cells as the released guide's own fill.sh prints them over the translation 89c8c46825ba1303… (all of the seat's roots in one cut). By AI agents, Wed Nov 11 2026. No macro, syntax, notation, axiom, sorry.
-/
import Derived.Test.YteappjgdcbploaaChecked
import GoSem.Claim
import GoSem.ClaimJoined
import GoSem.ClaimMapViews
import Derived.JoinedTies
import Derived.KernelRfl
namespace Go.Proofs.Yteappjgdcbploaa
/- THE CELL 'sum', in the pinned program and in every row, IS THE sha256 OF THE DUMP (.gsa) THAT YteappjgdcbploaaProg.lean LOADS. Nothing in Lean hashes anything: it is a label: what it is worth is what the hold of that sum in a sandbox is worth. -/
noncomputable def Try.pinned : Pinned := { name := "yteappjgdcbploaa", sum := "89c8c46825ba130389dd4d93b07bb9c998ea7f6905d066b0041bbb1c52abc054", checked := Try.checked }
namespace Rows
def none {H : Type} : Left H := { results := [], args := [] }

/-- 'laws.FnExactIsElement': WHATEVER THE INPUT: true; the input reads as it did. -/
def fnExactIsElementSpec : ChangeSpec := { name := "fnExactIsElement", fn := fun _ => fun
  | [d1, d2] => { results := [.lit (.bool true)], args := [d1, d2] }
  | _ => none }
def fnExactIsElementRow : OpenClaim := { program := "yteappjgdcbploaa", sum := "89c8c46825ba130389dd4d93b07bb9c998ea7f6905d066b0041bbb1c52abc054", func := "loop.example/g01076/laws.FnExactIsElement", spec := "fnExactIsElement", unfollowed := true, recurses := true, apart := false }
def FnExactIsElementSaid : Prop := fnExactIsElementRow.holds Try.pinned (OpenSpec.ofChange fnExactIsElementSpec)

/-- ITS FALSE NEIGHBOUR: 'it returns false'. Refute it at one input. -/
def fnExactIsElementWrong : ChangeSpec := { name := "fnExactIsElement", fn := fun _ => fun
  | [d1, d2] => { results := [.lit (.bool false)], args := [d1, d2] }
  | _ => none }
def FnExactIsElementWrongFalsely : Prop := fnExactIsElementRow.holds Try.pinned (OpenSpec.ofChange fnExactIsElementWrong)

/-- 'laws.FnExactMultiply': WHATEVER THE INPUT: true; the input reads as it did. -/
def fnExactMultiplySpec : ChangeSpec := { name := "fnExactMultiply", fn := fun _ => fun
  | [d1, d2, d3] => { results := [.lit (.bool true)], args := [d1, d2, d3] }
  | _ => none }
def fnExactMultiplyRow : OpenClaim := { program := "yteappjgdcbploaa", sum := "89c8c46825ba130389dd4d93b07bb9c998ea7f6905d066b0041bbb1c52abc054", func := "loop.example/g01076/laws.FnExactMultiply", spec := "fnExactMultiply", unfollowed := true, recurses := true, apart := false }
def FnExactMultiplySaid : Prop := fnExactMultiplyRow.holds Try.pinned (OpenSpec.ofChange fnExactMultiplySpec)

/-- ITS FALSE NEIGHBOUR: 'it returns false'. Refute it at one input. -/
def fnExactMultiplyWrong : ChangeSpec := { name := "fnExactMultiply", fn := fun _ => fun
  | [d1, d2, d3] => { results := [.lit (.bool false)], args := [d1, d2, d3] }
  | _ => none }
def FnExactMultiplyWrongFalsely : Prop := fnExactMultiplyRow.holds Try.pinned (OpenSpec.ofChange fnExactMultiplyWrong)

/-- 'laws.FnExactInverse': WHATEVER THE INPUT: true; the input reads as it did. -/
def fnExactInverseSpec : ChangeSpec := { name := "fnExactInverse", fn := fun _ => fun
  | [d1, d2] => { results := [.lit (.bool true)], args := [d1, d2] }
  | _ => none }
def fnExactInverseRow : OpenClaim := { program := "yteappjgdcbploaa", sum := "89c8c46825ba130389dd4d93b07bb9c998ea7f6905d066b0041bbb1c52abc054", func := "loop.example/g01076/laws.FnExactInverse", spec := "fnExactInverse", unfollowed := true, recurses := true, apart := false }
def FnExactInverseSaid : Prop := fnExactInverseRow.holds Try.pinned (OpenSpec.ofChange fnExactInverseSpec)

/-- ITS FALSE NEIGHBOUR: 'it returns false'. Refute it at one input. -/
def fnExactInverseWrong : ChangeSpec := { name := "fnExactInverse", fn := fun _ => fun
  | [d1, d2] => { results := [.lit (.bool false)], args := [d1, d2] }
  | _ => none }
def FnExactInverseWrongFalsely : Prop := fnExactInverseRow.holds Try.pinned (OpenSpec.ofChange fnExactInverseWrong)

/-- 'laws.FnExactPower': WHATEVER THE INPUT: true; the input reads as it did. -/
def fnExactPowerSpec : ChangeSpec := { name := "fnExactPower", fn := fun _ => fun
  | [d1, d2, d3] => { results := [.lit (.bool true)], args := [d1, d2, d3] }
  | _ => none }
def fnExactPowerRow : OpenClaim := { program := "yteappjgdcbploaa", sum := "89c8c46825ba130389dd4d93b07bb9c998ea7f6905d066b0041bbb1c52abc054", func := "loop.example/g01076/laws.FnExactPower", spec := "fnExactPower", unfollowed := true, recurses := true, apart := false }
def FnExactPowerSaid : Prop := fnExactPowerRow.holds Try.pinned (OpenSpec.ofChange fnExactPowerSpec)

/-- ITS FALSE NEIGHBOUR: 'it returns false'. Refute it at one input. -/
def fnExactPowerWrong : ChangeSpec := { name := "fnExactPower", fn := fun _ => fun
  | [d1, d2, d3] => { results := [.lit (.bool false)], args := [d1, d2, d3] }
  | _ => none }
def FnExactPowerWrongFalsely : Prop := fnExactPowerRow.holds Try.pinned (OpenSpec.ofChange fnExactPowerWrong)

/-- 'laws.FnExactConjugate': WHATEVER THE INPUT: true; the input reads as it did. -/
def fnExactConjugateSpec : ChangeSpec := { name := "fnExactConjugate", fn := fun _ => fun
  | [d1, d2, d3] => { results := [.lit (.bool true)], args := [d1, d2, d3] }
  | _ => none }
def fnExactConjugateRow : OpenClaim := { program := "yteappjgdcbploaa", sum := "89c8c46825ba130389dd4d93b07bb9c998ea7f6905d066b0041bbb1c52abc054", func := "loop.example/g01076/laws.FnExactConjugate", spec := "fnExactConjugate", unfollowed := true, recurses := true, apart := false }
def FnExactConjugateSaid : Prop := fnExactConjugateRow.holds Try.pinned (OpenSpec.ofChange fnExactConjugateSpec)

/-- ITS FALSE NEIGHBOUR: 'it returns false'. Refute it at one input. -/
def fnExactConjugateWrong : ChangeSpec := { name := "fnExactConjugate", fn := fun _ => fun
  | [d1, d2, d3] => { results := [.lit (.bool false)], args := [d1, d2, d3] }
  | _ => none }
def FnExactConjugateWrongFalsely : Prop := fnExactConjugateRow.holds Try.pinned (OpenSpec.ofChange fnExactConjugateWrong)

/-- 'laws.FnExactCommutator': WHATEVER THE INPUT: true; the input reads as it did. -/
def fnExactCommutatorSpec : ChangeSpec := { name := "fnExactCommutator", fn := fun _ => fun
  | [d1, d2, d3] => { results := [.lit (.bool true)], args := [d1, d2, d3] }
  | _ => none }
def fnExactCommutatorRow : OpenClaim := { program := "yteappjgdcbploaa", sum := "89c8c46825ba130389dd4d93b07bb9c998ea7f6905d066b0041bbb1c52abc054", func := "loop.example/g01076/laws.FnExactCommutator", spec := "fnExactCommutator", unfollowed := true, recurses := true, apart := false }
def FnExactCommutatorSaid : Prop := fnExactCommutatorRow.holds Try.pinned (OpenSpec.ofChange fnExactCommutatorSpec)

/-- ITS FALSE NEIGHBOUR: 'it returns false'. Refute it at one input. -/
def fnExactCommutatorWrong : ChangeSpec := { name := "fnExactCommutator", fn := fun _ => fun
  | [d1, d2, d3] => { results := [.lit (.bool false)], args := [d1, d2, d3] }
  | _ => none }
def FnExactCommutatorWrongFalsely : Prop := fnExactCommutatorRow.holds Try.pinned (OpenSpec.ofChange fnExactCommutatorWrong)

/-- 'laws.FnExactElementOrder': WHATEVER THE INPUT: true; the input reads as it did. -/
def fnExactElementOrderSpec : ChangeSpec := { name := "fnExactElementOrder", fn := fun _ => fun
  | [d1, d2] => { results := [.lit (.bool true)], args := [d1, d2] }
  | _ => none }
def fnExactElementOrderRow : OpenClaim := { program := "yteappjgdcbploaa", sum := "89c8c46825ba130389dd4d93b07bb9c998ea7f6905d066b0041bbb1c52abc054", func := "loop.example/g01076/laws.FnExactElementOrder", spec := "fnExactElementOrder", unfollowed := true, recurses := true, apart := false }
def FnExactElementOrderSaid : Prop := fnExactElementOrderRow.holds Try.pinned (OpenSpec.ofChange fnExactElementOrderSpec)

/-- ITS FALSE NEIGHBOUR: 'it returns false'. Refute it at one input. -/
def fnExactElementOrderWrong : ChangeSpec := { name := "fnExactElementOrder", fn := fun _ => fun
  | [d1, d2] => { results := [.lit (.bool false)], args := [d1, d2] }
  | _ => none }
def FnExactElementOrderWrongFalsely : Prop := fnExactElementOrderRow.holds Try.pinned (OpenSpec.ofChange fnExactElementOrderWrong)

/-- 'laws.FnExactElementNumber': WHATEVER THE INPUT: true; the input reads as it did. -/
def fnExactElementNumberSpec : ChangeSpec := { name := "fnExactElementNumber", fn := fun _ => fun
  | [d1, d2] => { results := [.lit (.bool true)], args := [d1, d2] }
  | _ => none }
def fnExactElementNumberRow : OpenClaim := { program := "yteappjgdcbploaa", sum := "89c8c46825ba130389dd4d93b07bb9c998ea7f6905d066b0041bbb1c52abc054", func := "loop.example/g01076/laws.FnExactElementNumber", spec := "fnExactElementNumber", unfollowed := true, recurses := true, apart := false }
def FnExactElementNumberSaid : Prop := fnExactElementNumberRow.holds Try.pinned (OpenSpec.ofChange fnExactElementNumberSpec)

/-- ITS FALSE NEIGHBOUR: 'it returns false'. Refute it at one input. -/
def fnExactElementNumberWrong : ChangeSpec := { name := "fnExactElementNumber", fn := fun _ => fun
  | [d1, d2] => { results := [.lit (.bool false)], args := [d1, d2] }
  | _ => none }
def FnExactElementNumberWrongFalsely : Prop := fnExactElementNumberRow.holds Try.pinned (OpenSpec.ofChange fnExactElementNumberWrong)

/-- 'laws.FnExactElementAt': WHATEVER THE INPUT: true; the input reads as it did. -/
def fnExactElementAtSpec : ChangeSpec := { name := "fnExactElementAt", fn := fun _ => fun
  | [d1, d2] => { results := [.lit (.bool true)], args := [d1, d2] }
  | _ => none }
def fnExactElementAtRow : OpenClaim := { program := "yteappjgdcbploaa", sum := "89c8c46825ba130389dd4d93b07bb9c998ea7f6905d066b0041bbb1c52abc054", func := "loop.example/g01076/laws.FnExactElementAt", spec := "fnExactElementAt", unfollowed := true, recurses := true, apart := false }
def FnExactElementAtSaid : Prop := fnExactElementAtRow.holds Try.pinned (OpenSpec.ofChange fnExactElementAtSpec)

/-- ITS FALSE NEIGHBOUR: 'it returns false'. Refute it at one input. -/
def fnExactElementAtWrong : ChangeSpec := { name := "fnExactElementAt", fn := fun _ => fun
  | [d1, d2] => { results := [.lit (.bool false)], args := [d1, d2] }
  | _ => none }
def FnExactElementAtWrongFalsely : Prop := fnExactElementAtRow.holds Try.pinned (OpenSpec.ofChange fnExactElementAtWrong)

/-- 'laws.FnExactEvaluateWord': WHATEVER THE INPUT: true; the input reads as it did. -/
def fnExactEvaluateWordSpec : ChangeSpec := { name := "fnExactEvaluateWord", fn := fun _ => fun
  | [d1, d2, d3] => { results := [.lit (.bool true)], args := [d1, d2, d3] }
  | _ => none }
def fnExactEvaluateWordRow : OpenClaim := { program := "yteappjgdcbploaa", sum := "89c8c46825ba130389dd4d93b07bb9c998ea7f6905d066b0041bbb1c52abc054", func := "loop.example/g01076/laws.FnExactEvaluateWord", spec := "fnExactEvaluateWord", unfollowed := true, recurses := true, apart := false }
def FnExactEvaluateWordSaid : Prop := fnExactEvaluateWordRow.holds Try.pinned (OpenSpec.ofChange fnExactEvaluateWordSpec)

/-- ITS FALSE NEIGHBOUR: 'it returns false'. Refute it at one input. -/
def fnExactEvaluateWordWrong : ChangeSpec := { name := "fnExactEvaluateWord", fn := fun _ => fun
  | [d1, d2, d3] => { results := [.lit (.bool false)], args := [d1, d2, d3] }
  | _ => none }
def FnExactEvaluateWordWrongFalsely : Prop := fnExactEvaluateWordRow.holds Try.pinned (OpenSpec.ofChange fnExactEvaluateWordWrong)

/-- 'laws.FnExactGroupExponent': WHATEVER THE INPUT: true; the input reads as it did. -/
def fnExactGroupExponentSpec : ChangeSpec := { name := "fnExactGroupExponent", fn := fun _ => fun
  | [d] => { results := [.lit (.bool true)], args := [d] }
  | _ => none }
def fnExactGroupExponentRow : OpenClaim := { program := "yteappjgdcbploaa", sum := "89c8c46825ba130389dd4d93b07bb9c998ea7f6905d066b0041bbb1c52abc054", func := "loop.example/g01076/laws.FnExactGroupExponent", spec := "fnExactGroupExponent", unfollowed := true, recurses := true, apart := false }
def FnExactGroupExponentSaid : Prop := fnExactGroupExponentRow.holds Try.pinned (OpenSpec.ofChange fnExactGroupExponentSpec)

/-- ITS FALSE NEIGHBOUR: 'it returns false'. Refute it at one input. -/
def fnExactGroupExponentWrong : ChangeSpec := { name := "fnExactGroupExponent", fn := fun _ => fun
  | [d] => { results := [.lit (.bool false)], args := [d] }
  | _ => none }
def FnExactGroupExponentWrongFalsely : Prop := fnExactGroupExponentRow.holds Try.pinned (OpenSpec.ofChange fnExactGroupExponentWrong)

/-- 'laws.FnExactCriticalPairs': WHATEVER THE INPUT: true; the input reads as it did. -/
def fnExactCriticalPairsSpec : ChangeSpec := { name := "fnExactCriticalPairs", fn := fun _ => fun
  | [d] => { results := [.lit (.bool true)], args := [d] }
  | _ => none }
def fnExactCriticalPairsRow : OpenClaim := { program := "yteappjgdcbploaa", sum := "89c8c46825ba130389dd4d93b07bb9c998ea7f6905d066b0041bbb1c52abc054", func := "loop.example/g01076/laws.FnExactCriticalPairs", spec := "fnExactCriticalPairs", apart := false }
def FnExactCriticalPairsSaid : Prop := fnExactCriticalPairsRow.holds Try.pinned (OpenSpec.ofChange fnExactCriticalPairsSpec)

/-- ITS FALSE NEIGHBOUR: 'it returns false'. Refute it at one input. -/
def fnExactCriticalPairsWrong : ChangeSpec := { name := "fnExactCriticalPairs", fn := fun _ => fun
  | [d] => { results := [.lit (.bool false)], args := [d] }
  | _ => none }
def FnExactCriticalPairsWrongFalsely : Prop := fnExactCriticalPairsRow.holds Try.pinned (OpenSpec.ofChange fnExactCriticalPairsWrong)

/-- 'laws.FnExactCriticalPairsJoin': WHATEVER THE INPUT: true; the input reads as it did. -/
def fnExactCriticalPairsJoinSpec : ChangeSpec := { name := "fnExactCriticalPairsJoin", fn := fun _ => fun
  | [d1, d2] => { results := [.lit (.bool true)], args := [d1, d2] }
  | _ => none }
def fnExactCriticalPairsJoinRow : OpenClaim := { program := "yteappjgdcbploaa", sum := "89c8c46825ba130389dd4d93b07bb9c998ea7f6905d066b0041bbb1c52abc054", func := "loop.example/g01076/laws.FnExactCriticalPairsJoin", spec := "fnExactCriticalPairsJoin", apart := false }
def FnExactCriticalPairsJoinSaid : Prop := fnExactCriticalPairsJoinRow.holds Try.pinned (OpenSpec.ofChange fnExactCriticalPairsJoinSpec)

/-- ITS FALSE NEIGHBOUR: 'it returns false'. Refute it at one input. -/
def fnExactCriticalPairsJoinWrong : ChangeSpec := { name := "fnExactCriticalPairsJoin", fn := fun _ => fun
  | [d1, d2] => { results := [.lit (.bool false)], args := [d1, d2] }
  | _ => none }
def FnExactCriticalPairsJoinWrongFalsely : Prop := fnExactCriticalPairsJoinRow.holds Try.pinned (OpenSpec.ofChange fnExactCriticalPairsJoinWrong)

/- THE SECOND FORM. 'bulk': how many values and letters a reading holds, each counted each time it is reached (what is shared counts as often as it is met; a slice's spare places count too). A statement '..UptoSaid' is the law's where the arguments, and the package variables that the reading takes, are together of bulk at most 1048576: NARROWER than '..Said'. Prove '..Said' where nothing that the law and all that it calls make is longer than what came in: it says more and counts as full. Else prove '..UptoSaid'. A law counts once. -/
mutual
def uptoBulk {H : Type} : DataW H → Nat
  | .lit (.string bytes) => bytes.length + 1
  | .lit _ => 1
  | .nil => 1
  | .ptr d => uptoBulk d + 1
  | .slice elems spare => uptoBulkAll elems + uptoBulkAll spare + 1
  | .agg parts => uptoBulkAll parts + 1
  | .iface _ d => uptoBulk d + 1
  | .map entries => uptoBulkEntries entries + 1
  | .held _ => 1
def uptoBulkAll {H : Type} : List (DataW H) → Nat
  | [] => 0
  | d :: r => uptoBulk d + uptoBulkAll r
def uptoBulkEntries {H : Type} : List (Lit × DataW H) → Nat
  | [] => 0
  | x :: r => uptoBulkEntry x + uptoBulkEntries r
def uptoBulkEntry {H : Type} : Lit × DataW H → Nat
  | (.string bytes, d) => bytes.length + uptoBulk d + 1
  | (_, d) => uptoBulk d + 1
 end
def uptoSmall : (H : Type) → List (DataW H) → Bool := fun _ ds => decide (uptoBulkAll ds ≤ 1048576)
def OpenSpec.upto (s : _root_.Go.ChangeSpec) : _root_.Go.OpenSpec := { _root_.Go.OpenSpec.ofChange s with cond := some uptoSmall }

/-- 'laws.FnExactIsElement', WHERE WHAT IT READS IS OF BULK AT MOST 1048576: true; the input reads as it did. -/
def fnExactIsElementUptoRow : OpenClaim := { program := "yteappjgdcbploaa", sum := "89c8c46825ba130389dd4d93b07bb9c998ea7f6905d066b0041bbb1c52abc054", func := "loop.example/g01076/laws.FnExactIsElement", spec := "fnExactIsElement", unfollowed := true, recurses := true, apart := false, narrowed := true }
def FnExactIsElementUptoSaid : Prop := fnExactIsElementUptoRow.holds Try.pinned (OpenSpec.upto fnExactIsElementSpec)

/-- 'laws.FnExactMultiply', WHERE WHAT IT READS IS OF BULK AT MOST 1048576: true; the input reads as it did. -/
def fnExactMultiplyUptoRow : OpenClaim := { program := "yteappjgdcbploaa", sum := "89c8c46825ba130389dd4d93b07bb9c998ea7f6905d066b0041bbb1c52abc054", func := "loop.example/g01076/laws.FnExactMultiply", spec := "fnExactMultiply", unfollowed := true, recurses := true, apart := false, narrowed := true }
def FnExactMultiplyUptoSaid : Prop := fnExactMultiplyUptoRow.holds Try.pinned (OpenSpec.upto fnExactMultiplySpec)

/-- 'laws.FnExactInverse', WHERE WHAT IT READS IS OF BULK AT MOST 1048576: true; the input reads as it did. -/
def fnExactInverseUptoRow : OpenClaim := { program := "yteappjgdcbploaa", sum := "89c8c46825ba130389dd4d93b07bb9c998ea7f6905d066b0041bbb1c52abc054", func := "loop.example/g01076/laws.FnExactInverse", spec := "fnExactInverse", unfollowed := true, recurses := true, apart := false, narrowed := true }
def FnExactInverseUptoSaid : Prop := fnExactInverseUptoRow.holds Try.pinned (OpenSpec.upto fnExactInverseSpec)

/-- 'laws.FnExactPower', WHERE WHAT IT READS IS OF BULK AT MOST 1048576: true; the input reads as it did. -/
def fnExactPowerUptoRow : OpenClaim := { program := "yteappjgdcbploaa", sum := "89c8c46825ba130389dd4d93b07bb9c998ea7f6905d066b0041bbb1c52abc054", func := "loop.example/g01076/laws.FnExactPower", spec := "fnExactPower", unfollowed := true, recurses := true, apart := false, narrowed := true }
def FnExactPowerUptoSaid : Prop := fnExactPowerUptoRow.holds Try.pinned (OpenSpec.upto fnExactPowerSpec)

/-- 'laws.FnExactConjugate', WHERE WHAT IT READS IS OF BULK AT MOST 1048576: true; the input reads as it did. -/
def fnExactConjugateUptoRow : OpenClaim := { program := "yteappjgdcbploaa", sum := "89c8c46825ba130389dd4d93b07bb9c998ea7f6905d066b0041bbb1c52abc054", func := "loop.example/g01076/laws.FnExactConjugate", spec := "fnExactConjugate", unfollowed := true, recurses := true, apart := false, narrowed := true }
def FnExactConjugateUptoSaid : Prop := fnExactConjugateUptoRow.holds Try.pinned (OpenSpec.upto fnExactConjugateSpec)

/-- 'laws.FnExactCommutator', WHERE WHAT IT READS IS OF BULK AT MOST 1048576: true; the input reads as it did. -/
def fnExactCommutatorUptoRow : OpenClaim := { program := "yteappjgdcbploaa", sum := "89c8c46825ba130389dd4d93b07bb9c998ea7f6905d066b0041bbb1c52abc054", func := "loop.example/g01076/laws.FnExactCommutator", spec := "fnExactCommutator", unfollowed := true, recurses := true, apart := false, narrowed := true }
def FnExactCommutatorUptoSaid : Prop := fnExactCommutatorUptoRow.holds Try.pinned (OpenSpec.upto fnExactCommutatorSpec)

/-- 'laws.FnExactElementOrder', WHERE WHAT IT READS IS OF BULK AT MOST 1048576: true; the input reads as it did. -/
def fnExactElementOrderUptoRow : OpenClaim := { program := "yteappjgdcbploaa", sum := "89c8c46825ba130389dd4d93b07bb9c998ea7f6905d066b0041bbb1c52abc054", func := "loop.example/g01076/laws.FnExactElementOrder", spec := "fnExactElementOrder", unfollowed := true, recurses := true, apart := false, narrowed := true }
def FnExactElementOrderUptoSaid : Prop := fnExactElementOrderUptoRow.holds Try.pinned (OpenSpec.upto fnExactElementOrderSpec)

/-- 'laws.FnExactElementNumber', WHERE WHAT IT READS IS OF BULK AT MOST 1048576: true; the input reads as it did. -/
def fnExactElementNumberUptoRow : OpenClaim := { program := "yteappjgdcbploaa", sum := "89c8c46825ba130389dd4d93b07bb9c998ea7f6905d066b0041bbb1c52abc054", func := "loop.example/g01076/laws.FnExactElementNumber", spec := "fnExactElementNumber", unfollowed := true, recurses := true, apart := false, narrowed := true }
def FnExactElementNumberUptoSaid : Prop := fnExactElementNumberUptoRow.holds Try.pinned (OpenSpec.upto fnExactElementNumberSpec)

/-- 'laws.FnExactElementAt', WHERE WHAT IT READS IS OF BULK AT MOST 1048576: true; the input reads as it did. -/
def fnExactElementAtUptoRow : OpenClaim := { program := "yteappjgdcbploaa", sum := "89c8c46825ba130389dd4d93b07bb9c998ea7f6905d066b0041bbb1c52abc054", func := "loop.example/g01076/laws.FnExactElementAt", spec := "fnExactElementAt", unfollowed := true, recurses := true, apart := false, narrowed := true }
def FnExactElementAtUptoSaid : Prop := fnExactElementAtUptoRow.holds Try.pinned (OpenSpec.upto fnExactElementAtSpec)

/-- 'laws.FnExactEvaluateWord', WHERE WHAT IT READS IS OF BULK AT MOST 1048576: true; the input reads as it did. -/
def fnExactEvaluateWordUptoRow : OpenClaim := { program := "yteappjgdcbploaa", sum := "89c8c46825ba130389dd4d93b07bb9c998ea7f6905d066b0041bbb1c52abc054", func := "loop.example/g01076/laws.FnExactEvaluateWord", spec := "fnExactEvaluateWord", unfollowed := true, recurses := true, apart := false, narrowed := true }
def FnExactEvaluateWordUptoSaid : Prop := fnExactEvaluateWordUptoRow.holds Try.pinned (OpenSpec.upto fnExactEvaluateWordSpec)

/-- 'laws.FnExactGroupExponent', WHERE WHAT IT READS IS OF BULK AT MOST 1048576: true; the input reads as it did. -/
def fnExactGroupExponentUptoRow : OpenClaim := { program := "yteappjgdcbploaa", sum := "89c8c46825ba130389dd4d93b07bb9c998ea7f6905d066b0041bbb1c52abc054", func := "loop.example/g01076/laws.FnExactGroupExponent", spec := "fnExactGroupExponent", unfollowed := true, recurses := true, apart := false, narrowed := true }
def FnExactGroupExponentUptoSaid : Prop := fnExactGroupExponentUptoRow.holds Try.pinned (OpenSpec.upto fnExactGroupExponentSpec)

/-- 'laws.FnExactCriticalPairs', WHERE WHAT IT READS IS OF BULK AT MOST 1048576: true; the input reads as it did. -/
def fnExactCriticalPairsUptoRow : OpenClaim := { program := "yteappjgdcbploaa", sum := "89c8c46825ba130389dd4d93b07bb9c998ea7f6905d066b0041bbb1c52abc054", func := "loop.example/g01076/laws.FnExactCriticalPairs", spec := "fnExactCriticalPairs", apart := false, narrowed := true }
def FnExactCriticalPairsUptoSaid : Prop := fnExactCriticalPairsUptoRow.holds Try.pinned (OpenSpec.upto fnExactCriticalPairsSpec)

/-- 'laws.FnExactCriticalPairsJoin', WHERE WHAT IT READS IS OF BULK AT MOST 1048576: true; the input reads as it did. -/
def fnExactCriticalPairsJoinUptoRow : OpenClaim := { program := "yteappjgdcbploaa", sum := "89c8c46825ba130389dd4d93b07bb9c998ea7f6905d066b0041bbb1c52abc054", func := "loop.example/g01076/laws.FnExactCriticalPairsJoin", spec := "fnExactCriticalPairsJoin", apart := false, narrowed := true }
def FnExactCriticalPairsJoinUptoSaid : Prop := fnExactCriticalPairsJoinUptoRow.holds Try.pinned (OpenSpec.upto fnExactCriticalPairsJoinSpec)

end Rows
end Go.Proofs.Yteappjgdcbploaa
