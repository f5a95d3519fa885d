/-
  No cell of these rows narrows 'for every input' (looked for: loops, veiled, ifaces, maps, wideKeys, modest, calm, conditions, laid).
  DERIVED. THE GIVEN ROWS OF THIS SEAT. 11 by the template 'for every input the law returns true; each argument reads behind the call as it read before'; 0 by the template 'total and deterministic' (their statements: YtahmhdpgdhfjnaaTotals.lean).
  GIVEN WITH THE SEED: the statements are not yours to turn. If you find one false, say at which input.
  Laid BY PROGRAM, IN A SANDBOX (cutbox-rows.mjs): the forced cells as the released guide's own fill.sh prints them over the translation 8e8e701363ca5f86… (all of the seat's roots in one cut). By AI agents, Wed Nov 11 2026. No macro, syntax, notation, axiom, sorry.
-/
import Derived.Test.YtahmhdpgdhfjnaaChecked
import GoSem.Claim
import GoSem.ClaimJoined
import GoSem.ClaimMapViews
import Derived.JoinedTies
import Derived.KernelRfl
namespace Go.Proofs.Ytahmhdpgdhfjnaa
/- THE CELL 'sum', in the pinned program and in every row, IS THE sha256 OF THE DUMP (.gsa) THAT YtahmhdpgdhfjnaaProg.lean LOADS. Nothing in Lean hashes anything: it is a label: what it is worth is what the hold of that sum in a sandbox is worth. -/
noncomputable def Try.pinned : Pinned := { name := "ytahmhdpgdhfjnaa", sum := "8e8e701363ca5f869f36656a369941a52c0dd29631f16a51112e03a34a0e0178", checked := Try.checked }
namespace Rows
def none {H : Type} : Left H := { results := [], args := [] }

/-- 'laws.FnFaults': WHATEVER THE INPUT: true; the input reads as it did. -/
def fnFaultsSpec : ChangeSpec := { name := "fnFaults", fn := fun _ => fun
  | [d] => { results := [.lit (.bool true)], args := [d] }
  | _ => none }
def fnFaultsRow : OpenClaim := { program := "ytahmhdpgdhfjnaa", sum := "8e8e701363ca5f869f36656a369941a52c0dd29631f16a51112e03a34a0e0178", func := "loop.example/g01076/laws.FnFaults", spec := "fnFaults", unfollowed := true, recurses := true, apart := false }
def FnFaultsSaid : Prop := fnFaultsRow.holds Try.pinned (OpenSpec.ofChange fnFaultsSpec)

/-- ITS FALSE NEIGHBOUR: 'it returns false'. Refute it at one input. -/
def fnFaultsWrong : ChangeSpec := { name := "fnFaults", fn := fun _ => fun
  | [d] => { results := [.lit (.bool false)], args := [d] }
  | _ => none }
def FnFaultsWrongFalsely : Prop := fnFaultsRow.holds Try.pinned (OpenSpec.ofChange fnFaultsWrong)

/-- 'laws.FnCriticalPairs': WHATEVER THE INPUT: true; the input reads as it did. -/
def fnCriticalPairsSpec : ChangeSpec := { name := "fnCriticalPairs", fn := fun _ => fun
  | [d] => { results := [.lit (.bool true)], args := [d] }
  | _ => none }
def fnCriticalPairsRow : OpenClaim := { program := "ytahmhdpgdhfjnaa", sum := "8e8e701363ca5f869f36656a369941a52c0dd29631f16a51112e03a34a0e0178", func := "loop.example/g01076/laws.FnCriticalPairs", spec := "fnCriticalPairs", unfollowed := true, recurses := true, apart := false }
def FnCriticalPairsSaid : Prop := fnCriticalPairsRow.holds Try.pinned (OpenSpec.ofChange fnCriticalPairsSpec)

/-- ITS FALSE NEIGHBOUR: 'it returns false'. Refute it at one input. -/
def fnCriticalPairsWrong : ChangeSpec := { name := "fnCriticalPairs", fn := fun _ => fun
  | [d] => { results := [.lit (.bool false)], args := [d] }
  | _ => none }
def FnCriticalPairsWrongFalsely : Prop := fnCriticalPairsRow.holds Try.pinned (OpenSpec.ofChange fnCriticalPairsWrong)

/-- 'laws.FnExactTailPresentation': WHATEVER THE INPUT: true; the input reads as it did. -/
def fnExactTailPresentationSpec : ChangeSpec := { name := "fnExactTailPresentation", fn := fun _ => fun
  | [d1, d2] => { results := [.lit (.bool true)], args := [d1, d2] }
  | _ => none }
def fnExactTailPresentationRow : OpenClaim := { program := "ytahmhdpgdhfjnaa", sum := "8e8e701363ca5f869f36656a369941a52c0dd29631f16a51112e03a34a0e0178", func := "loop.example/g01076/laws.FnExactTailPresentation", spec := "fnExactTailPresentation", apart := false }
def FnExactTailPresentationSaid : Prop := fnExactTailPresentationRow.holds Try.pinned (OpenSpec.ofChange fnExactTailPresentationSpec)

/-- ITS FALSE NEIGHBOUR: 'it returns false'. Refute it at one input. -/
def fnExactTailPresentationWrong : ChangeSpec := { name := "fnExactTailPresentation", fn := fun _ => fun
  | [d1, d2] => { results := [.lit (.bool false)], args := [d1, d2] }
  | _ => none }
def FnExactTailPresentationWrongFalsely : Prop := fnExactTailPresentationRow.holds Try.pinned (OpenSpec.ofChange fnExactTailPresentationWrong)

/-- 'laws.FnExactIsNormalTail': WHATEVER THE INPUT: true; the input reads as it did. -/
def fnExactIsNormalTailSpec : ChangeSpec := { name := "fnExactIsNormalTail", fn := fun _ => fun
  | [d1, d2] => { results := [.lit (.bool true)], args := [d1, d2] }
  | _ => none }
def fnExactIsNormalTailRow : OpenClaim := { program := "ytahmhdpgdhfjnaa", sum := "8e8e701363ca5f869f36656a369941a52c0dd29631f16a51112e03a34a0e0178", func := "loop.example/g01076/laws.FnExactIsNormalTail", spec := "fnExactIsNormalTail", unfollowed := true, recurses := true, apart := false }
def FnExactIsNormalTailSaid : Prop := fnExactIsNormalTailRow.holds Try.pinned (OpenSpec.ofChange fnExactIsNormalTailSpec)

/-- ITS FALSE NEIGHBOUR: 'it returns false'. Refute it at one input. -/
def fnExactIsNormalTailWrong : ChangeSpec := { name := "fnExactIsNormalTail", fn := fun _ => fun
  | [d1, d2] => { results := [.lit (.bool false)], args := [d1, d2] }
  | _ => none }
def FnExactIsNormalTailWrongFalsely : Prop := fnExactIsNormalTailRow.holds Try.pinned (OpenSpec.ofChange fnExactIsNormalTailWrong)

/-- 'laws.FnExactHeadPresentation': WHATEVER THE INPUT: true; the input reads as it did. -/
def fnExactHeadPresentationSpec : ChangeSpec := { name := "fnExactHeadPresentation", fn := fun _ => fun
  | [d1, d2] => { results := [.lit (.bool true)], args := [d1, d2] }
  | _ => none }
def fnExactHeadPresentationRow : OpenClaim := { program := "ytahmhdpgdhfjnaa", sum := "8e8e701363ca5f869f36656a369941a52c0dd29631f16a51112e03a34a0e0178", func := "loop.example/g01076/laws.FnExactHeadPresentation", spec := "fnExactHeadPresentation", unfollowed := true, recurses := true, apart := false }
def FnExactHeadPresentationSaid : Prop := fnExactHeadPresentationRow.holds Try.pinned (OpenSpec.ofChange fnExactHeadPresentationSpec)

/-- ITS FALSE NEIGHBOUR: 'it returns false'. Refute it at one input. -/
def fnExactHeadPresentationWrong : ChangeSpec := { name := "fnExactHeadPresentation", fn := fun _ => fun
  | [d1, d2] => { results := [.lit (.bool false)], args := [d1, d2] }
  | _ => none }
def FnExactHeadPresentationWrongFalsely : Prop := fnExactHeadPresentationRow.holds Try.pinned (OpenSpec.ofChange fnExactHeadPresentationWrong)

/-- 'laws.FnExactIsNormalWord': WHATEVER THE INPUT: true; the input reads as it did. -/
def fnExactIsNormalWordSpec : ChangeSpec := { name := "fnExactIsNormalWord", fn := fun _ => fun
  | [d1, d2] => { results := [.lit (.bool true)], args := [d1, d2] }
  | _ => none }
def fnExactIsNormalWordRow : OpenClaim := { program := "ytahmhdpgdhfjnaa", sum := "8e8e701363ca5f869f36656a369941a52c0dd29631f16a51112e03a34a0e0178", func := "loop.example/g01076/laws.FnExactIsNormalWord", spec := "fnExactIsNormalWord", unfollowed := true, recurses := true, apart := false }
def FnExactIsNormalWordSaid : Prop := fnExactIsNormalWordRow.holds Try.pinned (OpenSpec.ofChange fnExactIsNormalWordSpec)

/-- ITS FALSE NEIGHBOUR: 'it returns false'. Refute it at one input. -/
def fnExactIsNormalWordWrong : ChangeSpec := { name := "fnExactIsNormalWord", fn := fun _ => fun
  | [d1, d2] => { results := [.lit (.bool false)], args := [d1, d2] }
  | _ => none }
def FnExactIsNormalWordWrongFalsely : Prop := fnExactIsNormalWordRow.holds Try.pinned (OpenSpec.ofChange fnExactIsNormalWordWrong)

/-- 'laws.FnExactCollectStep': WHATEVER THE INPUT: true; the input reads as it did. -/
def fnExactCollectStepSpec : ChangeSpec := { name := "fnExactCollectStep", fn := fun _ => fun
  | [d1, d2] => { results := [.lit (.bool true)], args := [d1, d2] }
  | _ => none }
def fnExactCollectStepRow : OpenClaim := { program := "ytahmhdpgdhfjnaa", sum := "8e8e701363ca5f869f36656a369941a52c0dd29631f16a51112e03a34a0e0178", func := "loop.example/g01076/laws.FnExactCollectStep", spec := "fnExactCollectStep", unfollowed := true, recurses := true, apart := false }
def FnExactCollectStepSaid : Prop := fnExactCollectStepRow.holds Try.pinned (OpenSpec.ofChange fnExactCollectStepSpec)

/-- ITS FALSE NEIGHBOUR: 'it returns false'. Refute it at one input. -/
def fnExactCollectStepWrong : ChangeSpec := { name := "fnExactCollectStep", fn := fun _ => fun
  | [d1, d2] => { results := [.lit (.bool false)], args := [d1, d2] }
  | _ => none }
def FnExactCollectStepWrongFalsely : Prop := fnExactCollectStepRow.holds Try.pinned (OpenSpec.ofChange fnExactCollectStepWrong)

/-- 'laws.FnExactCollectWord': WHATEVER THE INPUT: true; the input reads as it did. -/
def fnExactCollectWordSpec : ChangeSpec := { name := "fnExactCollectWord", fn := fun _ => fun
  | [d1, d2, d3] => { results := [.lit (.bool true)], args := [d1, d2, d3] }
  | _ => none }
def fnExactCollectWordRow : OpenClaim := { program := "ytahmhdpgdhfjnaa", sum := "8e8e701363ca5f869f36656a369941a52c0dd29631f16a51112e03a34a0e0178", func := "loop.example/g01076/laws.FnExactCollectWord", spec := "fnExactCollectWord", unfollowed := true, recurses := true, apart := false }
def FnExactCollectWordSaid : Prop := fnExactCollectWordRow.holds Try.pinned (OpenSpec.ofChange fnExactCollectWordSpec)

/-- ITS FALSE NEIGHBOUR: 'it returns false'. Refute it at one input. -/
def fnExactCollectWordWrong : ChangeSpec := { name := "fnExactCollectWord", fn := fun _ => fun
  | [d1, d2, d3] => { results := [.lit (.bool false)], args := [d1, d2, d3] }
  | _ => none }
def FnExactCollectWordWrongFalsely : Prop := fnExactCollectWordRow.holds Try.pinned (OpenSpec.ofChange fnExactCollectWordWrong)

/-- 'laws.FnExactCollectProduct': WHATEVER THE INPUT: true; the input reads as it did. -/
def fnExactCollectProductSpec : ChangeSpec := { name := "fnExactCollectProduct", fn := fun _ => fun
  | [d1, d2, d3, d4] => { results := [.lit (.bool true)], args := [d1, d2, d3, d4] }
  | _ => none }
def fnExactCollectProductRow : OpenClaim := { program := "ytahmhdpgdhfjnaa", sum := "8e8e701363ca5f869f36656a369941a52c0dd29631f16a51112e03a34a0e0178", func := "loop.example/g01076/laws.FnExactCollectProduct", spec := "fnExactCollectProduct", apart := false }
def FnExactCollectProductSaid : Prop := fnExactCollectProductRow.holds Try.pinned (OpenSpec.ofChange fnExactCollectProductSpec)

/-- ITS FALSE NEIGHBOUR: 'it returns false'. Refute it at one input. -/
def fnExactCollectProductWrong : ChangeSpec := { name := "fnExactCollectProduct", fn := fun _ => fun
  | [d1, d2, d3, d4] => { results := [.lit (.bool false)], args := [d1, d2, d3, d4] }
  | _ => none }
def FnExactCollectProductWrongFalsely : Prop := fnExactCollectProductRow.holds Try.pinned (OpenSpec.ofChange fnExactCollectProductWrong)

/-- 'laws.FnExactCriticalPairs': WHATEVER THE INPUT: true; the input reads as it did. -/
def fnExactCriticalPairsSpec : ChangeSpec := { name := "fnExactCriticalPairs", fn := fun _ => fun
  | [d] => { results := [.lit (.bool true)], args := [d] }
  | _ => none }
def fnExactCriticalPairsRow : OpenClaim := { program := "ytahmhdpgdhfjnaa", sum := "8e8e701363ca5f869f36656a369941a52c0dd29631f16a51112e03a34a0e0178", func := "loop.example/g01076/laws.FnExactCriticalPairs", spec := "fnExactCriticalPairs", apart := false }
def FnExactCriticalPairsSaid : Prop := fnExactCriticalPairsRow.holds Try.pinned (OpenSpec.ofChange fnExactCriticalPairsSpec)

/-- ITS FALSE NEIGHBOUR: 'it returns false'. Refute it at one input. -/
def fnExactCriticalPairsWrong : ChangeSpec := { name := "fnExactCriticalPairs", fn := fun _ => fun
  | [d] => { results := [.lit (.bool false)], args := [d] }
  | _ => none }
def FnExactCriticalPairsWrongFalsely : Prop := fnExactCriticalPairsRow.holds Try.pinned (OpenSpec.ofChange fnExactCriticalPairsWrong)

/-- 'laws.FnExactCriticalPairsJoin': WHATEVER THE INPUT: true; the input reads as it did. -/
def fnExactCriticalPairsJoinSpec : ChangeSpec := { name := "fnExactCriticalPairsJoin", fn := fun _ => fun
  | [d1, d2] => { results := [.lit (.bool true)], args := [d1, d2] }
  | _ => none }
def fnExactCriticalPairsJoinRow : OpenClaim := { program := "ytahmhdpgdhfjnaa", sum := "8e8e701363ca5f869f36656a369941a52c0dd29631f16a51112e03a34a0e0178", func := "loop.example/g01076/laws.FnExactCriticalPairsJoin", spec := "fnExactCriticalPairsJoin", apart := false }
def FnExactCriticalPairsJoinSaid : Prop := fnExactCriticalPairsJoinRow.holds Try.pinned (OpenSpec.ofChange fnExactCriticalPairsJoinSpec)

/-- ITS FALSE NEIGHBOUR: 'it returns false'. Refute it at one input. -/
def fnExactCriticalPairsJoinWrong : ChangeSpec := { name := "fnExactCriticalPairsJoin", fn := fun _ => fun
  | [d1, d2] => { results := [.lit (.bool false)], args := [d1, d2] }
  | _ => none }
def FnExactCriticalPairsJoinWrongFalsely : Prop := fnExactCriticalPairsJoinRow.holds Try.pinned (OpenSpec.ofChange fnExactCriticalPairsJoinWrong)

/- THE SECOND FORM. 'bulk': how many values and letters a reading holds, each counted each time it is reached (what is shared counts as often as it is met; a slice's spare places count too). A statement '..UptoSaid' is the law's where the arguments, and the package variables that the reading takes, are together of bulk at most 1048576: NARROWER than '..Said'. Prove '..Said' where nothing that the law and all that it calls make is longer than what came in: it says more and counts as full. Else prove '..UptoSaid'. A law counts once. -/
mutual
def uptoBulk {H : Type} : DataW H → Nat
  | .lit (.string bytes) => bytes.length + 1
  | .lit _ => 1
  | .nil => 1
  | .ptr d => uptoBulk d + 1
  | .slice elems spare => uptoBulkAll elems + uptoBulkAll spare + 1
  | .agg parts => uptoBulkAll parts + 1
  | .iface _ d => uptoBulk d + 1
  | .map entries => uptoBulkEntries entries + 1
  | .held _ => 1
def uptoBulkAll {H : Type} : List (DataW H) → Nat
  | [] => 0
  | d :: r => uptoBulk d + uptoBulkAll r
def uptoBulkEntries {H : Type} : List (Lit × DataW H) → Nat
  | [] => 0
  | x :: r => uptoBulkEntry x + uptoBulkEntries r
def uptoBulkEntry {H : Type} : Lit × DataW H → Nat
  | (.string bytes, d) => bytes.length + uptoBulk d + 1
  | (_, d) => uptoBulk d + 1
 end
def uptoSmall : (H : Type) → List (DataW H) → Bool := fun _ ds => decide (uptoBulkAll ds ≤ 1048576)
def OpenSpec.upto (s : _root_.Go.ChangeSpec) : _root_.Go.OpenSpec := { _root_.Go.OpenSpec.ofChange s with cond := some uptoSmall }

/-- 'laws.FnFaults', WHERE WHAT IT READS IS OF BULK AT MOST 1048576: true; the input reads as it did. -/
def fnFaultsUptoRow : OpenClaim := { program := "ytahmhdpgdhfjnaa", sum := "8e8e701363ca5f869f36656a369941a52c0dd29631f16a51112e03a34a0e0178", func := "loop.example/g01076/laws.FnFaults", spec := "fnFaults", unfollowed := true, recurses := true, apart := false, narrowed := true }
def FnFaultsUptoSaid : Prop := fnFaultsUptoRow.holds Try.pinned (OpenSpec.upto fnFaultsSpec)

/-- 'laws.FnCriticalPairs', WHERE WHAT IT READS IS OF BULK AT MOST 1048576: true; the input reads as it did. -/
def fnCriticalPairsUptoRow : OpenClaim := { program := "ytahmhdpgdhfjnaa", sum := "8e8e701363ca5f869f36656a369941a52c0dd29631f16a51112e03a34a0e0178", func := "loop.example/g01076/laws.FnCriticalPairs", spec := "fnCriticalPairs", unfollowed := true, recurses := true, apart := false, narrowed := true }
def FnCriticalPairsUptoSaid : Prop := fnCriticalPairsUptoRow.holds Try.pinned (OpenSpec.upto fnCriticalPairsSpec)

/-- 'laws.FnExactTailPresentation', WHERE WHAT IT READS IS OF BULK AT MOST 1048576: true; the input reads as it did. -/
def fnExactTailPresentationUptoRow : OpenClaim := { program := "ytahmhdpgdhfjnaa", sum := "8e8e701363ca5f869f36656a369941a52c0dd29631f16a51112e03a34a0e0178", func := "loop.example/g01076/laws.FnExactTailPresentation", spec := "fnExactTailPresentation", apart := false, narrowed := true }
def FnExactTailPresentationUptoSaid : Prop := fnExactTailPresentationUptoRow.holds Try.pinned (OpenSpec.upto fnExactTailPresentationSpec)

/-- 'laws.FnExactIsNormalTail', WHERE WHAT IT READS IS OF BULK AT MOST 1048576: true; the input reads as it did. -/
def fnExactIsNormalTailUptoRow : OpenClaim := { program := "ytahmhdpgdhfjnaa", sum := "8e8e701363ca5f869f36656a369941a52c0dd29631f16a51112e03a34a0e0178", func := "loop.example/g01076/laws.FnExactIsNormalTail", spec := "fnExactIsNormalTail", unfollowed := true, recurses := true, apart := false, narrowed := true }
def FnExactIsNormalTailUptoSaid : Prop := fnExactIsNormalTailUptoRow.holds Try.pinned (OpenSpec.upto fnExactIsNormalTailSpec)

/-- 'laws.FnExactHeadPresentation', WHERE WHAT IT READS IS OF BULK AT MOST 1048576: true; the input reads as it did. -/
def fnExactHeadPresentationUptoRow : OpenClaim := { program := "ytahmhdpgdhfjnaa", sum := "8e8e701363ca5f869f36656a369941a52c0dd29631f16a51112e03a34a0e0178", func := "loop.example/g01076/laws.FnExactHeadPresentation", spec := "fnExactHeadPresentation", unfollowed := true, recurses := true, apart := false, narrowed := true }
def FnExactHeadPresentationUptoSaid : Prop := fnExactHeadPresentationUptoRow.holds Try.pinned (OpenSpec.upto fnExactHeadPresentationSpec)

/-- 'laws.FnExactIsNormalWord', WHERE WHAT IT READS IS OF BULK AT MOST 1048576: true; the input reads as it did. -/
def fnExactIsNormalWordUptoRow : OpenClaim := { program := "ytahmhdpgdhfjnaa", sum := "8e8e701363ca5f869f36656a369941a52c0dd29631f16a51112e03a34a0e0178", func := "loop.example/g01076/laws.FnExactIsNormalWord", spec := "fnExactIsNormalWord", unfollowed := true, recurses := true, apart := false, narrowed := true }
def FnExactIsNormalWordUptoSaid : Prop := fnExactIsNormalWordUptoRow.holds Try.pinned (OpenSpec.upto fnExactIsNormalWordSpec)

/-- 'laws.FnExactCollectStep', WHERE WHAT IT READS IS OF BULK AT MOST 1048576: true; the input reads as it did. -/
def fnExactCollectStepUptoRow : OpenClaim := { program := "ytahmhdpgdhfjnaa", sum := "8e8e701363ca5f869f36656a369941a52c0dd29631f16a51112e03a34a0e0178", func := "loop.example/g01076/laws.FnExactCollectStep", spec := "fnExactCollectStep", unfollowed := true, recurses := true, apart := false, narrowed := true }
def FnExactCollectStepUptoSaid : Prop := fnExactCollectStepUptoRow.holds Try.pinned (OpenSpec.upto fnExactCollectStepSpec)

/-- 'laws.FnExactCollectWord', WHERE WHAT IT READS IS OF BULK AT MOST 1048576: true; the input reads as it did. -/
def fnExactCollectWordUptoRow : OpenClaim := { program := "ytahmhdpgdhfjnaa", sum := "8e8e701363ca5f869f36656a369941a52c0dd29631f16a51112e03a34a0e0178", func := "loop.example/g01076/laws.FnExactCollectWord", spec := "fnExactCollectWord", unfollowed := true, recurses := true, apart := false, narrowed := true }
def FnExactCollectWordUptoSaid : Prop := fnExactCollectWordUptoRow.holds Try.pinned (OpenSpec.upto fnExactCollectWordSpec)

/-- 'laws.FnExactCollectProduct', WHERE WHAT IT READS IS OF BULK AT MOST 1048576: true; the input reads as it did. -/
def fnExactCollectProductUptoRow : OpenClaim := { program := "ytahmhdpgdhfjnaa", sum := "8e8e701363ca5f869f36656a369941a52c0dd29631f16a51112e03a34a0e0178", func := "loop.example/g01076/laws.FnExactCollectProduct", spec := "fnExactCollectProduct", apart := false, narrowed := true }
def FnExactCollectProductUptoSaid : Prop := fnExactCollectProductUptoRow.holds Try.pinned (OpenSpec.upto fnExactCollectProductSpec)

/-- 'laws.FnExactCriticalPairs', WHERE WHAT IT READS IS OF BULK AT MOST 1048576: true; the input reads as it did. -/
def fnExactCriticalPairsUptoRow : OpenClaim := { program := "ytahmhdpgdhfjnaa", sum := "8e8e701363ca5f869f36656a369941a52c0dd29631f16a51112e03a34a0e0178", func := "loop.example/g01076/laws.FnExactCriticalPairs", spec := "fnExactCriticalPairs", apart := false, narrowed := true }
def FnExactCriticalPairsUptoSaid : Prop := fnExactCriticalPairsUptoRow.holds Try.pinned (OpenSpec.upto fnExactCriticalPairsSpec)

/-- 'laws.FnExactCriticalPairsJoin', WHERE WHAT IT READS IS OF BULK AT MOST 1048576: true; the input reads as it did. -/
def fnExactCriticalPairsJoinUptoRow : OpenClaim := { program := "ytahmhdpgdhfjnaa", sum := "8e8e701363ca5f869f36656a369941a52c0dd29631f16a51112e03a34a0e0178", func := "loop.example/g01076/laws.FnExactCriticalPairsJoin", spec := "fnExactCriticalPairsJoin", apart := false, narrowed := true }
def FnExactCriticalPairsJoinUptoSaid : Prop := fnExactCriticalPairsJoinUptoRow.holds Try.pinned (OpenSpec.upto fnExactCriticalPairsJoinSpec)

end Rows
end Go.Proofs.Ytahmhdpgdhfjnaa
