/-
  No cell of these rows narrows 'for every input' (looked for: loops, veiled, ifaces, maps, wideKeys, modest, calm, conditions, laid).
  DERIVED. THE GIVEN ROWS OF THIS SEAT. 8 by the template 'for every input the law returns true; each argument reads behind the call as it read before'; 0 by the template 'total and deterministic' (their statements: YtncpngmplddbkaaTotals.lean).
  GIVEN WITH THE SEED: the statements are not yours to turn. If you find one false, say at which input.
  Laid BY PROGRAM, IN A SANDBOX (cutbox-rows.mjs): the forced cells as the released guide's own fill.sh prints them over the translation 7cf67078566f5e99… (all of the seat's roots in one cut). By AI agents, Wed Nov 11 2026. No macro, syntax, notation, axiom, sorry.
-/
import Derived.Test.YtncpngmplddbkaaChecked
import GoSem.Claim
import GoSem.ClaimJoined
import GoSem.ClaimMapViews
import Derived.JoinedTies
import Derived.KernelRfl
namespace Go.Proofs.Ytncpngmplddbkaa
/- THE CELL 'sum', in the pinned program and in every row, IS THE sha256 OF THE DUMP (.gsa) THAT YtncpngmplddbkaaProg.lean LOADS. Nothing in Lean hashes anything: it is a label: what it is worth is what the hold of that sum in a sandbox is worth. -/
noncomputable def Try.pinned : Pinned := { name := "ytncpngmplddbkaa", sum := "7cf67078566f5e99d80201abdca9c46462055c498e0b58f253a000954714b247", checked := Try.checked }
namespace Rows
def none {H : Type} : Left H := { results := [], args := [] }

/-- 'laws.FnExactIsPresentation': WHATEVER THE INPUT: true; the input reads as it did. -/
def fnExactIsPresentationSpec : ChangeSpec := { name := "fnExactIsPresentation", fn := fun _ => fun
  | [d] => { results := [.lit (.bool true)], args := [d] }
  | _ => none }
def fnExactIsPresentationRow : OpenClaim := { program := "ytncpngmplddbkaa", sum := "7cf67078566f5e99d80201abdca9c46462055c498e0b58f253a000954714b247", func := "loop.example/g01076/laws.FnExactIsPresentation", spec := "fnExactIsPresentation", apart := false }
def FnExactIsPresentationSaid : Prop := fnExactIsPresentationRow.holds Try.pinned (OpenSpec.ofChange fnExactIsPresentationSpec)

/-- ITS FALSE NEIGHBOUR: 'it returns false'. Refute it at one input. -/
def fnExactIsPresentationWrong : ChangeSpec := { name := "fnExactIsPresentation", fn := fun _ => fun
  | [d] => { results := [.lit (.bool false)], args := [d] }
  | _ => none }
def FnExactIsPresentationWrongFalsely : Prop := fnExactIsPresentationRow.holds Try.pinned (OpenSpec.ofChange fnExactIsPresentationWrong)

/-- 'laws.FnExactIsExponentVector': WHATEVER THE INPUT: true; the input reads as it did. -/
def fnExactIsExponentVectorSpec : ChangeSpec := { name := "fnExactIsExponentVector", fn := fun _ => fun
  | [d1, d2] => { results := [.lit (.bool true)], args := [d1, d2] }
  | _ => none }
def fnExactIsExponentVectorRow : OpenClaim := { program := "ytncpngmplddbkaa", sum := "7cf67078566f5e99d80201abdca9c46462055c498e0b58f253a000954714b247", func := "loop.example/g01076/laws.FnExactIsExponentVector", spec := "fnExactIsExponentVector", apart := false }
def FnExactIsExponentVectorSaid : Prop := fnExactIsExponentVectorRow.holds Try.pinned (OpenSpec.ofChange fnExactIsExponentVectorSpec)

/-- ITS FALSE NEIGHBOUR: 'it returns false'. Refute it at one input. -/
def fnExactIsExponentVectorWrong : ChangeSpec := { name := "fnExactIsExponentVector", fn := fun _ => fun
  | [d1, d2] => { results := [.lit (.bool false)], args := [d1, d2] }
  | _ => none }
def FnExactIsExponentVectorWrongFalsely : Prop := fnExactIsExponentVectorRow.holds Try.pinned (OpenSpec.ofChange fnExactIsExponentVectorWrong)

/-- 'laws.FnExactPresentationOrder': WHATEVER THE INPUT: true; the input reads as it did. -/
def fnExactPresentationOrderSpec : ChangeSpec := { name := "fnExactPresentationOrder", fn := fun _ => fun
  | [d] => { results := [.lit (.bool true)], args := [d] }
  | _ => none }
def fnExactPresentationOrderRow : OpenClaim := { program := "ytncpngmplddbkaa", sum := "7cf67078566f5e99d80201abdca9c46462055c498e0b58f253a000954714b247", func := "loop.example/g01076/laws.FnExactPresentationOrder", spec := "fnExactPresentationOrder", apart := false }
def FnExactPresentationOrderSaid : Prop := fnExactPresentationOrderRow.holds Try.pinned (OpenSpec.ofChange fnExactPresentationOrderSpec)

/-- ITS FALSE NEIGHBOUR: 'it returns false'. Refute it at one input. -/
def fnExactPresentationOrderWrong : ChangeSpec := { name := "fnExactPresentationOrder", fn := fun _ => fun
  | [d] => { results := [.lit (.bool false)], args := [d] }
  | _ => none }
def FnExactPresentationOrderWrongFalsely : Prop := fnExactPresentationOrderRow.holds Try.pinned (OpenSpec.ofChange fnExactPresentationOrderWrong)

/-- 'laws.FnExactNormalWord': WHATEVER THE INPUT: true; the input reads as it did. -/
def fnExactNormalWordSpec : ChangeSpec := { name := "fnExactNormalWord", fn := fun _ => fun
  | [d1, d2] => { results := [.lit (.bool true)], args := [d1, d2] }
  | _ => none }
def fnExactNormalWordRow : OpenClaim := { program := "ytncpngmplddbkaa", sum := "7cf67078566f5e99d80201abdca9c46462055c498e0b58f253a000954714b247", func := "loop.example/g01076/laws.FnExactNormalWord", spec := "fnExactNormalWord", apart := false }
def FnExactNormalWordSaid : Prop := fnExactNormalWordRow.holds Try.pinned (OpenSpec.ofChange fnExactNormalWordSpec)

/-- ITS FALSE NEIGHBOUR: 'it returns false'. Refute it at one input. -/
def fnExactNormalWordWrong : ChangeSpec := { name := "fnExactNormalWord", fn := fun _ => fun
  | [d1, d2] => { results := [.lit (.bool false)], args := [d1, d2] }
  | _ => none }
def FnExactNormalWordWrongFalsely : Prop := fnExactNormalWordRow.holds Try.pinned (OpenSpec.ofChange fnExactNormalWordWrong)

/-- 'laws.FnExactPresentationRelators': WHATEVER THE INPUT: true; the input reads as it did. -/
def fnExactPresentationRelatorsSpec : ChangeSpec := { name := "fnExactPresentationRelators", fn := fun _ => fun
  | [d] => { results := [.lit (.bool true)], args := [d] }
  | _ => none }
def fnExactPresentationRelatorsRow : OpenClaim := { program := "ytncpngmplddbkaa", sum := "7cf67078566f5e99d80201abdca9c46462055c498e0b58f253a000954714b247", func := "loop.example/g01076/laws.FnExactPresentationRelators", spec := "fnExactPresentationRelators", unfollowed := true, recurses := true, apart := false }
def FnExactPresentationRelatorsSaid : Prop := fnExactPresentationRelatorsRow.holds Try.pinned (OpenSpec.ofChange fnExactPresentationRelatorsSpec)

/-- ITS FALSE NEIGHBOUR: 'it returns false'. Refute it at one input. -/
def fnExactPresentationRelatorsWrong : ChangeSpec := { name := "fnExactPresentationRelators", fn := fun _ => fun
  | [d] => { results := [.lit (.bool false)], args := [d] }
  | _ => none }
def FnExactPresentationRelatorsWrongFalsely : Prop := fnExactPresentationRelatorsRow.holds Try.pinned (OpenSpec.ofChange fnExactPresentationRelatorsWrong)

/-- 'laws.FnExactAbelianPresentation': WHATEVER THE INPUT: true; the input reads as it did. -/
def fnExactAbelianPresentationSpec : ChangeSpec := { name := "fnExactAbelianPresentation", fn := fun _ => fun
  | [d] => { results := [.lit (.bool true)], args := [d] }
  | _ => none }
def fnExactAbelianPresentationRow : OpenClaim := { program := "ytncpngmplddbkaa", sum := "7cf67078566f5e99d80201abdca9c46462055c498e0b58f253a000954714b247", func := "loop.example/g01076/laws.FnExactAbelianPresentation", spec := "fnExactAbelianPresentation", apart := false }
def FnExactAbelianPresentationSaid : Prop := fnExactAbelianPresentationRow.holds Try.pinned (OpenSpec.ofChange fnExactAbelianPresentationSpec)

/-- ITS FALSE NEIGHBOUR: 'it returns false'. Refute it at one input. -/
def fnExactAbelianPresentationWrong : ChangeSpec := { name := "fnExactAbelianPresentation", fn := fun _ => fun
  | [d] => { results := [.lit (.bool false)], args := [d] }
  | _ => none }
def FnExactAbelianPresentationWrongFalsely : Prop := fnExactAbelianPresentationRow.holds Try.pinned (OpenSpec.ofChange fnExactAbelianPresentationWrong)

/-- 'laws.FnExactCyclicPresentation': WHATEVER THE INPUT: true; the input reads as it did. -/
def fnExactCyclicPresentationSpec : ChangeSpec := { name := "fnExactCyclicPresentation", fn := fun _ => fun
  | [d] => { results := [.lit (.bool true)], args := [d] }
  | _ => none }
def fnExactCyclicPresentationRow : OpenClaim := { program := "ytncpngmplddbkaa", sum := "7cf67078566f5e99d80201abdca9c46462055c498e0b58f253a000954714b247", func := "loop.example/g01076/laws.FnExactCyclicPresentation", spec := "fnExactCyclicPresentation", apart := false }
def FnExactCyclicPresentationSaid : Prop := fnExactCyclicPresentationRow.holds Try.pinned (OpenSpec.ofChange fnExactCyclicPresentationSpec)

/-- ITS FALSE NEIGHBOUR: 'it returns false'. Refute it at one input. -/
def fnExactCyclicPresentationWrong : ChangeSpec := { name := "fnExactCyclicPresentation", fn := fun _ => fun
  | [d] => { results := [.lit (.bool false)], args := [d] }
  | _ => none }
def FnExactCyclicPresentationWrongFalsely : Prop := fnExactCyclicPresentationRow.holds Try.pinned (OpenSpec.ofChange fnExactCyclicPresentationWrong)

/-- 'laws.FnExactDirectProduct': WHATEVER THE INPUT: true; the input reads as it did. -/
def fnExactDirectProductSpec : ChangeSpec := { name := "fnExactDirectProduct", fn := fun _ => fun
  | [d1, d2] => { results := [.lit (.bool true)], args := [d1, d2] }
  | _ => none }
def fnExactDirectProductRow : OpenClaim := { program := "ytncpngmplddbkaa", sum := "7cf67078566f5e99d80201abdca9c46462055c498e0b58f253a000954714b247", func := "loop.example/g01076/laws.FnExactDirectProduct", spec := "fnExactDirectProduct", apart := false }
def FnExactDirectProductSaid : Prop := fnExactDirectProductRow.holds Try.pinned (OpenSpec.ofChange fnExactDirectProductSpec)

/-- ITS FALSE NEIGHBOUR: 'it returns false'. Refute it at one input. -/
def fnExactDirectProductWrong : ChangeSpec := { name := "fnExactDirectProduct", fn := fun _ => fun
  | [d1, d2] => { results := [.lit (.bool false)], args := [d1, d2] }
  | _ => none }
def FnExactDirectProductWrongFalsely : Prop := fnExactDirectProductRow.holds Try.pinned (OpenSpec.ofChange fnExactDirectProductWrong)

/- THE SECOND FORM. 'bulk': how many values and letters a reading holds, each counted each time it is reached (what is shared counts as often as it is met; a slice's spare places count too). A statement '..UptoSaid' is the law's where the arguments, and the package variables that the reading takes, are together of bulk at most 1048576: NARROWER than '..Said'. Prove '..Said' where nothing that the law and all that it calls make is longer than what came in: it says more and counts as full. Else prove '..UptoSaid'. A law counts once. -/
mutual
def uptoBulk {H : Type} : DataW H → Nat
  | .lit (.string bytes) => bytes.length + 1
  | .lit _ => 1
  | .nil => 1
  | .ptr d => uptoBulk d + 1
  | .slice elems spare => uptoBulkAll elems + uptoBulkAll spare + 1
  | .agg parts => uptoBulkAll parts + 1
  | .iface _ d => uptoBulk d + 1
  | .map entries => uptoBulkEntries entries + 1
  | .held _ => 1
def uptoBulkAll {H : Type} : List (DataW H) → Nat
  | [] => 0
  | d :: r => uptoBulk d + uptoBulkAll r
def uptoBulkEntries {H : Type} : List (Lit × DataW H) → Nat
  | [] => 0
  | x :: r => uptoBulkEntry x + uptoBulkEntries r
def uptoBulkEntry {H : Type} : Lit × DataW H → Nat
  | (.string bytes, d) => bytes.length + uptoBulk d + 1
  | (_, d) => uptoBulk d + 1
 end
def uptoSmall : (H : Type) → List (DataW H) → Bool := fun _ ds => decide (uptoBulkAll ds ≤ 1048576)
def OpenSpec.upto (s : _root_.Go.ChangeSpec) : _root_.Go.OpenSpec := { _root_.Go.OpenSpec.ofChange s with cond := some uptoSmall }

/-- 'laws.FnExactIsPresentation', WHERE WHAT IT READS IS OF BULK AT MOST 1048576: true; the input reads as it did. -/
def fnExactIsPresentationUptoRow : OpenClaim := { program := "ytncpngmplddbkaa", sum := "7cf67078566f5e99d80201abdca9c46462055c498e0b58f253a000954714b247", func := "loop.example/g01076/laws.FnExactIsPresentation", spec := "fnExactIsPresentation", apart := false, narrowed := true }
def FnExactIsPresentationUptoSaid : Prop := fnExactIsPresentationUptoRow.holds Try.pinned (OpenSpec.upto fnExactIsPresentationSpec)

/-- 'laws.FnExactIsExponentVector', WHERE WHAT IT READS IS OF BULK AT MOST 1048576: true; the input reads as it did. -/
def fnExactIsExponentVectorUptoRow : OpenClaim := { program := "ytncpngmplddbkaa", sum := "7cf67078566f5e99d80201abdca9c46462055c498e0b58f253a000954714b247", func := "loop.example/g01076/laws.FnExactIsExponentVector", spec := "fnExactIsExponentVector", apart := false, narrowed := true }
def FnExactIsExponentVectorUptoSaid : Prop := fnExactIsExponentVectorUptoRow.holds Try.pinned (OpenSpec.upto fnExactIsExponentVectorSpec)

/-- 'laws.FnExactPresentationOrder', WHERE WHAT IT READS IS OF BULK AT MOST 1048576: true; the input reads as it did. -/
def fnExactPresentationOrderUptoRow : OpenClaim := { program := "ytncpngmplddbkaa", sum := "7cf67078566f5e99d80201abdca9c46462055c498e0b58f253a000954714b247", func := "loop.example/g01076/laws.FnExactPresentationOrder", spec := "fnExactPresentationOrder", apart := false, narrowed := true }
def FnExactPresentationOrderUptoSaid : Prop := fnExactPresentationOrderUptoRow.holds Try.pinned (OpenSpec.upto fnExactPresentationOrderSpec)

/-- 'laws.FnExactNormalWord', WHERE WHAT IT READS IS OF BULK AT MOST 1048576: true; the input reads as it did. -/
def fnExactNormalWordUptoRow : OpenClaim := { program := "ytncpngmplddbkaa", sum := "7cf67078566f5e99d80201abdca9c46462055c498e0b58f253a000954714b247", func := "loop.example/g01076/laws.FnExactNormalWord", spec := "fnExactNormalWord", apart := false, narrowed := true }
def FnExactNormalWordUptoSaid : Prop := fnExactNormalWordUptoRow.holds Try.pinned (OpenSpec.upto fnExactNormalWordSpec)

/-- 'laws.FnExactPresentationRelators', WHERE WHAT IT READS IS OF BULK AT MOST 1048576: true; the input reads as it did. -/
def fnExactPresentationRelatorsUptoRow : OpenClaim := { program := "ytncpngmplddbkaa", sum := "7cf67078566f5e99d80201abdca9c46462055c498e0b58f253a000954714b247", func := "loop.example/g01076/laws.FnExactPresentationRelators", spec := "fnExactPresentationRelators", unfollowed := true, recurses := true, apart := false, narrowed := true }
def FnExactPresentationRelatorsUptoSaid : Prop := fnExactPresentationRelatorsUptoRow.holds Try.pinned (OpenSpec.upto fnExactPresentationRelatorsSpec)

/-- 'laws.FnExactAbelianPresentation', WHERE WHAT IT READS IS OF BULK AT MOST 1048576: true; the input reads as it did. -/
def fnExactAbelianPresentationUptoRow : OpenClaim := { program := "ytncpngmplddbkaa", sum := "7cf67078566f5e99d80201abdca9c46462055c498e0b58f253a000954714b247", func := "loop.example/g01076/laws.FnExactAbelianPresentation", spec := "fnExactAbelianPresentation", apart := false, narrowed := true }
def FnExactAbelianPresentationUptoSaid : Prop := fnExactAbelianPresentationUptoRow.holds Try.pinned (OpenSpec.upto fnExactAbelianPresentationSpec)

/-- 'laws.FnExactCyclicPresentation', WHERE WHAT IT READS IS OF BULK AT MOST 1048576: true; the input reads as it did. -/
def fnExactCyclicPresentationUptoRow : OpenClaim := { program := "ytncpngmplddbkaa", sum := "7cf67078566f5e99d80201abdca9c46462055c498e0b58f253a000954714b247", func := "loop.example/g01076/laws.FnExactCyclicPresentation", spec := "fnExactCyclicPresentation", apart := false, narrowed := true }
def FnExactCyclicPresentationUptoSaid : Prop := fnExactCyclicPresentationUptoRow.holds Try.pinned (OpenSpec.upto fnExactCyclicPresentationSpec)

/-- 'laws.FnExactDirectProduct', WHERE WHAT IT READS IS OF BULK AT MOST 1048576: true; the input reads as it did. -/
def fnExactDirectProductUptoRow : OpenClaim := { program := "ytncpngmplddbkaa", sum := "7cf67078566f5e99d80201abdca9c46462055c498e0b58f253a000954714b247", func := "loop.example/g01076/laws.FnExactDirectProduct", spec := "fnExactDirectProduct", apart := false, narrowed := true }
def FnExactDirectProductUptoSaid : Prop := fnExactDirectProductUptoRow.holds Try.pinned (OpenSpec.upto fnExactDirectProductSpec)

end Rows
end Go.Proofs.Ytncpngmplddbkaa
