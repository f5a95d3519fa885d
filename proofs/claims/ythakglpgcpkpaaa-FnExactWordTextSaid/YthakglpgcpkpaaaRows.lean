/-
  No cell of these rows narrows 'for every input' (looked for: loops, veiled, ifaces, maps, wideKeys, modest, calm, conditions, laid).
  DERIVED. THE GIVEN ROWS OF THIS SEAT. 12 by the template 'for every input the law returns true; each argument reads behind the call as it read before'; 0 by the template 'total and deterministic' (their statements: YthakglpgcpkpaaaTotals.lean).
  GIVEN WITH THE SEED: the statements are not yours to turn. If you find one false, say at which input.
  Laid BY PROGRAM, IN A SANDBOX (cutbox-rows.mjs): the forced cells as the released guide's own fill.sh prints them over the translation aaf805398e0c2cc2… (all of the seat's roots in one cut). By AI agents, Wed Nov 11 2026. No macro, syntax, notation, axiom, sorry.
-/
import Derived.Test.YthakglpgcpkpaaaChecked
import GoSem.Claim
import GoSem.ClaimJoined
import GoSem.ClaimMapViews
import Derived.JoinedTies
import Derived.KernelRfl
namespace Go.Proofs.Ythakglpgcpkpaaa
/- THE CELL 'sum', in the pinned program and in every row, IS THE sha256 OF THE DUMP (.gsa) THAT YthakglpgcpkpaaaProg.lean LOADS. Nothing in Lean hashes anything: it is a label: what it is worth is what the hold of that sum in a sandbox is worth. -/
noncomputable def Try.pinned : Pinned := { name := "ythakglpgcpkpaaa", sum := "aaf805398e0c2cc29b7209db45c66b2197d128a90fdc0cf138b657b108e3d3cc", checked := Try.checked }
namespace Rows
def none {H : Type} : Left H := { results := [], args := [] }

/-- 'laws.FnWordGroup': WHATEVER THE INPUT: true; the input reads as it did. -/
def fnWordGroupSpec : ChangeSpec := { name := "fnWordGroup", fn := fun _ => fun
  | [d] => { results := [.lit (.bool true)], args := [d] }
  | _ => none }
def fnWordGroupRow : OpenClaim := { program := "ythakglpgcpkpaaa", sum := "aaf805398e0c2cc29b7209db45c66b2197d128a90fdc0cf138b657b108e3d3cc", func := "loop.example/g01076/laws.FnWordGroup", spec := "fnWordGroup", unfollowed := true, recurses := true, apart := false }
def FnWordGroupSaid : Prop := fnWordGroupRow.holds Try.pinned (OpenSpec.ofChange fnWordGroupSpec)

/-- ITS FALSE NEIGHBOUR: 'it returns false'. Refute it at one input. -/
def fnWordGroupWrong : ChangeSpec := { name := "fnWordGroup", fn := fun _ => fun
  | [d] => { results := [.lit (.bool false)], args := [d] }
  | _ => none }
def FnWordGroupWrongFalsely : Prop := fnWordGroupRow.holds Try.pinned (OpenSpec.ofChange fnWordGroupWrong)

/-- 'laws.FnExactIsWord': WHATEVER THE INPUT: true; the input reads as it did. -/
def fnExactIsWordSpec : ChangeSpec := { name := "fnExactIsWord", fn := fun _ => fun
  | [d1, d2] => { results := [.lit (.bool true)], args := [d1, d2] }
  | _ => none }
def fnExactIsWordRow : OpenClaim := { program := "ythakglpgcpkpaaa", sum := "aaf805398e0c2cc29b7209db45c66b2197d128a90fdc0cf138b657b108e3d3cc", func := "loop.example/g01076/laws.FnExactIsWord", spec := "fnExactIsWord", apart := false }
def FnExactIsWordSaid : Prop := fnExactIsWordRow.holds Try.pinned (OpenSpec.ofChange fnExactIsWordSpec)

/-- ITS FALSE NEIGHBOUR: 'it returns false'. Refute it at one input. -/
def fnExactIsWordWrong : ChangeSpec := { name := "fnExactIsWord", fn := fun _ => fun
  | [d1, d2] => { results := [.lit (.bool false)], args := [d1, d2] }
  | _ => none }
def FnExactIsWordWrongFalsely : Prop := fnExactIsWordRow.holds Try.pinned (OpenSpec.ofChange fnExactIsWordWrong)

/-- 'laws.FnExactIsReducedWord': WHATEVER THE INPUT: true; the input reads as it did. -/
def fnExactIsReducedWordSpec : ChangeSpec := { name := "fnExactIsReducedWord", fn := fun _ => fun
  | [d1, d2] => { results := [.lit (.bool true)], args := [d1, d2] }
  | _ => none }
def fnExactIsReducedWordRow : OpenClaim := { program := "ythakglpgcpkpaaa", sum := "aaf805398e0c2cc29b7209db45c66b2197d128a90fdc0cf138b657b108e3d3cc", func := "loop.example/g01076/laws.FnExactIsReducedWord", spec := "fnExactIsReducedWord", apart := false }
def FnExactIsReducedWordSaid : Prop := fnExactIsReducedWordRow.holds Try.pinned (OpenSpec.ofChange fnExactIsReducedWordSpec)

/-- ITS FALSE NEIGHBOUR: 'it returns false'. Refute it at one input. -/
def fnExactIsReducedWordWrong : ChangeSpec := { name := "fnExactIsReducedWord", fn := fun _ => fun
  | [d1, d2] => { results := [.lit (.bool false)], args := [d1, d2] }
  | _ => none }
def FnExactIsReducedWordWrongFalsely : Prop := fnExactIsReducedWordRow.holds Try.pinned (OpenSpec.ofChange fnExactIsReducedWordWrong)

/-- 'laws.FnExactReduceWord': WHATEVER THE INPUT: true; the input reads as it did. -/
def fnExactReduceWordSpec : ChangeSpec := { name := "fnExactReduceWord", fn := fun _ => fun
  | [d1, d2] => { results := [.lit (.bool true)], args := [d1, d2] }
  | _ => none }
def fnExactReduceWordRow : OpenClaim := { program := "ythakglpgcpkpaaa", sum := "aaf805398e0c2cc29b7209db45c66b2197d128a90fdc0cf138b657b108e3d3cc", func := "loop.example/g01076/laws.FnExactReduceWord", spec := "fnExactReduceWord", apart := false }
def FnExactReduceWordSaid : Prop := fnExactReduceWordRow.holds Try.pinned (OpenSpec.ofChange fnExactReduceWordSpec)

/-- ITS FALSE NEIGHBOUR: 'it returns false'. Refute it at one input. -/
def fnExactReduceWordWrong : ChangeSpec := { name := "fnExactReduceWord", fn := fun _ => fun
  | [d1, d2] => { results := [.lit (.bool false)], args := [d1, d2] }
  | _ => none }
def FnExactReduceWordWrongFalsely : Prop := fnExactReduceWordRow.holds Try.pinned (OpenSpec.ofChange fnExactReduceWordWrong)

/-- 'laws.FnExactInvertWord': WHATEVER THE INPUT: true; the input reads as it did. -/
def fnExactInvertWordSpec : ChangeSpec := { name := "fnExactInvertWord", fn := fun _ => fun
  | [d1, d2] => { results := [.lit (.bool true)], args := [d1, d2] }
  | _ => none }
def fnExactInvertWordRow : OpenClaim := { program := "ythakglpgcpkpaaa", sum := "aaf805398e0c2cc29b7209db45c66b2197d128a90fdc0cf138b657b108e3d3cc", func := "loop.example/g01076/laws.FnExactInvertWord", spec := "fnExactInvertWord", unfollowed := true, recurses := true, apart := false }
def FnExactInvertWordSaid : Prop := fnExactInvertWordRow.holds Try.pinned (OpenSpec.ofChange fnExactInvertWordSpec)

/-- ITS FALSE NEIGHBOUR: 'it returns false'. Refute it at one input. -/
def fnExactInvertWordWrong : ChangeSpec := { name := "fnExactInvertWord", fn := fun _ => fun
  | [d1, d2] => { results := [.lit (.bool false)], args := [d1, d2] }
  | _ => none }
def FnExactInvertWordWrongFalsely : Prop := fnExactInvertWordRow.holds Try.pinned (OpenSpec.ofChange fnExactInvertWordWrong)

/-- 'laws.FnExactMultiplyWords': WHATEVER THE INPUT: true; the input reads as it did. -/
def fnExactMultiplyWordsSpec : ChangeSpec := { name := "fnExactMultiplyWords", fn := fun _ => fun
  | [d1, d2, d3] => { results := [.lit (.bool true)], args := [d1, d2, d3] }
  | _ => none }
def fnExactMultiplyWordsRow : OpenClaim := { program := "ythakglpgcpkpaaa", sum := "aaf805398e0c2cc29b7209db45c66b2197d128a90fdc0cf138b657b108e3d3cc", func := "loop.example/g01076/laws.FnExactMultiplyWords", spec := "fnExactMultiplyWords", apart := false }
def FnExactMultiplyWordsSaid : Prop := fnExactMultiplyWordsRow.holds Try.pinned (OpenSpec.ofChange fnExactMultiplyWordsSpec)

/-- ITS FALSE NEIGHBOUR: 'it returns false'. Refute it at one input. -/
def fnExactMultiplyWordsWrong : ChangeSpec := { name := "fnExactMultiplyWords", fn := fun _ => fun
  | [d1, d2, d3] => { results := [.lit (.bool false)], args := [d1, d2, d3] }
  | _ => none }
def FnExactMultiplyWordsWrongFalsely : Prop := fnExactMultiplyWordsRow.holds Try.pinned (OpenSpec.ofChange fnExactMultiplyWordsWrong)

/-- 'laws.FnExactWordPower': WHATEVER THE INPUT: true; the input reads as it did. -/
def fnExactWordPowerSpec : ChangeSpec := { name := "fnExactWordPower", fn := fun _ => fun
  | [d1, d2, d3] => { results := [.lit (.bool true)], args := [d1, d2, d3] }
  | _ => none }
def fnExactWordPowerRow : OpenClaim := { program := "ythakglpgcpkpaaa", sum := "aaf805398e0c2cc29b7209db45c66b2197d128a90fdc0cf138b657b108e3d3cc", func := "loop.example/g01076/laws.FnExactWordPower", spec := "fnExactWordPower", unfollowed := true, recurses := true, apart := false }
def FnExactWordPowerSaid : Prop := fnExactWordPowerRow.holds Try.pinned (OpenSpec.ofChange fnExactWordPowerSpec)

/-- ITS FALSE NEIGHBOUR: 'it returns false'. Refute it at one input. -/
def fnExactWordPowerWrong : ChangeSpec := { name := "fnExactWordPower", fn := fun _ => fun
  | [d1, d2, d3] => { results := [.lit (.bool false)], args := [d1, d2, d3] }
  | _ => none }
def FnExactWordPowerWrongFalsely : Prop := fnExactWordPowerRow.holds Try.pinned (OpenSpec.ofChange fnExactWordPowerWrong)

/-- 'laws.FnExactWordCommutator': WHATEVER THE INPUT: true; the input reads as it did. -/
def fnExactWordCommutatorSpec : ChangeSpec := { name := "fnExactWordCommutator", fn := fun _ => fun
  | [d1, d2, d3] => { results := [.lit (.bool true)], args := [d1, d2, d3] }
  | _ => none }
def fnExactWordCommutatorRow : OpenClaim := { program := "ythakglpgcpkpaaa", sum := "aaf805398e0c2cc29b7209db45c66b2197d128a90fdc0cf138b657b108e3d3cc", func := "loop.example/g01076/laws.FnExactWordCommutator", spec := "fnExactWordCommutator", unfollowed := true, recurses := true, apart := false }
def FnExactWordCommutatorSaid : Prop := fnExactWordCommutatorRow.holds Try.pinned (OpenSpec.ofChange fnExactWordCommutatorSpec)

/-- ITS FALSE NEIGHBOUR: 'it returns false'. Refute it at one input. -/
def fnExactWordCommutatorWrong : ChangeSpec := { name := "fnExactWordCommutator", fn := fun _ => fun
  | [d1, d2, d3] => { results := [.lit (.bool false)], args := [d1, d2, d3] }
  | _ => none }
def FnExactWordCommutatorWrongFalsely : Prop := fnExactWordCommutatorRow.holds Try.pinned (OpenSpec.ofChange fnExactWordCommutatorWrong)

/-- 'laws.FnExactExponentSums': WHATEVER THE INPUT: true; the input reads as it did. -/
def fnExactExponentSumsSpec : ChangeSpec := { name := "fnExactExponentSums", fn := fun _ => fun
  | [d1, d2] => { results := [.lit (.bool true)], args := [d1, d2] }
  | _ => none }
def fnExactExponentSumsRow : OpenClaim := { program := "ythakglpgcpkpaaa", sum := "aaf805398e0c2cc29b7209db45c66b2197d128a90fdc0cf138b657b108e3d3cc", func := "loop.example/g01076/laws.FnExactExponentSums", spec := "fnExactExponentSums", apart := false }
def FnExactExponentSumsSaid : Prop := fnExactExponentSumsRow.holds Try.pinned (OpenSpec.ofChange fnExactExponentSumsSpec)

/-- ITS FALSE NEIGHBOUR: 'it returns false'. Refute it at one input. -/
def fnExactExponentSumsWrong : ChangeSpec := { name := "fnExactExponentSums", fn := fun _ => fun
  | [d1, d2] => { results := [.lit (.bool false)], args := [d1, d2] }
  | _ => none }
def FnExactExponentSumsWrongFalsely : Prop := fnExactExponentSumsRow.holds Try.pinned (OpenSpec.ofChange fnExactExponentSumsWrong)

/-- 'laws.FnExactSubstituteWord': WHATEVER THE INPUT: true; the input reads as it did. -/
def fnExactSubstituteWordSpec : ChangeSpec := { name := "fnExactSubstituteWord", fn := fun _ => fun
  | [d1, d2, d3, d4] => { results := [.lit (.bool true)], args := [d1, d2, d3, d4] }
  | _ => none }
def fnExactSubstituteWordRow : OpenClaim := { program := "ythakglpgcpkpaaa", sum := "aaf805398e0c2cc29b7209db45c66b2197d128a90fdc0cf138b657b108e3d3cc", func := "loop.example/g01076/laws.FnExactSubstituteWord", spec := "fnExactSubstituteWord", unfollowed := true, recurses := true, apart := false }
def FnExactSubstituteWordSaid : Prop := fnExactSubstituteWordRow.holds Try.pinned (OpenSpec.ofChange fnExactSubstituteWordSpec)

/-- ITS FALSE NEIGHBOUR: 'it returns false'. Refute it at one input. -/
def fnExactSubstituteWordWrong : ChangeSpec := { name := "fnExactSubstituteWord", fn := fun _ => fun
  | [d1, d2, d3, d4] => { results := [.lit (.bool false)], args := [d1, d2, d3, d4] }
  | _ => none }
def FnExactSubstituteWordWrongFalsely : Prop := fnExactSubstituteWordRow.holds Try.pinned (OpenSpec.ofChange fnExactSubstituteWordWrong)

/-- 'laws.FnExactWordText': WHATEVER THE INPUT: true; the input reads as it did. -/
def fnExactWordTextSpec : ChangeSpec := { name := "fnExactWordText", fn := fun _ => fun
  | [d1, d2] => { results := [.lit (.bool true)], args := [d1, d2] }
  | _ => none }
def fnExactWordTextRow : OpenClaim := { program := "ythakglpgcpkpaaa", sum := "aaf805398e0c2cc29b7209db45c66b2197d128a90fdc0cf138b657b108e3d3cc", func := "loop.example/g01076/laws.FnExactWordText", spec := "fnExactWordText", inPlace := ["internal/abi.NoEscape"], apart := false }
def FnExactWordTextSaid : Prop := fnExactWordTextRow.holds Try.pinned (OpenSpec.ofChange fnExactWordTextSpec)

/-- ITS FALSE NEIGHBOUR: 'it returns false'. Refute it at one input. -/
def fnExactWordTextWrong : ChangeSpec := { name := "fnExactWordText", fn := fun _ => fun
  | [d1, d2] => { results := [.lit (.bool false)], args := [d1, d2] }
  | _ => none }
def FnExactWordTextWrongFalsely : Prop := fnExactWordTextRow.holds Try.pinned (OpenSpec.ofChange fnExactWordTextWrong)

/-- 'laws.FnExactParseWord': WHATEVER THE INPUT: true; the input reads as it did. -/
def fnExactParseWordSpec : ChangeSpec := { name := "fnExactParseWord", fn := fun _ => fun
  | [d1, d2] => { results := [.lit (.bool true)], args := [d1, d2] }
  | _ => none }
def fnExactParseWordRow : OpenClaim := { program := "ythakglpgcpkpaaa", sum := "aaf805398e0c2cc29b7209db45c66b2197d128a90fdc0cf138b657b108e3d3cc", func := "loop.example/g01076/laws.FnExactParseWord", spec := "fnExactParseWord", apart := false }
def FnExactParseWordSaid : Prop := fnExactParseWordRow.holds Try.pinned (OpenSpec.ofChange fnExactParseWordSpec)

/-- ITS FALSE NEIGHBOUR: 'it returns false'. Refute it at one input. -/
def fnExactParseWordWrong : ChangeSpec := { name := "fnExactParseWord", fn := fun _ => fun
  | [d1, d2] => { results := [.lit (.bool false)], args := [d1, d2] }
  | _ => none }
def FnExactParseWordWrongFalsely : Prop := fnExactParseWordRow.holds Try.pinned (OpenSpec.ofChange fnExactParseWordWrong)

/- THE SECOND FORM. 'bulk': how many values and letters a reading holds, each counted each time it is reached (what is shared counts as often as it is met; a slice's spare places count too). A statement '..UptoSaid' is the law's where the arguments, and the package variables that the reading takes, are together of bulk at most 1048576: NARROWER than '..Said'. Prove '..Said' where nothing that the law and all that it calls make is longer than what came in: it says more and counts as full. Else prove '..UptoSaid'. A law counts once. -/
mutual
def uptoBulk {H : Type} : DataW H → Nat
  | .lit (.string bytes) => bytes.length + 1
  | .lit _ => 1
  | .nil => 1
  | .ptr d => uptoBulk d + 1
  | .slice elems spare => uptoBulkAll elems + uptoBulkAll spare + 1
  | .agg parts => uptoBulkAll parts + 1
  | .iface _ d => uptoBulk d + 1
  | .map entries => uptoBulkEntries entries + 1
  | .held _ => 1
def uptoBulkAll {H : Type} : List (DataW H) → Nat
  | [] => 0
  | d :: r => uptoBulk d + uptoBulkAll r
def uptoBulkEntries {H : Type} : List (Lit × DataW H) → Nat
  | [] => 0
  | x :: r => uptoBulkEntry x + uptoBulkEntries r
def uptoBulkEntry {H : Type} : Lit × DataW H → Nat
  | (.string bytes, d) => bytes.length + uptoBulk d + 1
  | (_, d) => uptoBulk d + 1
 end
def uptoSmall : (H : Type) → List (DataW H) → Bool := fun _ ds => decide (uptoBulkAll ds ≤ 1048576)
def OpenSpec.upto (s : _root_.Go.ChangeSpec) : _root_.Go.OpenSpec := { _root_.Go.OpenSpec.ofChange s with cond := some uptoSmall }

/-- 'laws.FnWordGroup', WHERE WHAT IT READS IS OF BULK AT MOST 1048576: true; the input reads as it did. -/
def fnWordGroupUptoRow : OpenClaim := { program := "ythakglpgcpkpaaa", sum := "aaf805398e0c2cc29b7209db45c66b2197d128a90fdc0cf138b657b108e3d3cc", func := "loop.example/g01076/laws.FnWordGroup", spec := "fnWordGroup", unfollowed := true, recurses := true, apart := false, narrowed := true }
def FnWordGroupUptoSaid : Prop := fnWordGroupUptoRow.holds Try.pinned (OpenSpec.upto fnWordGroupSpec)

/-- 'laws.FnExactIsWord', WHERE WHAT IT READS IS OF BULK AT MOST 1048576: true; the input reads as it did. -/
def fnExactIsWordUptoRow : OpenClaim := { program := "ythakglpgcpkpaaa", sum := "aaf805398e0c2cc29b7209db45c66b2197d128a90fdc0cf138b657b108e3d3cc", func := "loop.example/g01076/laws.FnExactIsWord", spec := "fnExactIsWord", apart := false, narrowed := true }
def FnExactIsWordUptoSaid : Prop := fnExactIsWordUptoRow.holds Try.pinned (OpenSpec.upto fnExactIsWordSpec)

/-- 'laws.FnExactIsReducedWord', WHERE WHAT IT READS IS OF BULK AT MOST 1048576: true; the input reads as it did. -/
def fnExactIsReducedWordUptoRow : OpenClaim := { program := "ythakglpgcpkpaaa", sum := "aaf805398e0c2cc29b7209db45c66b2197d128a90fdc0cf138b657b108e3d3cc", func := "loop.example/g01076/laws.FnExactIsReducedWord", spec := "fnExactIsReducedWord", apart := false, narrowed := true }
def FnExactIsReducedWordUptoSaid : Prop := fnExactIsReducedWordUptoRow.holds Try.pinned (OpenSpec.upto fnExactIsReducedWordSpec)

/-- 'laws.FnExactReduceWord', WHERE WHAT IT READS IS OF BULK AT MOST 1048576: true; the input reads as it did. -/
def fnExactReduceWordUptoRow : OpenClaim := { program := "ythakglpgcpkpaaa", sum := "aaf805398e0c2cc29b7209db45c66b2197d128a90fdc0cf138b657b108e3d3cc", func := "loop.example/g01076/laws.FnExactReduceWord", spec := "fnExactReduceWord", apart := false, narrowed := true }
def FnExactReduceWordUptoSaid : Prop := fnExactReduceWordUptoRow.holds Try.pinned (OpenSpec.upto fnExactReduceWordSpec)

/-- 'laws.FnExactInvertWord', WHERE WHAT IT READS IS OF BULK AT MOST 1048576: true; the input reads as it did. -/
def fnExactInvertWordUptoRow : OpenClaim := { program := "ythakglpgcpkpaaa", sum := "aaf805398e0c2cc29b7209db45c66b2197d128a90fdc0cf138b657b108e3d3cc", func := "loop.example/g01076/laws.FnExactInvertWord", spec := "fnExactInvertWord", unfollowed := true, recurses := true, apart := false, narrowed := true }
def FnExactInvertWordUptoSaid : Prop := fnExactInvertWordUptoRow.holds Try.pinned (OpenSpec.upto fnExactInvertWordSpec)

/-- 'laws.FnExactMultiplyWords', WHERE WHAT IT READS IS OF BULK AT MOST 1048576: true; the input reads as it did. -/
def fnExactMultiplyWordsUptoRow : OpenClaim := { program := "ythakglpgcpkpaaa", sum := "aaf805398e0c2cc29b7209db45c66b2197d128a90fdc0cf138b657b108e3d3cc", func := "loop.example/g01076/laws.FnExactMultiplyWords", spec := "fnExactMultiplyWords", apart := false, narrowed := true }
def FnExactMultiplyWordsUptoSaid : Prop := fnExactMultiplyWordsUptoRow.holds Try.pinned (OpenSpec.upto fnExactMultiplyWordsSpec)

/-- 'laws.FnExactWordPower', WHERE WHAT IT READS IS OF BULK AT MOST 1048576: true; the input reads as it did. -/
def fnExactWordPowerUptoRow : OpenClaim := { program := "ythakglpgcpkpaaa", sum := "aaf805398e0c2cc29b7209db45c66b2197d128a90fdc0cf138b657b108e3d3cc", func := "loop.example/g01076/laws.FnExactWordPower", spec := "fnExactWordPower", unfollowed := true, recurses := true, apart := false, narrowed := true }
def FnExactWordPowerUptoSaid : Prop := fnExactWordPowerUptoRow.holds Try.pinned (OpenSpec.upto fnExactWordPowerSpec)

/-- 'laws.FnExactWordCommutator', WHERE WHAT IT READS IS OF BULK AT MOST 1048576: true; the input reads as it did. -/
def fnExactWordCommutatorUptoRow : OpenClaim := { program := "ythakglpgcpkpaaa", sum := "aaf805398e0c2cc29b7209db45c66b2197d128a90fdc0cf138b657b108e3d3cc", func := "loop.example/g01076/laws.FnExactWordCommutator", spec := "fnExactWordCommutator", unfollowed := true, recurses := true, apart := false, narrowed := true }
def FnExactWordCommutatorUptoSaid : Prop := fnExactWordCommutatorUptoRow.holds Try.pinned (OpenSpec.upto fnExactWordCommutatorSpec)

/-- 'laws.FnExactExponentSums', WHERE WHAT IT READS IS OF BULK AT MOST 1048576: true; the input reads as it did. -/
def fnExactExponentSumsUptoRow : OpenClaim := { program := "ythakglpgcpkpaaa", sum := "aaf805398e0c2cc29b7209db45c66b2197d128a90fdc0cf138b657b108e3d3cc", func := "loop.example/g01076/laws.FnExactExponentSums", spec := "fnExactExponentSums", apart := false, narrowed := true }
def FnExactExponentSumsUptoSaid : Prop := fnExactExponentSumsUptoRow.holds Try.pinned (OpenSpec.upto fnExactExponentSumsSpec)

/-- 'laws.FnExactSubstituteWord', WHERE WHAT IT READS IS OF BULK AT MOST 1048576: true; the input reads as it did. -/
def fnExactSubstituteWordUptoRow : OpenClaim := { program := "ythakglpgcpkpaaa", sum := "aaf805398e0c2cc29b7209db45c66b2197d128a90fdc0cf138b657b108e3d3cc", func := "loop.example/g01076/laws.FnExactSubstituteWord", spec := "fnExactSubstituteWord", unfollowed := true, recurses := true, apart := false, narrowed := true }
def FnExactSubstituteWordUptoSaid : Prop := fnExactSubstituteWordUptoRow.holds Try.pinned (OpenSpec.upto fnExactSubstituteWordSpec)

/-- 'laws.FnExactWordText', WHERE WHAT IT READS IS OF BULK AT MOST 1048576: true; the input reads as it did. -/
def fnExactWordTextUptoRow : OpenClaim := { program := "ythakglpgcpkpaaa", sum := "aaf805398e0c2cc29b7209db45c66b2197d128a90fdc0cf138b657b108e3d3cc", func := "loop.example/g01076/laws.FnExactWordText", spec := "fnExactWordText", inPlace := ["internal/abi.NoEscape"], apart := false, narrowed := true }
def FnExactWordTextUptoSaid : Prop := fnExactWordTextUptoRow.holds Try.pinned (OpenSpec.upto fnExactWordTextSpec)

/-- 'laws.FnExactParseWord', WHERE WHAT IT READS IS OF BULK AT MOST 1048576: true; the input reads as it did. -/
def fnExactParseWordUptoRow : OpenClaim := { program := "ythakglpgcpkpaaa", sum := "aaf805398e0c2cc29b7209db45c66b2197d128a90fdc0cf138b657b108e3d3cc", func := "loop.example/g01076/laws.FnExactParseWord", spec := "fnExactParseWord", apart := false, narrowed := true }
def FnExactParseWordUptoSaid : Prop := fnExactParseWordUptoRow.holds Try.pinned (OpenSpec.upto fnExactParseWordSpec)

end Rows
end Go.Proofs.Ythakglpgcpkpaaa
