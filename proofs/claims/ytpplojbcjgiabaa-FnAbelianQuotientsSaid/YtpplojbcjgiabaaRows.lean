/-
  No cell of these rows narrows 'for every input' (looked for: loops, veiled, ifaces, maps, wideKeys, modest, calm, conditions, laid).
  DERIVED. THE GIVEN ROWS OF THIS SEAT. 3 by the template 'for every input the law returns true; each argument reads behind the call as it read before'; 0 by the template 'total and deterministic' (their statements: YtpplojbcjgiabaaTotals.lean).
  GIVEN WITH THE SEED: the statements are not yours to turn. If you find one false, say at which input.
  Laid BY PROGRAM, IN A SANDBOX (cutbox-rows.mjs): the forced cells as the released guide's own fill.sh prints them over the translation 0de25a5db41cc14e… (all of the seat's roots in one cut). By AI agents, Wed Nov 11 2026. No macro, syntax, notation, axiom, sorry.
-/
import Derived.Test.YtpplojbcjgiabaaChecked
import GoSem.Claim
import GoSem.ClaimJoined
import GoSem.ClaimMapViews
import Derived.JoinedTies
import Derived.KernelRfl
namespace Go.Proofs.Ytpplojbcjgiabaa
/- THE CELL 'sum', in the pinned program and in every row, IS THE sha256 OF THE DUMP (.gsa) THAT YtpplojbcjgiabaaProg.lean LOADS. Nothing in Lean hashes anything: it is a label: what it is worth is what the hold of that sum in a sandbox is worth. -/
noncomputable def Try.pinned : Pinned := { name := "ytpplojbcjgiabaa", sum := "0de25a5db41cc14e9921f04a1234f0d79cd4dc79ac439ef66a17c698c418e7fa", checked := Try.checked }
namespace Rows
def none {H : Type} : Left H := { results := [], args := [] }

/-- 'laws.FnSubstitutions': WHATEVER THE INPUT: true; the input reads as it did. -/
def fnSubstitutionsSpec : ChangeSpec := { name := "fnSubstitutions", fn := fun _ => fun
  | [d] => { results := [.lit (.bool true)], args := [d] }
  | _ => none }
def fnSubstitutionsRow : OpenClaim := { program := "ytpplojbcjgiabaa", sum := "0de25a5db41cc14e9921f04a1234f0d79cd4dc79ac439ef66a17c698c418e7fa", func := "loop.example/g01076/laws.FnSubstitutions", spec := "fnSubstitutions", unfollowed := true, recurses := true, apart := false }
def FnSubstitutionsSaid : Prop := fnSubstitutionsRow.holds Try.pinned (OpenSpec.ofChange fnSubstitutionsSpec)

/-- ITS FALSE NEIGHBOUR: 'it returns false'. Refute it at one input. -/
def fnSubstitutionsWrong : ChangeSpec := { name := "fnSubstitutions", fn := fun _ => fun
  | [d] => { results := [.lit (.bool false)], args := [d] }
  | _ => none }
def FnSubstitutionsWrongFalsely : Prop := fnSubstitutionsRow.holds Try.pinned (OpenSpec.ofChange fnSubstitutionsWrong)

/-- 'laws.FnWordTexts': WHATEVER THE INPUT: true; the input reads as it did. -/
def fnWordTextsSpec : ChangeSpec := { name := "fnWordTexts", fn := fun _ => fun
  | [d] => { results := [.lit (.bool true)], args := [d] }
  | _ => none }
def fnWordTextsRow : OpenClaim := { program := "ytpplojbcjgiabaa", sum := "0de25a5db41cc14e9921f04a1234f0d79cd4dc79ac439ef66a17c698c418e7fa", func := "loop.example/g01076/laws.FnWordTexts", spec := "fnWordTexts", inPlace := ["internal/abi.NoEscape"], apart := false }
def FnWordTextsSaid : Prop := fnWordTextsRow.holds Try.pinned (OpenSpec.ofChange fnWordTextsSpec)

/-- ITS FALSE NEIGHBOUR: 'it returns false'. Refute it at one input. -/
def fnWordTextsWrong : ChangeSpec := { name := "fnWordTexts", fn := fun _ => fun
  | [d] => { results := [.lit (.bool false)], args := [d] }
  | _ => none }
def FnWordTextsWrongFalsely : Prop := fnWordTextsRow.holds Try.pinned (OpenSpec.ofChange fnWordTextsWrong)

/-- 'laws.FnAbelianQuotients': WHATEVER THE INPUT: true; the input reads as it did. -/
def fnAbelianQuotientsSpec : ChangeSpec := { name := "fnAbelianQuotients", fn := fun _ => fun
  | [d] => { results := [.lit (.bool true)], args := [d] }
  | _ => none }
def fnAbelianQuotientsRow : OpenClaim := { program := "ytpplojbcjgiabaa", sum := "0de25a5db41cc14e9921f04a1234f0d79cd4dc79ac439ef66a17c698c418e7fa", func := "loop.example/g01076/laws.FnAbelianQuotients", spec := "fnAbelianQuotients", inPlace := ["slices.overlaps[loop.example/g01076/impl.cyclic]"], unfollowed := true, recurses := true, apart := false }
def FnAbelianQuotientsSaid : Prop := fnAbelianQuotientsRow.holds Try.pinned (OpenSpec.ofChange fnAbelianQuotientsSpec)

/-- ITS FALSE NEIGHBOUR: 'it returns false'. Refute it at one input. -/
def fnAbelianQuotientsWrong : ChangeSpec := { name := "fnAbelianQuotients", fn := fun _ => fun
  | [d] => { results := [.lit (.bool false)], args := [d] }
  | _ => none }
def FnAbelianQuotientsWrongFalsely : Prop := fnAbelianQuotientsRow.holds Try.pinned (OpenSpec.ofChange fnAbelianQuotientsWrong)

/- THE SECOND FORM. 'bulk': how many values and letters a reading holds, each counted each time it is reached (what is shared counts as often as it is met; a slice's spare places count too). A statement '..UptoSaid' is the law's where the arguments, and the package variables that the reading takes, are together of bulk at most 1048576: NARROWER than '..Said'. Prove '..Said' where nothing that the law and all that it calls make is longer than what came in: it says more and counts as full. Else prove '..UptoSaid'. A law counts once. -/
mutual
def uptoBulk {H : Type} : DataW H → Nat
  | .lit (.string bytes) => bytes.length + 1
  | .lit _ => 1
  | .nil => 1
  | .ptr d => uptoBulk d + 1
  | .slice elems spare => uptoBulkAll elems + uptoBulkAll spare + 1
  | .agg parts => uptoBulkAll parts + 1
  | .iface _ d => uptoBulk d + 1
  | .map entries => uptoBulkEntries entries + 1
  | .held _ => 1
def uptoBulkAll {H : Type} : List (DataW H) → Nat
  | [] => 0
  | d :: r => uptoBulk d + uptoBulkAll r
def uptoBulkEntries {H : Type} : List (Lit × DataW H) → Nat
  | [] => 0
  | x :: r => uptoBulkEntry x + uptoBulkEntries r
def uptoBulkEntry {H : Type} : Lit × DataW H → Nat
  | (.string bytes, d) => bytes.length + uptoBulk d + 1
  | (_, d) => uptoBulk d + 1
 end
def uptoSmall : (H : Type) → List (DataW H) → Bool := fun _ ds => decide (uptoBulkAll ds ≤ 1048576)
def OpenSpec.upto (s : _root_.Go.ChangeSpec) : _root_.Go.OpenSpec := { _root_.Go.OpenSpec.ofChange s with cond := some uptoSmall }

/-- 'laws.FnSubstitutions', WHERE WHAT IT READS IS OF BULK AT MOST 1048576: true; the input reads as it did. -/
def fnSubstitutionsUptoRow : OpenClaim := { program := "ytpplojbcjgiabaa", sum := "0de25a5db41cc14e9921f04a1234f0d79cd4dc79ac439ef66a17c698c418e7fa", func := "loop.example/g01076/laws.FnSubstitutions", spec := "fnSubstitutions", unfollowed := true, recurses := true, apart := false, narrowed := true }
def FnSubstitutionsUptoSaid : Prop := fnSubstitutionsUptoRow.holds Try.pinned (OpenSpec.upto fnSubstitutionsSpec)

/-- 'laws.FnWordTexts', WHERE WHAT IT READS IS OF BULK AT MOST 1048576: true; the input reads as it did. -/
def fnWordTextsUptoRow : OpenClaim := { program := "ytpplojbcjgiabaa", sum := "0de25a5db41cc14e9921f04a1234f0d79cd4dc79ac439ef66a17c698c418e7fa", func := "loop.example/g01076/laws.FnWordTexts", spec := "fnWordTexts", inPlace := ["internal/abi.NoEscape"], apart := false, narrowed := true }
def FnWordTextsUptoSaid : Prop := fnWordTextsUptoRow.holds Try.pinned (OpenSpec.upto fnWordTextsSpec)

/-- 'laws.FnAbelianQuotients', WHERE WHAT IT READS IS OF BULK AT MOST 1048576: true; the input reads as it did. -/
def fnAbelianQuotientsUptoRow : OpenClaim := { program := "ytpplojbcjgiabaa", sum := "0de25a5db41cc14e9921f04a1234f0d79cd4dc79ac439ef66a17c698c418e7fa", func := "loop.example/g01076/laws.FnAbelianQuotients", spec := "fnAbelianQuotients", inPlace := ["slices.overlaps[loop.example/g01076/impl.cyclic]"], unfollowed := true, recurses := true, apart := false, narrowed := true }
def FnAbelianQuotientsUptoSaid : Prop := fnAbelianQuotientsUptoRow.holds Try.pinned (OpenSpec.upto fnAbelianQuotientsSpec)

end Rows
end Go.Proofs.Ytpplojbcjgiabaa
