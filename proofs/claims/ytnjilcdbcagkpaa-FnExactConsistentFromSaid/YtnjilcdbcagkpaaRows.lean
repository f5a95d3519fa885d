/-
  No cell of these rows narrows 'for every input' (looked for: loops, veiled, ifaces, maps, wideKeys, modest, calm, conditions, laid).
  DERIVED. THE GIVEN ROWS OF THIS SEAT. 7 by the template 'for every input the law returns true; each argument reads behind the call as it read before'; 0 by the template 'total and deterministic' (their statements: YtnjilcdbcagkpaaTotals.lean).
  GIVEN WITH THE SEED: the statements are not yours to turn. If you find one false, say at which input.
  Laid BY PROGRAM, IN A SANDBOX (cutbox-rows.mjs): the forced cells as the released guide's own fill.sh prints them over the translation bf667894f5a4af21… (all of the seat's roots in one cut). By AI agents, Wed Nov 11 2026. No macro, syntax, notation, axiom, sorry.
-/
import Derived.Test.YtnjilcdbcagkpaaChecked
import GoSem.Claim
import GoSem.ClaimJoined
import GoSem.ClaimMapViews
import Derived.JoinedTies
import Derived.KernelRfl
namespace Go.Proofs.Ytnjilcdbcagkpaa
/- THE CELL 'sum', in the pinned program and in every row, IS THE sha256 OF THE DUMP (.gsa) THAT YtnjilcdbcagkpaaProg.lean LOADS. Nothing in Lean hashes anything: it is a label: what it is worth is what the hold of that sum in a sandbox is worth. -/
noncomputable def Try.pinned : Pinned := { name := "ytnjilcdbcagkpaa", sum := "bf667894f5a4af21c618720bb8a7422ba1c0a15ad32e8acded37ef40add9246f", checked := Try.checked }
namespace Rows
def none {H : Type} : Left H := { results := [], args := [] }

/-- 'laws.FnFaults': WHATEVER THE INPUT: true; the input reads as it did. -/
def fnFaultsSpec : ChangeSpec := { name := "fnFaults", fn := fun _ => fun
  | [d] => { results := [.lit (.bool true)], args := [d] }
  | _ => none }
def fnFaultsRow : OpenClaim := { program := "ytnjilcdbcagkpaa", sum := "bf667894f5a4af21c618720bb8a7422ba1c0a15ad32e8acded37ef40add9246f", func := "loop.example/g01076/laws.FnFaults", spec := "fnFaults", unfollowed := true, recurses := true, apart := false }
def FnFaultsSaid : Prop := fnFaultsRow.holds Try.pinned (OpenSpec.ofChange fnFaultsSpec)

/-- ITS FALSE NEIGHBOUR: 'it returns false'. Refute it at one input. -/
def fnFaultsWrong : ChangeSpec := { name := "fnFaults", fn := fun _ => fun
  | [d] => { results := [.lit (.bool false)], args := [d] }
  | _ => none }
def FnFaultsWrongFalsely : Prop := fnFaultsRow.holds Try.pinned (OpenSpec.ofChange fnFaultsWrong)

/-- 'laws.FnExactIsConsistent': WHATEVER THE INPUT: true; the input reads as it did. -/
def fnExactIsConsistentSpec : ChangeSpec := { name := "fnExactIsConsistent", fn := fun _ => fun
  | [d] => { results := [.lit (.bool true)], args := [d] }
  | _ => none }
def fnExactIsConsistentRow : OpenClaim := { program := "ytnjilcdbcagkpaa", sum := "bf667894f5a4af21c618720bb8a7422ba1c0a15ad32e8acded37ef40add9246f", func := "loop.example/g01076/laws.FnExactIsConsistent", spec := "fnExactIsConsistent", unfollowed := true, recurses := true, apart := false }
def FnExactIsConsistentSaid : Prop := fnExactIsConsistentRow.holds Try.pinned (OpenSpec.ofChange fnExactIsConsistentSpec)

/-- ITS FALSE NEIGHBOUR: 'it returns false'. Refute it at one input. -/
def fnExactIsConsistentWrong : ChangeSpec := { name := "fnExactIsConsistent", fn := fun _ => fun
  | [d] => { results := [.lit (.bool false)], args := [d] }
  | _ => none }
def FnExactIsConsistentWrongFalsely : Prop := fnExactIsConsistentRow.holds Try.pinned (OpenSpec.ofChange fnExactIsConsistentWrong)

/-- 'laws.FnExactConsistentFrom': WHATEVER THE INPUT: true; the input reads as it did. -/
def fnExactConsistentFromSpec : ChangeSpec := { name := "fnExactConsistentFrom", fn := fun _ => fun
  | [d] => { results := [.lit (.bool true)], args := [d] }
  | _ => none }
def fnExactConsistentFromRow : OpenClaim := { program := "ytnjilcdbcagkpaa", sum := "bf667894f5a4af21c618720bb8a7422ba1c0a15ad32e8acded37ef40add9246f", func := "loop.example/g01076/laws.FnExactConsistentFrom", spec := "fnExactConsistentFrom", unfollowed := true, recurses := true, apart := false }
def FnExactConsistentFromSaid : Prop := fnExactConsistentFromRow.holds Try.pinned (OpenSpec.ofChange fnExactConsistentFromSpec)

/-- ITS FALSE NEIGHBOUR: 'it returns false'. Refute it at one input. -/
def fnExactConsistentFromWrong : ChangeSpec := { name := "fnExactConsistentFrom", fn := fun _ => fun
  | [d] => { results := [.lit (.bool false)], args := [d] }
  | _ => none }
def FnExactConsistentFromWrongFalsely : Prop := fnExactConsistentFromRow.holds Try.pinned (OpenSpec.ofChange fnExactConsistentFromWrong)

/-- 'laws.FnExactConsistencyFault': WHATEVER THE INPUT: true; the input reads as it did. -/
def fnExactConsistencyFaultSpec : ChangeSpec := { name := "fnExactConsistencyFault", fn := fun _ => fun
  | [d] => { results := [.lit (.bool true)], args := [d] }
  | _ => none }
def fnExactConsistencyFaultRow : OpenClaim := { program := "ytnjilcdbcagkpaa", sum := "bf667894f5a4af21c618720bb8a7422ba1c0a15ad32e8acded37ef40add9246f", func := "loop.example/g01076/laws.FnExactConsistencyFault", spec := "fnExactConsistencyFault", unfollowed := true, recurses := true, apart := false }
def FnExactConsistencyFaultSaid : Prop := fnExactConsistencyFaultRow.holds Try.pinned (OpenSpec.ofChange fnExactConsistencyFaultSpec)

/-- ITS FALSE NEIGHBOUR: 'it returns false'. Refute it at one input. -/
def fnExactConsistencyFaultWrong : ChangeSpec := { name := "fnExactConsistencyFault", fn := fun _ => fun
  | [d] => { results := [.lit (.bool false)], args := [d] }
  | _ => none }
def FnExactConsistencyFaultWrongFalsely : Prop := fnExactConsistencyFaultRow.holds Try.pinned (OpenSpec.ofChange fnExactConsistencyFaultWrong)

/-- 'laws.FnExactTailPresentation': WHATEVER THE INPUT: true; the input reads as it did. -/
def fnExactTailPresentationSpec : ChangeSpec := { name := "fnExactTailPresentation", fn := fun _ => fun
  | [d1, d2] => { results := [.lit (.bool true)], args := [d1, d2] }
  | _ => none }
def fnExactTailPresentationRow : OpenClaim := { program := "ytnjilcdbcagkpaa", sum := "bf667894f5a4af21c618720bb8a7422ba1c0a15ad32e8acded37ef40add9246f", func := "loop.example/g01076/laws.FnExactTailPresentation", spec := "fnExactTailPresentation", apart := false }
def FnExactTailPresentationSaid : Prop := fnExactTailPresentationRow.holds Try.pinned (OpenSpec.ofChange fnExactTailPresentationSpec)

/-- ITS FALSE NEIGHBOUR: 'it returns false'. Refute it at one input. -/
def fnExactTailPresentationWrong : ChangeSpec := { name := "fnExactTailPresentation", fn := fun _ => fun
  | [d1, d2] => { results := [.lit (.bool false)], args := [d1, d2] }
  | _ => none }
def FnExactTailPresentationWrongFalsely : Prop := fnExactTailPresentationRow.holds Try.pinned (OpenSpec.ofChange fnExactTailPresentationWrong)

/-- 'laws.FnExactIsNormalTail': WHATEVER THE INPUT: true; the input reads as it did. -/
def fnExactIsNormalTailSpec : ChangeSpec := { name := "fnExactIsNormalTail", fn := fun _ => fun
  | [d1, d2] => { results := [.lit (.bool true)], args := [d1, d2] }
  | _ => none }
def fnExactIsNormalTailRow : OpenClaim := { program := "ytnjilcdbcagkpaa", sum := "bf667894f5a4af21c618720bb8a7422ba1c0a15ad32e8acded37ef40add9246f", func := "loop.example/g01076/laws.FnExactIsNormalTail", spec := "fnExactIsNormalTail", unfollowed := true, recurses := true, apart := false }
def FnExactIsNormalTailSaid : Prop := fnExactIsNormalTailRow.holds Try.pinned (OpenSpec.ofChange fnExactIsNormalTailSpec)

/-- ITS FALSE NEIGHBOUR: 'it returns false'. Refute it at one input. -/
def fnExactIsNormalTailWrong : ChangeSpec := { name := "fnExactIsNormalTail", fn := fun _ => fun
  | [d1, d2] => { results := [.lit (.bool false)], args := [d1, d2] }
  | _ => none }
def FnExactIsNormalTailWrongFalsely : Prop := fnExactIsNormalTailRow.holds Try.pinned (OpenSpec.ofChange fnExactIsNormalTailWrong)

/-- 'laws.FnExactHeadPresentation': WHATEVER THE INPUT: true; the input reads as it did. -/
def fnExactHeadPresentationSpec : ChangeSpec := { name := "fnExactHeadPresentation", fn := fun _ => fun
  | [d1, d2] => { results := [.lit (.bool true)], args := [d1, d2] }
  | _ => none }
def fnExactHeadPresentationRow : OpenClaim := { program := "ytnjilcdbcagkpaa", sum := "bf667894f5a4af21c618720bb8a7422ba1c0a15ad32e8acded37ef40add9246f", func := "loop.example/g01076/laws.FnExactHeadPresentation", spec := "fnExactHeadPresentation", unfollowed := true, recurses := true, apart := false }
def FnExactHeadPresentationSaid : Prop := fnExactHeadPresentationRow.holds Try.pinned (OpenSpec.ofChange fnExactHeadPresentationSpec)

/-- ITS FALSE NEIGHBOUR: 'it returns false'. Refute it at one input. -/
def fnExactHeadPresentationWrong : ChangeSpec := { name := "fnExactHeadPresentation", fn := fun _ => fun
  | [d1, d2] => { results := [.lit (.bool false)], args := [d1, d2] }
  | _ => none }
def FnExactHeadPresentationWrongFalsely : Prop := fnExactHeadPresentationRow.holds Try.pinned (OpenSpec.ofChange fnExactHeadPresentationWrong)

/- THE SECOND FORM. 'bulk': how many values and letters a reading holds, each counted each time it is reached (what is shared counts as often as it is met; a slice's spare places count too). A statement '..UptoSaid' is the law's where the arguments, and the package variables that the reading takes, are together of bulk at most 1048576: NARROWER than '..Said'. Prove '..Said' where nothing that the law and all that it calls make is longer than what came in: it says more and counts as full. Else prove '..UptoSaid'. A law counts once. -/
mutual
def uptoBulk {H : Type} : DataW H → Nat
  | .lit (.string bytes) => bytes.length + 1
  | .lit _ => 1
  | .nil => 1
  | .ptr d => uptoBulk d + 1
  | .slice elems spare => uptoBulkAll elems + uptoBulkAll spare + 1
  | .agg parts => uptoBulkAll parts + 1
  | .iface _ d => uptoBulk d + 1
  | .map entries => uptoBulkEntries entries + 1
  | .held _ => 1
def uptoBulkAll {H : Type} : List (DataW H) → Nat
  | [] => 0
  | d :: r => uptoBulk d + uptoBulkAll r
def uptoBulkEntries {H : Type} : List (Lit × DataW H) → Nat
  | [] => 0
  | x :: r => uptoBulkEntry x + uptoBulkEntries r
def uptoBulkEntry {H : Type} : Lit × DataW H → Nat
  | (.string bytes, d) => bytes.length + uptoBulk d + 1
  | (_, d) => uptoBulk d + 1
 end
def uptoSmall : (H : Type) → List (DataW H) → Bool := fun _ ds => decide (uptoBulkAll ds ≤ 1048576)
def OpenSpec.upto (s : _root_.Go.ChangeSpec) : _root_.Go.OpenSpec := { _root_.Go.OpenSpec.ofChange s with cond := some uptoSmall }

/-- 'laws.FnFaults', WHERE WHAT IT READS IS OF BULK AT MOST 1048576: true; the input reads as it did. -/
def fnFaultsUptoRow : OpenClaim := { program := "ytnjilcdbcagkpaa", sum := "bf667894f5a4af21c618720bb8a7422ba1c0a15ad32e8acded37ef40add9246f", func := "loop.example/g01076/laws.FnFaults", spec := "fnFaults", unfollowed := true, recurses := true, apart := false, narrowed := true }
def FnFaultsUptoSaid : Prop := fnFaultsUptoRow.holds Try.pinned (OpenSpec.upto fnFaultsSpec)

/-- 'laws.FnExactIsConsistent', WHERE WHAT IT READS IS OF BULK AT MOST 1048576: true; the input reads as it did. -/
def fnExactIsConsistentUptoRow : OpenClaim := { program := "ytnjilcdbcagkpaa", sum := "bf667894f5a4af21c618720bb8a7422ba1c0a15ad32e8acded37ef40add9246f", func := "loop.example/g01076/laws.FnExactIsConsistent", spec := "fnExactIsConsistent", unfollowed := true, recurses := true, apart := false, narrowed := true }
def FnExactIsConsistentUptoSaid : Prop := fnExactIsConsistentUptoRow.holds Try.pinned (OpenSpec.upto fnExactIsConsistentSpec)

/-- 'laws.FnExactConsistentFrom', WHERE WHAT IT READS IS OF BULK AT MOST 1048576: true; the input reads as it did. -/
def fnExactConsistentFromUptoRow : OpenClaim := { program := "ytnjilcdbcagkpaa", sum := "bf667894f5a4af21c618720bb8a7422ba1c0a15ad32e8acded37ef40add9246f", func := "loop.example/g01076/laws.FnExactConsistentFrom", spec := "fnExactConsistentFrom", unfollowed := true, recurses := true, apart := false, narrowed := true }
def FnExactConsistentFromUptoSaid : Prop := fnExactConsistentFromUptoRow.holds Try.pinned (OpenSpec.upto fnExactConsistentFromSpec)

/-- 'laws.FnExactConsistencyFault', WHERE WHAT IT READS IS OF BULK AT MOST 1048576: true; the input reads as it did. -/
def fnExactConsistencyFaultUptoRow : OpenClaim := { program := "ytnjilcdbcagkpaa", sum := "bf667894f5a4af21c618720bb8a7422ba1c0a15ad32e8acded37ef40add9246f", func := "loop.example/g01076/laws.FnExactConsistencyFault", spec := "fnExactConsistencyFault", unfollowed := true, recurses := true, apart := false, narrowed := true }
def FnExactConsistencyFaultUptoSaid : Prop := fnExactConsistencyFaultUptoRow.holds Try.pinned (OpenSpec.upto fnExactConsistencyFaultSpec)

/-- 'laws.FnExactTailPresentation', WHERE WHAT IT READS IS OF BULK AT MOST 1048576: true; the input reads as it did. -/
def fnExactTailPresentationUptoRow : OpenClaim := { program := "ytnjilcdbcagkpaa", sum := "bf667894f5a4af21c618720bb8a7422ba1c0a15ad32e8acded37ef40add9246f", func := "loop.example/g01076/laws.FnExactTailPresentation", spec := "fnExactTailPresentation", apart := false, narrowed := true }
def FnExactTailPresentationUptoSaid : Prop := fnExactTailPresentationUptoRow.holds Try.pinned (OpenSpec.upto fnExactTailPresentationSpec)

/-- 'laws.FnExactIsNormalTail', WHERE WHAT IT READS IS OF BULK AT MOST 1048576: true; the input reads as it did. -/
def fnExactIsNormalTailUptoRow : OpenClaim := { program := "ytnjilcdbcagkpaa", sum := "bf667894f5a4af21c618720bb8a7422ba1c0a15ad32e8acded37ef40add9246f", func := "loop.example/g01076/laws.FnExactIsNormalTail", spec := "fnExactIsNormalTail", unfollowed := true, recurses := true, apart := false, narrowed := true }
def FnExactIsNormalTailUptoSaid : Prop := fnExactIsNormalTailUptoRow.holds Try.pinned (OpenSpec.upto fnExactIsNormalTailSpec)

/-- 'laws.FnExactHeadPresentation', WHERE WHAT IT READS IS OF BULK AT MOST 1048576: true; the input reads as it did. -/
def fnExactHeadPresentationUptoRow : OpenClaim := { program := "ytnjilcdbcagkpaa", sum := "bf667894f5a4af21c618720bb8a7422ba1c0a15ad32e8acded37ef40add9246f", func := "loop.example/g01076/laws.FnExactHeadPresentation", spec := "fnExactHeadPresentation", unfollowed := true, recurses := true, apart := false, narrowed := true }
def FnExactHeadPresentationUptoSaid : Prop := fnExactHeadPresentationUptoRow.holds Try.pinned (OpenSpec.upto fnExactHeadPresentationSpec)

end Rows
end Go.Proofs.Ytnjilcdbcagkpaa
