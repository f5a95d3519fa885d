/- The draw of two abelian groups for their homomorphisms. -/
import Derived.Test.YtpplojbcjgiabaaDrAc
namespace Go.Proofs.Ytpplojbcjgiabaa
open Go.RowKit
set_option linter.unusedVariables false
set_option linter.unusedSimpArgs false
theorem OwnI.past {S : Nat → Prop} {w w' : World} {base : Nat} {v : Value} {xs : List Int} (h : OwnI w base v xs) (hc : ChgS S w w') (hS : ∀ k, S k → k < base) : OwnI w' base v xs :=
  ownsRow_keep h fun k e => by
    obtain ⟨h1, h2⟩ := World.ownsRow.lt h k e
    exact hc.block k h2 (fun hk => by have := hS k hk; omega)
theorem OwnI.setAt {w : World} {base : Nat} {v : Value} {xs : List Int} (h : OwnI w base v xs) (p : Addr) (u : Value) (hp : ∀ k, v.ownBlock = some k → k ≠ p.block) : OwnI (w.setCell p u) base v xs :=
  ownsRow_keep h fun k e => (ChgS.set w p u).block k (World.ownsRow.lt h k e).2 (hp k e)
/-- Two groups that are drawn. -/
def TwoAb (w : World) (e : Ending) (w' : World) : Prop :=
  ∃ v0 v1 x0 x1, e = .returned (.tuple #[v0, v1]) ∧ spAb.rd w' v0 x0 ∧ spAb.rd w' v1 x1 ∧ Below w.heap.size w w'
theorem rdAb_own {w : World} {base : Nat} {U : Option Addr} {c : Nat} {F : List Int} {K : Int} (h : OwnI w base (.slice U F.length c) F) : spAb.rd w (.agg #[.slice U F.length c, .int .i64 K]) ⟨F, K⟩ :=
  ⟨_, rfl, U, c, rfl, by obtain ⟨_, _, e9, hm9⟩ := ownsRow_cap h; exact hm9, h.reads⟩
end Go.Proofs.Ytpplojbcjgiabaa
