/- Presentations: PresentationRelators of the model. -/
import Derived.Test.YteappjgdcbploaaL11J
import Derived.Test.YteappjgdcbploaaL10C
namespace Go.Proofs.Yteappjgdcbploaa
open Go.RowKit
set_option linter.unusedVariables false
set_option linter.unusedSimpArgs false

theorem rels_pow (O : List Int) (W : List (List Int)) (i : Nat) : (Num.relsP O W (i + 1)).map Num.relW = (Num.relsP O W i).map Num.relW ++ [List.replicate (O.getD i 0).toNat ((i : Int) + 1) ++ Num.invW (Num.wrd (W.getD i []))] := by
  rw [Num.relsP, List.map_append]
  simp [Num.relW, Num.relL]
theorem rels_con (r : List (List Int)) (i : Nat) (o : Int) (k : Nat) : (Num.relsK r i o (k + 1)).map Num.relW = (Num.relsK r i o k).map Num.relW ++ [[-(i : Int) - 1, (i : Int) + 1 + (k : Int) + 1, (i : Int) + 1] ++ Num.invW (Num.wrd (r.getD k []))] := by
  rw [Num.relsK, List.map_append]
  simp only [List.map_cons, List.map_nil, Num.relW, Num.relL]
  rw [if_neg (by omega), show -((i : Int) + 1) = -(i : Int) - 1 by omega]
/-- A row of new memory behind a list of such, between two worlds. -/
theorem apart_row {wr w6 : World} {S : Nat → Prop} {v v6 : Value} {xs : List (List Int)} {x : List Int} (own : spII.own wr S v xs) (hx : OwnI w6 wr.heap.size v6 x) : ∀ k, S k → ¬ (v6.ownBlock = some k) := fun k h1 h2 => by
  have := spII.own_lt own h1
  have := hx.base_le k h2
  omega
end Go.Proofs.Yteappjgdcbploaa
