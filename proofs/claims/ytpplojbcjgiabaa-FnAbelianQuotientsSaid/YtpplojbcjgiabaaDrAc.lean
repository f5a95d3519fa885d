/- Draws of abelian groups: what rests on the draw of one group. -/
import Derived.Test.YtpplojbcjgiabaaDrS
namespace Go.Proofs.Ytpplojbcjgiabaa
open Go.RowKit
set_option linter.unusedVariables false
set_option linter.unusedSimpArgs false
/-- A drawn group is put into the result's box. -/
theorem DrawnAb.put {w0 w1 w2 : World} {q len cap : Nat} {A U : Option Addr} {c : Nat} {F : List Int} {K : Int} (hc1 : ChgS (fun k => k = q) w0 w1) (hq : q < w0.heap.size) (ho : OwnI w2 (w1.heap.size + 1) (.slice U F.length c) F) (hl : F.length ≤ 100) (hs : SrcI w2 q A len cap) (hc : ChgS (fun k => k = q) w1 w2) :
    DrawnAb w0 q A len cap (.returned (.agg #[.slice U F.length c, .int .i64 K])) ((w2.setCell ⟨w0.heap.size, 0, none⟩ (.slice U F.length c)).setCell ⟨w0.heap.size, 1, none⟩ (.int .i64 K)) := by
  have g : ∀ {v : World} (i : Nat) (u : Value), ChgS (fun k => k = w0.heap.size) v (v.setCell ⟨w0.heap.size, i, none⟩ u) := fun i u => ChgS.set _ ⟨w0.heap.size, i, none⟩ u
  have h2 := (g (v := w2) 0 (.slice U F.length c)).trans (g 1 (.int .i64 K))
  have hz := hc1.size
  refine ⟨U, c, F, K, rfl, ?_, hl, hs.chg h2 (fun k e => by omega), (hc1.trans hc).on h2 fun k e => .inr (by omega)⟩
  exact ownsRow_keep (ownsRow_base ho (by omega)) fun k e => by
    obtain ⟨h3, h4⟩ := World.ownsRow.lt ho k e
    exact h2.block k h4 (fun hk => by omega)
end Go.Proofs.Ytpplojbcjgiabaa
