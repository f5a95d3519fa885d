/- Words: WordCommutator, ExponentSums. -/
import Derived.Test.YtpplojbcjgiabaaL10F
namespace Go.Proofs.Ytpplojbcjgiabaa
open Go.RowKit
set_option linter.unusedVariables false
set_option linter.unusedSimpArgs false

theorem RdW.lit4 {w : World} {A B C D : Option Addr} {xs ys zs us : List Int} (c d e f n1 n2 n3 n4 : Nat) (t : TypeId) (h1 : RdI w A xs) (l1 : xs.length ≤ maxLen) (m1 : xs.length = n1) (h2 : RdI w B ys) (l2 : ys.length ≤ maxLen) (m2 : ys.length = n2)
    (h3 : RdI w C zs) (l3 : zs.length ≤ maxLen) (m3 : zs.length = n3) (h4 : RdI w D us) (l4 : us.length ≤ maxLen) (m4 : us.length = n4) :
    RdW (w.alloc (.cells #[.slice A n1 c, .slice B n2 d, .slice C n3 e, .slice D n4 f] t)) (some ⟨w.heap.size, 0, none⟩) [xs, ys, zs, us] := by
  subst m1 m2 m3 m4
  have bel : Below w.heap.size w (w.alloc (.cells #[.slice A xs.length c, .slice B ys.length d, .slice C zs.length e, .slice D us.length f] t)) := by go_grown
  have hb := Blk.new w [.slice A xs.length c, .slice B ys.length d, .slice C zs.length e, .slice D us.length f] t
  intro i hi
  match i, hi with
  | 0, _ => exact ⟨_, 0, A, c, rfl, by simp, hb.cell 0 (by simp), l1, h1.below' bel⟩
  | 1, _ => exact ⟨_, 0, B, d, rfl, by simp, hb.cell 1 (by simp), l2, h2.below' bel⟩
  | 2, _ => exact ⟨_, 0, C, e, rfl, by simp, hb.cell 2 (by simp), l3, h3.below' bel⟩
  | 3, _ => exact ⟨_, 0, D, f, rfl, by simp, hb.cell 3 (by simp), l4, h4.below' bel⟩
  | i + 4, hi => simp at hi; omega
end Go.Proofs.Ytpplojbcjgiabaa
