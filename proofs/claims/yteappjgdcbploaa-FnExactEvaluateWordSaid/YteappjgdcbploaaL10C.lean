/- Words: codes, limits, inverses of the model; the functions of one word. -/
import Derived.Test.YteappjgdcbploaaL10B
import Derived.Test.YteappjgdcbploaaKB
namespace Go.Proofs.Yteappjgdcbploaa
open Go.RowKit
set_option linter.unusedVariables false
set_option linter.unusedSimpArgs false

theorem MadeC.list {w w' : World} {v : Value} {xs : List Int} {c : Int} (ho : OwnI w' w.heap.size v xs) (hl : xs.length ≤ 1000000000) (hb : Below w.heap.size w w') : MadeC spI xs c w (.returned (.tuple #[v, .int .i64 c])) w' :=
  ⟨v, (fun k => v.ownBlock = some k), rfl, spI_of ho, fun k hk => (World.ownsRow.lt ho k hk).1, hl, hb⟩
theorem MadeC.nilW {w w' : World} {c : Int} (hb : Below w.heap.size w w') : MadeC spI [] c w (.returned (.tuple #[.slice none 0 0, .int .i64 c])) w' :=
  MadeC.list (World.ownsRow_nil _ _ _ _) (by simp) hb
theorem OwnI.base_ {w : World} {b b' : Nat} {v : Value} {xs : List Int} (h : OwnI w b v xs) (hb : b' ≤ b) : OwnI w b' v xs := ownsRow_base h hb
/-- The words of a literal. -/
theorem RdW.lit1 {w : World} {A : Option Addr} {xs : List Int} (c : Nat) (t : TypeId) (h : RdI w A xs) (hl : xs.length ≤ maxLen) : RdW (w.alloc (.cells #[.slice A xs.length c] t)) (some ⟨w.heap.size, 0, none⟩) [xs] := by
  have bel : Below w.heap.size w (w.alloc (.cells #[.slice A xs.length c] t)) := by go_grown
  intro i hi
  match i, hi with
  | 0, _ => exact ⟨_, 0, A, c, rfl, by simp, (Blk.new w [.slice A xs.length c] t).cell 0 (by simp), hl, h.below' bel⟩
  | i + 1, hi => simp at hi
theorem RdW.lit2 {w : World} {A B : Option Addr} {xs ys : List Int} (c d : Nat) (t : TypeId) (h : RdI w A xs) (hl : xs.length ≤ maxLen) (k : RdI w B ys) (kl : ys.length ≤ maxLen) :
    RdW (w.alloc (.cells #[.slice A xs.length c, .slice B ys.length d] t)) (some ⟨w.heap.size, 0, none⟩) [xs, ys] := by
  have bel : Below w.heap.size w (w.alloc (.cells #[.slice A xs.length c, .slice B ys.length d] t)) := by go_grown
  have hb := Blk.new w [.slice A xs.length c, .slice B ys.length d] t
  intro i hi
  match i, hi with
  | 0, _ => exact ⟨_, 0, A, c, rfl, by simp, hb.cell 0 (by simp), hl, h.below' bel⟩
  | 1, _ => exact ⟨_, 0, B, d, rfl, by simp, hb.cell 1 (by simp), kl, k.below' bel⟩
  | i + 2, hi => simp at hi; omega

/-- What a limited product leaves. -/
def LimC (xs : List Int) (w : World) (e : Ending) (w' : World) : Prop := ∃ v, e = .returned (.tuple #[v, .int .i64 (Num.limC xs)]) ∧ OwnI w' w.heap.size v (Num.limR xs) ∧ Below w.heap.size w w'
theorem lim_long {xs : List Int} (h : 64 < (Num.redW xs).length) : Num.limC xs = 3 ∧ Num.limR xs = [] := ⟨if_pos h, if_pos h⟩
theorem lim_fits {xs : List Int} (h : ¬ 64 < (Num.redW xs).length) : Num.limC xs = 0 ∧ Num.limR xs = Num.redW xs := ⟨if_neg h, if_neg h⟩
end Go.Proofs.Yteappjgdcbploaa
