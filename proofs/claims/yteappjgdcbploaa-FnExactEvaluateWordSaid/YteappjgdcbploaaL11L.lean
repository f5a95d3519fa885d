/- Presentations: PresentationRelators of both sides. -/
import Derived.Test.YteappjgdcbploaaL11K
namespace Go.Proofs.Yteappjgdcbploaa
open Go.RowKit
set_option linter.unusedVariables false
set_option linter.unusedSimpArgs false

theorem sumOf_bd {α : Type} (f : α → Nat) (c : Nat) : ∀ (xs : List α), (∀ x ∈ xs, f x ≤ c) → sumOf f xs ≤ xs.length * c
  | [], _ => by simp [sumOf]
  | x :: xs, h => by
    have h1 := h x (by simp)
    have h2 := sumOf_bd f c xs fun y hy => h y (by simp [hy])
    have e : sumOf f (x :: xs) = f x + sumOf f xs := by simp [sumOf]
    rw [e, List.length_cons, Nat.succ_mul]
    omega
theorem rels_cnt {O : List Int} {W : List (List Int)} {J : List (List (List Int))} (h : Num.preB O W J = true) : spII.cnt ((Num.rels O W J).map Num.relW) ≤ 1000000000 := by
  have h1 := Num.rels_ok h
  obtain ⟨h2, h3⟩ := Num.preB_shape h
  have h4 := Num.rels_len h3 (Num.ordC_zero h2).1
  have h5 := sumOf_bd spI.cnt 1000 ((Num.rels O W J).map Num.relW) fun x hx => by
    obtain ⟨q, hq, rfl⟩ := List.mem_map.mp hx
    exact Num.relW_len (h1 q hq)
  rw [List.length_map] at h5
  show sumOf spI.cnt _ ≤ _
  have : (Num.rels O W J).length * 1000 ≤ 100 * 1000 := Nat.mul_le_mul_right _ h4
  omega
theorem MadeC.nilII {w w' : World} {c : Int} (hb : Below w.heap.size w w') : MadeC spII [] c w (.returned (.tuple #[.slice none 0 0, .int .i64 c])) w' :=
  ⟨_, fun _ => False, rfl, spL_nil _ _ _ _, fun k hk => hk.elim, by simp [spII, spL, sumOf], hb⟩
end Go.Proofs.Yteappjgdcbploaa
