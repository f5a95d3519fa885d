/- A struct's cells in a block, over what a call leaves. -/
import Derived.Test.YtbmjkkcjiofkpaaSm
namespace Go.Proofs.Ytbmjkkcjiofkpaa
open Go.RowKit
set_option linter.unusedVariables false
set_option linter.unusedSimpArgs false

/-- The three cells of a block. -/
def Box3 (w : World) (b : Nat) (x y z : Value) : Prop :=
  b < w.heap.size ∧ w.cell? ⟨b, 0, none⟩ = some x ∧ w.cell? ⟨b, 1, none⟩ = some y ∧ w.cell? ⟨b, 2, none⟩ = some z
theorem Box3.new (w : World) (x y z : Value) (T : TypeId) : Box3 (w.alloc (.cells #[x, y, z] T)) w.heap.size x y z :=
  ⟨by simp, by go_simp, by go_simp, by go_simp⟩
theorem Box3.below {w w' : World} {b : Nat} {x y z : Value} (h : Box3 w b x y z) (hb : Below w.heap.size w w') : Box3 w' b x y z := by
  obtain ⟨h0, h1, h2, h3⟩ := h
  exact ⟨by have := hb.size; omega, by rw [hb.cell h0]; exact h1, by rw [hb.cell h0]; exact h2, by rw [hb.cell h0]; exact h3⟩
theorem Box3.alloc {w : World} {b : Nat} {x y z : Value} (h : Box3 w b x y z) (o : Obj) : Box3 (w.alloc o) b x y z :=
  h.below ((Below.refl _ _).alloc (Nat.le_refl _) _)
theorem Box3.drew {w : World} {b : Nat} {x y z : Value} (h : Box3 w b x y z) : Box3 w.drew b x y z := h.below (Below.refl _ _).drew
/-- A world between two others: all that a call leaves alone. -/
theorem bstep {B : Nat} {a b c : World} (h : Below B a b) (hB : B ≤ b.heap.size) (k : Below b.heap.size b c) : Below B a c := h.trans (k.mono hB)
theorem box6 {w : World} {b b' : Nat} {x y z x' y' z' : Value} (h : Box3 w b x y z) (h' : Box3 w b' x' y' z') :
    w.cell? ⟨b, 0, none⟩ = some x ∧ w.cell? ⟨b, 1, none⟩ = some y ∧ w.cell? ⟨b, 2, none⟩ = some z ∧ w.cell? ⟨b', 0, none⟩ = some x' ∧ w.cell? ⟨b', 1, none⟩ = some y' ∧ w.cell? ⟨b', 2, none⟩ = some z' :=
  ⟨h.2.1, h.2.2.1, h.2.2.2, h'.2.1, h'.2.2.1, h'.2.2.2⟩
end Go.Proofs.Ytbmjkkcjiofkpaa
