/- A block that is known whole: what its cells hold, over what calls and stores leave. -/
import Derived.Test.YtggkoihlmijacaaShapeL
import Derived.OneCell
namespace Go.Proofs.Ytggkoihlmijacaa
open Go.RowKit
set_option linter.unusedVariables false
set_option linter.unusedSimpArgs false

def Blk (w : World) (b : Nat) (vs : List Value) (t : TypeId) : Prop := w.heap[b]? = some (.cells vs.toArray t (0, 0))
theorem Blk.lt {w : World} {b : Nat} {vs : List Value} {t : TypeId} (h : Blk w b vs t) : b < w.heap.size := lt_of_block h
theorem Blk.new (w : World) (vs : List Value) (t : TypeId) : Blk (w.alloc (.cells vs.toArray t)) w.heap.size vs t := by
  show (w.heap.push _)[w.heap.size]? = _
  simp
theorem Blk.below {w w' : World} {b : Nat} {vs : List Value} {t : TypeId} (h : Blk w b vs t) (hb : Below w.heap.size w w') : Blk w' b vs t := by
  unfold Blk
  rw [hb.block b h.lt]
  exact h
theorem Blk.chg {w w' : World} {b : Nat} {vs : List Value} {t : TypeId} {S : Nat → Prop} (h : Blk w b vs t) (hc : ChgS S w w') (hn : ¬ S b) : Blk w' b vs t := by
  unfold Blk
  rw [hc.block b h.lt hn]
  exact h
theorem Blk.set {w : World} {b : Nat} {vs : List Value} {t : TypeId} (h : Blk w b vs t) (i : Nat) (u : Value) : Blk (w.setCell ⟨b, i, none⟩ u) b (vs.set i u) t := by
  have hlt := h.lt
  have h' : w.heap[b] = .cells vs.toArray t (0, 0) := by simpa [Blk, Array.getElem?_eq_getElem hlt] using h
  show (w.heap.modify b _)[b]? = _
  rw [Array.getElem?_eq_getElem (by simpa using hlt), Array.getElem_modify_self, h']
  simp
theorem Blk.other {w : World} {b : Nat} {vs : List Value} {t : TypeId} (h : Blk w b vs t) {p : Addr} (hp : b ≠ p.block) (u : Value) : Blk (w.setCell p u) b vs t := by
  unfold Blk
  rw [Below.heap_setCell _ _ _ _ hp]
  exact h
theorem Blk.cell {w : World} {b : Nat} {vs : List Value} {t : TypeId} (h : Blk w b vs t) (i : Nat) (hi : i < vs.length) : w.cell? ⟨b, i, none⟩ = some vs[i] := by
  unfold Blk at h
  simp [World.cell?, h, hi]
theorem Blk.free {w : World} {b : Nat} {vs : List Value} {t : TypeId} (h : Blk w b vs t) (i : Nat) : w.frozen? ⟨b, i, none⟩ = false := by
  unfold Blk at h
  simp [World.frozen?, h]
theorem Blk.c1 {w : World} {b : Nat} {x : Value} {t : TypeId} (h : Blk w b [x] t) : b < w.heap.size ∧ w.cell? ⟨b, 0, none⟩ = some x := ⟨h.lt, h.cell 0 (by simp)⟩
theorem Blk.c2 {w : World} {b : Nat} {x y : Value} {t : TypeId} (h : Blk w b [x, y] t) : b < w.heap.size ∧ w.cell? ⟨b, 0, none⟩ = some x ∧ w.cell? ⟨b, 1, none⟩ = some y := ⟨h.lt, h.cell 0 (by simp), h.cell 1 (by simp)⟩
theorem Blk.c3 {w : World} {b : Nat} {x y z : Value} {t : TypeId} (h : Blk w b [x, y, z] t) : b < w.heap.size ∧ w.cell? ⟨b, 0, none⟩ = some x ∧ w.cell? ⟨b, 1, none⟩ = some y ∧ w.cell? ⟨b, 2, none⟩ = some z :=
  ⟨h.lt, h.cell 0 (by simp), h.cell 1 (by simp), h.cell 2 (by simp)⟩
theorem Blk.c4 {w : World} {b : Nat} {x y z u : Value} {t : TypeId} (h : Blk w b [x, y, z, u] t) : b < w.heap.size ∧ w.cell? ⟨b, 0, none⟩ = some x ∧ w.cell? ⟨b, 1, none⟩ = some y ∧ w.cell? ⟨b, 2, none⟩ = some z ∧ w.cell? ⟨b, 3, none⟩ = some u :=
  ⟨h.lt, h.cell 0 (by simp), h.cell 1 (by simp), h.cell 2 (by simp), h.cell 3 (by simp)⟩
theorem Blk.c5 {w : World} {b : Nat} {x y z u v : Value} {t : TypeId} (h : Blk w b [x, y, z, u, v] t) : b < w.heap.size ∧ w.cell? ⟨b, 0, none⟩ = some x ∧ w.cell? ⟨b, 1, none⟩ = some y ∧ w.cell? ⟨b, 2, none⟩ = some z ∧ w.cell? ⟨b, 3, none⟩ = some u ∧ w.cell? ⟨b, 4, none⟩ = some v :=
  ⟨h.lt, h.cell 0 (by simp), h.cell 1 (by simp), h.cell 2 (by simp), h.cell 3 (by simp), h.cell 4 (by simp)⟩
/-- That the cells may be written. -/
theorem Blk.f1 {w : World} {b : Nat} {vs : List Value} {t : TypeId} (h : Blk w b vs t) : w.frozen? ⟨b, 0, none⟩ = false := h.free 0
theorem Blk.f3 {w : World} {b : Nat} {vs : List Value} {t : TypeId} (h : Blk w b vs t) : w.frozen? ⟨b, 0, none⟩ = false ∧ w.frozen? ⟨b, 1, none⟩ = false ∧ w.frozen? ⟨b, 2, none⟩ = false := ⟨h.free 0, h.free 1, h.free 2⟩
theorem Blk.drew {w : World} {b : Nat} {vs : List Value} {t : TypeId} (h : Blk w b vs t) : Blk w.drew b vs t := h
theorem Blk.alloc {w : World} {b : Nat} {vs : List Value} {t : TypeId} (h : Blk w b vs t) (o : Obj) : Blk (w.alloc o) b vs t := h.below ((Below.refl _ _).alloc (Nat.le_refl _) _)
/-- A store changes the block that it goes into, alone. -/
theorem ChgS.set (w : World) (p : Addr) (u : Value) : ChgS (fun k => k = p.block) w (w.setCell p u) :=
  ⟨rfl, rfl, rfl, Nat.le_of_eq (World.size_setCell _ _ _).symm, fun k _ hn => Below.heap_setCell _ _ _ _ hn⟩
theorem Sp.own_alloc {α : Type} (s : Sp α) {w : World} {S : Nat → Prop} {v : Value} {x : α} (h : s.own w S v x) (o : Obj) : s.own (w.alloc o) S v x := s.own_below h ((Below.refl _ _).alloc (Nat.le_refl _) _)
theorem Sp.rd_alloc {α : Type} (s : Sp α) {w : World} {v : Value} {x : α} (h : s.rd w v x) (o : Obj) : s.rd (w.alloc o) v x := s.rd_below h ((Below.refl _ _).alloc (Nat.le_refl _) _)
/-- A store into a block that is none of its own. -/
theorem Sp.own_set {α : Type} (s : Sp α) {w : World} {S : Nat → Prop} {v : Value} {x : α} (h : s.own w S v x) {p : Addr} (hp : ¬ S p.block) (u : Value) : s.own (w.setCell p u) S v x :=
  s.own_keep h fun k hk => Below.heap_setCell _ _ _ _ (fun e => hp (e ▸ hk))
theorem Sp.own_drew {α : Type} (s : Sp α) {w : World} {S : Nat → Prop} {v : Value} {x : α} (h : s.own w S v x) : s.own w.drew S v x := s.own_keep h fun k hk => rfl
theorem Sp.rd_drew {α : Type} (s : Sp α) {w : World} {v : Value} {x : α} (h : s.rd w v x) : s.rd w.drew v x := s.rd_keep h (Nat.le_refl _) fun k hk => rfl
end Go.Proofs.Ytggkoihlmijacaa
