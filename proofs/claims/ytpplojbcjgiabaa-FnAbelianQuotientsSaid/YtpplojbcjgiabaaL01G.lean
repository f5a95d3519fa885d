/- Contracts of Factorize, of the program and of the model: two lists in memory of the call's own. -/
import Derived.Test.YtpplojbcjgiabaaNumF
import Derived.Test.YtpplojbcjgiabaaL01D
import Derived.Test.YtpplojbcjgiabaaKB
import Derived.Maps.AppendAt
namespace Go.Proofs.Ytpplojbcjgiabaa
open Go.RowKit
set_option linter.unusedVariables false
set_option linter.unusedSimpArgs false

/-- Behind an append to each of two rows. -/
theorem two_rows {w wr w1 w2 : World} {v1 v2 v1' v2' : Value} {ps es : List Int} {x y : Int} {t t' : TypeId} (own1 : OwnI wr w.heap.size v1 ps) (own2 : OwnI wr w.heap.size v2 es) (hap : ApartV v1 v2) (hbel : Below w.heap.size w wr) (hz : w.heap.size ≤ wr.heap.size)
    (hown1 : w1.ownsRow w.heap.size 2 1 v1' (ps.length + 1) (ps.map (Value.int .i64) ++ [.int .i64 x])) (hg1 : (wr.alloc (.cells #[.int .i64 x] t)).grownBy w1 v1.ownBlock) (ha1 : v1'.ownBlock = v1.ownBlock ∨ v1'.ownBlock = some (wr.alloc (.cells #[.int .i64 x] t)).heap.size)
    (hown2 : w2.ownsRow w.heap.size 2 1 v2' (es.length + 1) (es.map (Value.int .i64) ++ [.int .i64 y])) (hg2 : (w1.alloc (.cells #[.int .i64 y] t')).grownBy w2 v2.ownBlock) (ha2 : v2'.ownBlock = v2.ownBlock ∨ v2'.ownBlock = some (w1.alloc (.cells #[.int .i64 y] t')).heap.size) :
    OwnI w2 w.heap.size v1' (ps ++ [x]) ∧ OwnI w2 w.heap.size v2' (es ++ [y]) ∧ ApartV v1' v2' ∧ Below w.heap.size w w2 := by
  have lt1 := World.ownsRow.lt own1
  have lt2 := World.ownsRow.lt own2
  have lt1' := World.ownsRow.lt hown1
  have z1 := hg1.size
  simp only [World.size_alloc] at z1 ha1 ha2
  -- the first row's new block is not the second row's
  have n12 : v1'.ownBlock = none ∨ v1'.ownBlock ≠ v2.ownBlock := by
    rcases ha1 with h | h
    · rw [h]; exact hap
    · refine .inr ?_
      rw [h]
      intro e
      have := (lt2 _ e.symm).2
      omega
  refine ⟨?_, OwnI.snoc hown2, ?_, ?_⟩
  · exact ((OwnI.snoc hown1).alloc _).kept hg2 n12
  · rcases ha2 with h | h
    · unfold ApartV; rw [h]; exact n12
    · refine .inr ?_
      rw [h]
      intro e
      have := (lt1' _ e).2
      omega
  · exact ((((hbel.alloc hz _).grown hg1 (by go_size) (fun k hk => (lt1 k hk).1)).alloc (by go_size) _).grown hg2 (by go_size) (fun k hk => (lt2 k hk).1))

/-- What both leave, the slices written out. -/
def FacPost (w : World) (P E : List Int) (e : Ending) (w' : World) : Prop :=
  ∃ A1 c1 A2 c2, e = .returned (.tuple #[.slice A1 P.length c1, .slice A2 E.length c2, .int .i64 0]) ∧ OwnI w' w.heap.size (.slice A1 P.length c1) P ∧ OwnI w' w.heap.size (.slice A2 E.length c2) E ∧ ApartV (.slice A1 P.length c1) (.slice A2 E.length c2) ∧ Below w.heap.size w w'
theorem FacPost.of {w w' : World} {P E : List Int} {e : Ending} (h : ∃ v1 v2, e = .returned (.tuple #[v1, v2, .int .i64 0]) ∧ OwnI w' w.heap.size v1 P ∧ OwnI w' w.heap.size v2 E ∧ ApartV v1 v2 ∧ Below w.heap.size w w') : FacPost w P E e w' := by
  obtain ⟨v1, v2, rfl, h1, h2, h3, h4⟩ := h
  obtain ⟨A1, c1, rfl⟩ := h1.form
  obtain ⟨A2, c2, rfl⟩ := h2.form
  exact ⟨A1, c1, A2, c2, rfl, h1, h2, h3, h4⟩
end Go.Proofs.Ytpplojbcjgiabaa
