/- Presentations: AbelianPresentation of both sides. -/
import Derived.Test.YtahmhdpgdhfjnaaL11N
namespace Go.Proofs.Ytahmhdpgdhfjnaa
open Go.RowKit
set_option linter.unusedVariables false
set_option linter.unusedSimpArgs false

def noPres : Pres := ⟨[], [], []⟩
def rAbelianPresentation (O : List Int) : Pres := if Num.ordC O = 0 then trivP O else noPres
def cAbelianPresentation (O : List Int) : Int := Num.ordC O
theorem Num.trivR_mem (n i : Nat) : ∀ k, ∀ r ∈ Num.trivR n i k, r.length ≤ n
  | 0, r, h => by simp [Num.trivR] at h
  | k + 1, r, h => by
    rw [Num.trivR, List.mem_append, List.mem_singleton] at h
    rcases h with h | h
    · exact Num.trivR_mem n i k r h
    · rw [h, Num.unit7_len]; exact Nat.le_refl _
theorem Num.trivJ_mem (n : Nat) : ∀ k, ∀ r ∈ Num.trivJ n k, ∃ i j, r = Num.trivR n i j ∧ j ≤ n
  | 0, r, h => by simp [Num.trivJ] at h
  | k + 1, r, h => by
    rw [Num.trivJ, List.mem_append, List.mem_singleton] at h
    rcases h with h | h
    · exact Num.trivJ_mem n k r h
    · exact ⟨_, _, h, by omega⟩
theorem trivP_cnt {O : List Int} (h : O.length ≤ 64) : spPres.cnt (trivP O) ≤ 1000000000 := by
  show O.length + sumOf spI.cnt (List.replicate O.length (List.replicate O.length 0)) + sumOf spII.cnt (Num.trivJ O.length O.length) ≤ _
  have h1 := sumOf_bd spI.cnt 64 (List.replicate O.length (List.replicate O.length (0 : Int))) fun x hx => by
    rw [List.eq_of_mem_replicate hx]
    show (List.replicate O.length (0 : Int)).length ≤ _
    rw [List.length_replicate]; exact h
  have h2 := sumOf_bd spII.cnt (64 * 64) (Num.trivJ O.length O.length) fun x hx => by
    obtain ⟨i, j, rfl, hj⟩ := Num.trivJ_mem _ _ x hx
    have h3 := sumOf_bd spI.cnt 64 (Num.trivR O.length i j) fun y hy => Nat.le_trans (Num.trivR_mem _ _ _ y hy) h
    rw [Num.trivR_len] at h3
    show sumOf spI.cnt _ ≤ _
    have := Nat.mul_le_mul_right 64 (Nat.le_trans hj h)
    omega
  rw [List.length_replicate] at h1
  rw [Num.trivJ_len] at h2
  have h4 := Nat.mul_le_mul_right 64 h
  have h5 := Nat.mul_le_mul_right (64 * 64) h
  omega
theorem spL_nil' (w : World) : spI.own w (fun _ => False) (.slice none 0 0) [] := ⟨World.ownsRow_nil _ _ _ _, fun k e => by simp [Value.ownBlock] at e, fun k h => h.elim⟩
/-- What a function leaves that returns no presentation. -/
theorem MadeC.noPres {w w' : World} {c : Int} (hb : Below w.heap.size w w') : MadeC spPres noPres c w (.returned (.tuple #[.agg #[.slice none 0 0, .slice none 0 0, .slice none 0 0], .int .i64 c])) w' :=
  ⟨_, fun k => False ∨ False ∨ False, rfl, own_pres (spL_nil' _) (spL_nil _ _ _ _) (spL_nil _ _ _ _) (fun k h => h.elim) (fun k h => h.elim) (fun k h => h.elim), fun k hk => by rcases hk with h | h | h <;> exact h.elim, by
    show ([] : List Int).length + sumOf spI.cnt [] + sumOf spII.cnt [] ≤ _
    simp [sumOf], hb⟩
end Go.Proofs.Ytahmhdpgdhfjnaa
