/- Lists of structs of several cells: what their cells are, own lists of such, one more behind them. -/
import Derived.Test.YtahmhdpgdhfjnaaL11E
namespace Go.Proofs.Ytahmhdpgdhfjnaa
open Go.RowKit
set_option linter.unusedVariables false
set_option linter.unusedSimpArgs false
variable {β : Type}

theorem mc_len {f : β → List Value} {m : Nat} (hf : ∀ p, (f p).length = m) (ps : List β) : (ps.flatMap f).length = ps.length * m := by
  induction ps with
  | nil => simp
  | cons a l ih => rw [List.flatMap_cons, List.length_append, ih, hf, List.length_cons, Nat.succ_mul]; omega
theorem mc_at {f : β → List Value} {m : Nat} (hf : ∀ p, (f p).length = m) : ∀ (ps : List β) (j k : Nat) (hj : j < ps.length) (hk : k < m), (ps.flatMap f)[j * m + k]? = (f ps[j])[k]?
  | [], j, k, hj, hk => by simp at hj
  | a :: l, 0, k, hj, hk => by
    rw [List.flatMap_cons, Nat.zero_mul, Nat.zero_add, List.getElem_cons_zero, List.getElem?_append_left (by rw [hf]; omega)]
  | a :: l, j + 1, k, hj, hk => by
    have ih := mc_at hf l j k (by simpa using hj) hk
    rw [List.flatMap_cons, List.getElem_cons_succ, ← ih, List.getElem?_append_right (by rw [hf, Nat.succ_mul]; omega), hf]
    congr 1
    rw [Nat.succ_mul]
    omega
def OwnM (f : β → List Value) (m : Nat) (t : TypeId) (w : World) (base : Nat) (v : Value) (ps : List β) : Prop := w.ownsRow base t m v ps.length (ps.flatMap f)
theorem OwnM.nil {f : β → List Value} {m : Nat} {t : TypeId} (w : World) (base : Nat) : OwnM f m t w base (.slice none 0 0) [] := World.ownsRow_nil _ _ _ _
theorem OwnM.form {f : β → List Value} {m : Nat} {t : TypeId} {w : World} {base : Nat} {v : Value} {ps : List β} (h : OwnM f m t w base v ps) : ∃ A c, v = .slice A ps.length c ∧ ps.length ≤ c := by
  rcases h.2 with ⟨rfl, h0⟩ | ⟨g, cap, cur, rfl, hb, hg, h1, h2, -⟩
  · exact ⟨none, 0, by rw [h0], by omega⟩
  · exact ⟨_, cap, rfl, h1⟩
theorem OwnM.at_ {f : β → List Value} {m : Nat} {t : TypeId} (hf : ∀ p, (f p).length = m) {w : World} {base : Nat} {A : Option Addr} {n c : Nat} {ps : List β} (h : OwnM f m t w base (.slice A n c) ps) {j : Nat} (hj : j < ps.length) :
    ∃ g, A = some ⟨g, 0, none⟩ ∧ base ≤ g ∧ g < w.heap.size ∧ ∀ k, k < m → w.cell? ⟨g, j * m + k, none⟩ = (f ps[j])[k]? := by
  have h0 := h
  rcases h.2 with ⟨h2, h3⟩ | ⟨g, cap, cur, hv, hb, hg, h1⟩
  · omega
  · simp only [Value.slice.injEq] at hv
    obtain ⟨rfl, rfl, rfl⟩ := hv
    have hl := World.ownsRow.lt h0 g rfl
    refine ⟨g, rfl, hl.1, hl.2, fun k hk => ?_⟩
    have hlt : j * m + k < ps.length * m := by
      have : (j + 1) * m ≤ ps.length * m := Nat.mul_le_mul_right _ hj
      rw [Nat.succ_mul] at this
      omega
    rw [World.ownsRow.cellAt h0 (j * m + k) hlt]
    exact mc_at hf ps j k hj hk
/-- One more appended: what stays of the list and of the world. -/
theorem OwnM.push {f : β → List Value} {m : Nat} {t : TypeId} {B : Nat} {w0 wr w1 : World} {o : Obj} {v v' : Value} {ps : List β} {p : β} (own : OwnM f m t wr B v ps) (bw : Below B w0 wr) (hB : B ≤ wr.heap.size)
    (own' : w1.ownsRow B t m v' (ps.length + 1) (ps.flatMap f ++ f p)) (gr : (wr.alloc o).grownBy w1 v.ownBlock) : OwnM f m t w1 B v' (ps ++ [p]) ∧ Below B w0 w1 := by
  refine ⟨?_, (bw.alloc hB _).grown gr (by go_size) (fun k hk => (World.ownsRow.lt own k hk).1)⟩
  unfold OwnM
  simpa using own'
end Go.Proofs.Ytahmhdpgdhfjnaa
