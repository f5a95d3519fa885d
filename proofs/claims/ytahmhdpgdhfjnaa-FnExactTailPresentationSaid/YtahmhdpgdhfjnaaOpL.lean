/- A list of lists that comes in as an argument. -/
import Derived.Test.YtahmhdpgdhfjnaaKB
namespace Go.Proofs.Ytahmhdpgdhfjnaa
open Go.RowKit Go.ChangeShapes Go.WideShapes Go.ChangeAt
set_option linter.unusedVariables false
set_option linter.unusedSimpArgs false

set_option maxRecDepth 100000 in
/-- What a slice of slices of int64 that came in says. -/
theorem open_lists {H : Type} {enc : TypeId × Value → H} {W : World} {base : Nat} {v : Value} {d : DataW H} {p : List MemPlace}
    (hv : Value.okWide Try.prog W .any base 25 v) (h : DataW.Trod enc Try.prog W 0 (fun _ => true) true 25 v d p) :
    ∃ (A : Option Addr) (cap : Nat) (xss : List (List Int)), v = .slice A xss.length cap ∧ RdII W A xss ∧ (∀ j, j < xss.length → (xss.getD j []).length ≤ maxLen) ∧ xss.length ≤ maxLen := by
  obtain ⟨a0, len0, cap0, rfl⟩ := okWide_slice Try.underlying25 hv
  obtain ⟨fuel, hf⟩ := h
  rcases Go.Deep.open_int_rows Try.underlying25 Try.underlying24 Try.underlying2 (by kernel_rfl) (by kernel_rfl) hf with ⟨hc, _⟩ | ⟨a, len, cap, A, L, C', Z, hc, _, hl, hm, _, hr⟩
  · simp [Value.cells] at hc
    obtain ⟨rfl, rfl, rfl⟩ := hc
    exact ⟨none, 0, [], rfl, fun j hj => by simp at hj, fun j hj => by simp at hj, by simp⟩
  · simp [Value.cells] at hc
    obtain ⟨rfl, rfl, rfl⟩ := hc
    refine ⟨some a, cap0, (List.range len0).map fun r => (Z r).take (L r), by simp, fun j hj => ?_, fun j hj => ?_, by simp; omega⟩
    · have hj' : j < len0 := by simpa using hj
      obtain ⟨h1, h2, h3, h4, h5, h6, h7⟩ := hr j (by omega)
      obtain ⟨b, o, rfl⟩ := plain_of (hr 0 (by omega)).1
      have hcell : W.cell? ⟨b, o + j, none⟩ = some (.slice (A j) (L j) (C' j)) := by rw [← Go.WideShapes.add_plain]; exact h1
      have hg : ((List.range len0).map fun r => (Z r).take (L r)).getD j [] = (Z j).take (L j) := by simp [hj']
      rw [hg]
      have hlen : ((Z j).take (L j)).length = L j := by simp; omega
      rw [hlen]
      refine ⟨b, o, A j, C' j, rfl, World.block_lt_of_cell? W _ hcell, hcell, fun i hi => ?_⟩
      rw [hlen] at hi
      cases hA : A j with
      | none => have := h6 hA; omega
      | some a' =>
        obtain ⟨_, hcc⟩ := h7 a' hA
        have hci := hcc i (by omega)
        obtain ⟨b', o', rfl⟩ := plain_of (hcc 0 (by omega))
        have hcell' : W.cell? ⟨b', o' + i, none⟩ = some (.int .i64 ((Z j).getD i 0)) := by rw [← Go.WideShapes.add_plain]; exact hci
        refine ⟨b', o', rfl, World.block_lt_of_cell? W _ hcell', ?_⟩
        rw [hcell']
        simp [List.getElem?_take, hi]
    · have hj' : j < len0 := by simpa using hj
      obtain ⟨h1, h2, h3, h4, h5, h6, h7⟩ := hr j (by omega)
      have hg : ((List.range len0).map fun r => (Z r).take (L r)).getD j [] = (Z j).take (L j) := by simp [hj']
      rw [hg]
      simp; omega
theorem rdLists_of {w : World} {A : Option Addr} {c : Nat} {xss : List (List Int)} (h : RdII w A xss ∧ (∀ j, j < xss.length → (xss.getD j []).length ≤ maxLen) ∧ xss.length ≤ maxLen) : spII.rd w (.slice A xss.length c) xss := by
  obtain ⟨h1, h2, h3⟩ := h
  refine ⟨A, c, rfl, h3, fun j hj => ?_⟩
  obtain ⟨g, o, B, cB, e, hg, hc, hr⟩ := h1 j hj
  exact ⟨g, o, _, e, hg, hc, B, cB, rfl, h2 j hj, hr⟩
end Go.Proofs.Ytahmhdpgdhfjnaa
