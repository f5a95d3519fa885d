/- A presentation that comes in as an argument. -/
import Derived.Test.YtahmhdpgdhfjnaaOpL
import Derived.Test.YtahmhdpgdhfjnaaShPres
import Derived.Deep.Slices
namespace Go.Proofs.Ytahmhdpgdhfjnaa
open Go.RowKit Go.ChangeShapes Go.WideShapes Go.ChangeAt
set_option linter.unusedVariables false
set_option linter.unusedSimpArgs false

section
variable {H : Type} {enc : TypeId × Value → H} {W : World}
theorem choose_to {α : Type} {p : Nat → α → Prop} (d : α) {n : Nat} (h : ∀ i, i < n → ∃ x, p i x) : ∃ f : Nat → α, ∀ i, i < n → p i (f i) := by
  classical
  refine ⟨fun i => if hi : i < n then (h i hi).choose else d, fun i hi => ?_⟩
  simp only [hi, dif_pos]
  exact (h i hi).choose_spec
theorem trod_ints {fuel : Nat} {u : Value} {x : DataW H × List MemPlace} (h : DataW.trod enc Try.prog W 0 (fun _ => true) true fuel 24 [u] = some x) : ∃ xs, spI.rd W u xs := by
  rcases open_ints Try.underlying24 Try.underlying2 (by kernel_rfl) h with ⟨hcs, _⟩ | ⟨x, l, c, zs, hcs, _, hl, hm, hz, _, hcell, hwz⟩
  · simp at hcs
    subst hcs
    exact ⟨[], none, 0, rfl, by simp, fun j hj => by simp at hj⟩
  · simp at hcs
    subst hcs
    have hz' : zs.length = c := by simpa using hz
    have hlen : (zs.take l).length = l := by simp; omega
    refine ⟨zs.take l, some x, c, by rw [hlen], by rw [hlen]; omega, fun j hj => ?_⟩
    rw [hlen] at hj
    obtain ⟨b, o, rfl, hc⟩ := ints_at hcell (by omega)
    have h1 := hc j (by omega)
    refine ⟨b, o, rfl, World.block_lt_of_cell? W _ h1, ?_⟩
    rw [h1]
    simp [List.getElem?_take, hj]
theorem trod_list {α : Type} {s : Sp α} {nul : α} {E t e : TypeId} (ht : Try.prog.underlying t = some (.slice e)) (hc : Try.prog.cellsOf e = 1)
    (each : ∀ n u y, DataW.trod enc Try.prog W 0 (fun _ => true) true n e [u] = some y → ∃ x, s.rd W u x) {fuel : Nat} {u : Value} {x : DataW H × List MemPlace}
    (h : DataW.trod enc Try.prog W 0 (fun _ => true) true fuel t [u] = some x) : ∃ xs, (spL E s nul).rd W u xs := by
  rcases Go.Deep.open_slice1 ht hc h with ⟨hcs, _⟩ | ⟨a, len, cap, m, n, V, D, Pl, hcs, _, hl, hm, hmm, _, hx⟩
  · simp at hcs
    subst hcs
    exact ⟨[], none, 0, rfl, by simp, fun j hj => by simp at hj⟩
  · simp at hcs
    subst hcs
    simp only [if_true] at hmm
    have hmm' := hmm.symm
    subst hmm'
    obtain ⟨X, hX⟩ := choose_to (p := fun r y => s.rd W (V r) y) nul (fun r (hr : r < cap) => each _ _ _ (hx r hr).2)
    refine ⟨(List.range len).map X, some a, cap, by simp, by simp; omega, fun j hj => ?_⟩
    have hj' : j < len := by simpa using hj
    obtain ⟨b, o, rfl⟩ := plain_of (hx 0 (by omega)).1
    have hcell : W.cell? ⟨b, o + j, none⟩ = some (V j) := by rw [← Go.WideShapes.add_plain]; exact (hx j (by omega)).1
    refine ⟨b, o, V j, rfl, World.block_lt_of_cell? W _ hcell, hcell, ?_⟩
    have hg : ((List.range len).map X).getD j nul = X j := by simp [hj']
    rw [hg]
    exact hX j (by omega)
set_option maxRecDepth 100000 in
/-- What a presentation by value says. -/
theorem open_pres {base : Nat} {v : Value} {d : DataW H} {p : List MemPlace}
    (hv : Value.okWide Try.prog W .any base 47 v) (h : DataW.Trod enc Try.prog W 0 (fun _ => true) true 47 v d p) : ∃ x : Pres, spPres.rd W v x := by
  obtain ⟨c0, c1, c2, y0, y1, y2, m, rfl, _, _, hy0, hy1, hy2⟩ := Go.Joins.open_agg3 Try.underlying47 (by kernel_rfl) (by kernel_rfl) hv h
  obtain ⟨O, hO⟩ := trod_ints hy0
  obtain ⟨R, hR⟩ := trod_list (s := spI) (nul := []) (E := 24) Try.underlying25 (by kernel_rfl) (fun n u y hh => trod_ints hh) hy1
  obtain ⟨J, hJ⟩ := trod_list (s := spII) (nul := []) (E := 25) Try.underlying26 (by kernel_rfl) (fun n u y hh => trod_list (s := spI) (nul := []) (E := 24) Try.underlying25 (by kernel_rfl) (fun n u y hh => trod_ints hh) hh) hy2
  exact ⟨⟨O, R, J⟩, _, _, _, rfl, hO, hR, hJ⟩
end
end Go.Proofs.Ytahmhdpgdhfjnaa
