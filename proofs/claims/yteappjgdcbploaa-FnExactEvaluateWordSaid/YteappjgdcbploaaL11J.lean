/- Presentations: PresentationRelators. -/
import Derived.Test.YteappjgdcbploaaL11I
import Derived.Test.YteappjgdcbploaaPush
namespace Go.Proofs.Yteappjgdcbploaa
open Go.RowKit
set_option linter.unusedVariables false
set_option linter.unusedSimpArgs false

/-- The relator of a relation. -/
def Num.relL (q : Num.Rel) : List Int := if q.g = q.b then List.replicate q.o.toNat (q.b + 1) else [-(q.b + 1), q.g + 1, q.b + 1]
def Num.relW (q : Num.Rel) : List Int := Num.relL q ++ Num.invW (Num.wrd q.x)
def rPresentationRelators (p : Pres) : List (List Int) := if p.ok = true then (Num.rels p.O p.W p.J).map Num.relW else []
def cPresentationRelators (p : Pres) : Int := if p.ok = true then 0 else 1
theorem Num.wrdTo_small {v : List Int} (h : v.length ≤ 6) : ∀ i, i ≤ v.length → Num.SmallW (Num.wrdTo v i)
  | 0, _ => Num.SmallW.nil
  | i + 1, hi => by
    rw [Num.wrdTo]
    refine Num.SmallW.app (Num.wrdTo_small h i (by omega)) fun z hz => ?_
    have := List.eq_of_mem_replicate hz
    omega
theorem Num.wrd_small {v : List Int} (h : v.length ≤ 6) : Num.SmallW (Num.wrd v) := Num.wrdTo_small h _ (Nat.le_refl _)
/-- What a relation of a valid presentation is like. -/
def Num.RelOk (n : Nat) (q : Num.Rel) : Prop := q.x.length ≤ 6 ∧ (∀ j, j < q.x.length → 0 ≤ q.x.getD j 0 ∧ q.x.getD j 0 ≤ 64) ∧ (∃ i j : Nat, q.b = i ∧ q.g = j ∧ i < n ∧ j < n) ∧ 2 ≤ q.o ∧ q.o ≤ 7
theorem Num.rels_ok {O : List Int} {W : List (List Int)} {J : List (List (List Int))} (h : Num.preB O W J = true) : ∀ q, q ∈ Num.rels O W J → Num.RelOk O.length q := by
  intro q hq
  obtain ⟨h1, h2, h3, h4, h5⟩ := Num.preB_out h
  obtain ⟨h6, hg, -⟩ := Num.ordC_zero h1
  have fit : ∀ x z, Num.fitB O x z = true → x.length ≤ 6 ∧ ∀ j, j < x.length → 0 ≤ x.getD j 0 ∧ x.getD j 0 ≤ 64 := fun x z hf => by
    obtain ⟨e1, e2⟩ := Num.fitB_out hf
    refine ⟨by omega, fun j hj => ?_⟩
    have a := e2 j hj
    unfold Num.Fit at a
    have b := Num.gpsB_at hg (j := j) (by omega)
    exact ⟨a.1, by omega⟩
  rcases Num.rels_mem.mp hq with ⟨j, hj, rfl⟩ | ⟨j, k, hj, hk, rfl⟩
  · obtain ⟨a, b⟩ := fit _ _ (h4 j hj)
    exact ⟨a, b, ⟨j, j, rfl, rfl, hj, hj⟩, Num.gpsB_at hg hj⟩
  · obtain ⟨c1, c2⟩ := Num.conB_out (h5 j hj)
    obtain ⟨a, b⟩ := fit _ _ (c2 k hk)
    exact ⟨a, b, ⟨j, j + 1 + k, rfl, by simp, hj, by omega⟩, Num.gpsB_at hg hj⟩
theorem Num.relW_len {n : Nat} {q : Num.Rel} (h : Num.RelOk n q) : (Num.relW q).length ≤ 1000 := by
  obtain ⟨h1, h2, -, h3, h4⟩ := h
  have := Num.wrd_len h2
  have e : (Num.relL q).length ≤ 7 := by
    unfold Num.relL
    split
    · rw [List.length_replicate]; omega
    · simp
  rw [Num.relW, List.length_append, Num.invW_len]
  omega
theorem isPower_any (v : Value) (i j : Nat) (o : Int) (w : World) :
    Calls Try.prog 148 #[.agg #[v, .int .i64 (j : Int), .int .i64 (i : Int), .int .i64 o]] w fun e w' => e = .returned (.bool (decide (j = i))) ∧ Below w.heap.size w w' := by
  have b0 : Below w.heap.size w (w.alloc (.cells #[v, .int .i64 (j : Int), .int .i64 (i : Int), .int .i64 o] 102)) := by go_grown
  by_cases h : j = i
  · have T : ((j : Int) == (i : Int)) = true := by simp [h]
    have E := Lib.hid (decide_eq_true h)
    clear h
    go_enter Try.func148, Try.ntmps148
    go_wp2_with (fail)
    go_ret
    exact ⟨by rw [E.out]; rfl, b0⟩
  · have T : ((j : Int) == (i : Int)) = false := beq_eq_false_iff_ne.mpr (by omega)
    have E := Lib.hid (decide_eq_false h)
    clear h
    go_enter Try.func148, Try.ntmps148
    go_wp2_with (fail)
    go_ret
    exact ⟨by rw [E.out]; rfl, b0⟩
end Go.Proofs.Yteappjgdcbploaa
