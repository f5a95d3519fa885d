/- Matrices as shapes and as lists read. -/
import Derived.Test.YtggkoihlmijacaaL02A
import Derived.Test.YtggkoihlmijacaaKC
import Derived.Test.YtggkoihlmijacaaL02L
namespace Go.Proofs.Ytggkoihlmijacaa
open Go.RowKit
set_option linter.unusedVariables false
set_option linter.unusedSimpArgs false

theorem rdII_of {w : World} {A : Option Addr} {n c : Nat} {xss : List (List Int)} (h : spII.rd w (.slice A n c) xss) : n = xss.length ∧ xss.length ≤ maxLen ∧ RdII w A xss ∧ ∀ j, j < xss.length → (xss.getD j []).length ≤ maxLen := by
  have h0 := h
  obtain ⟨A', c', e, hm, _⟩ := h0
  simp only [Value.slice.injEq] at e
  refine ⟨e.2.1, hm, fun j hj => ?_, fun j hj => ?_⟩
  all_goals
    obtain ⟨g, o, u, rfl, hg, hc, hr⟩ := spL_row h hj
    obtain ⟨B, cc, rfl, hl, hb⟩ := spI_form hr
    first | exact ⟨g, o, B, cc, rfl, hg, hc, hb⟩ | exact hl
theorem rd_of {w : World} {A : Option Addr} {c : Nat} {xss : List (List Int)} (h : RdII w A xss ∧ (∀ j, j < xss.length → (xss.getD j []).length ≤ maxLen) ∧ xss.length ≤ maxLen) : spII.rd w (.slice A xss.length c) xss :=
  ⟨A, c, rfl, h.2.2, fun j hj => by
    obtain ⟨g, o, B, cc, rfl, hg, hc, hr⟩ := h.1 j hj
    exact ⟨g, o, _, rfl, hg, hc, B, cc, rfl, h.2.1 j hj, hr⟩⟩
theorem rdMat_of {w : World} {P C : Int} {A : Option Addr} {c : Nat} {xss : List (List Int)} (h : RdII w A xss ∧ (∀ j, j < xss.length → (xss.getD j []).length ≤ maxLen) ∧ xss.length ≤ maxLen) : spMat.rd w (.agg #[.int .i64 P, .int .i64 C, .slice A xss.length c]) ⟨P, C, xss⟩ :=
  ⟨_, rfl, rd_of h⟩
theorem isMat_ok (v : Value) (x : Mat) (w : World) (h : spMat.rd w v x) : Calls Try.prog 47 #[v] w (RetB x.ok w) := by
  obtain ⟨A, n, c, rfl, r⟩ := spMat_form h
  obtain ⟨rfl, hm, hr, hl⟩ := rdII_of r
  exact isMat_any x.P x.C A c x.R w hr hl hm
theorem sIsMat_ok (v : Value) (x : Mat) (w : World) (h : spMat.rd w v x) : Calls Try.prog 43 #[v] w (RetB x.ok w) := by
  obtain ⟨A, n, c, rfl, r⟩ := spMat_form h
  obtain ⟨rfl, hm, hr, hl⟩ := rdII_of r
  exact sIsMat_any x.P x.C A c x.R w hr hl hm
theorem isMat_yes (v : Value) (x : Mat) (w : World) (h : spMat.rd w v x) (hk : x.ok = true) : Calls Try.prog 47 #[v] w (RetB true w) := by
  have := isMat_ok v x w h; rwa [hk] at this
theorem isMat_no (v : Value) (x : Mat) (w : World) (h : spMat.rd w v x) (hk : x.ok = false) : Calls Try.prog 47 #[v] w (RetB false w) := by
  have := isMat_ok v x w h; rwa [hk] at this
theorem sIsMat_yes (v : Value) (x : Mat) (w : World) (h : spMat.rd w v x) (hk : x.ok = true) : Calls Try.prog 43 #[v] w (RetB true w) := by
  have := sIsMat_ok v x w h; rwa [hk] at this
theorem sIsMat_no (v : Value) (x : Mat) (w : World) (h : spMat.rd w v x) (hk : x.ok = false) : Calls Try.prog 43 #[v] w (RetB false w) := by
  have := sIsMat_ok v x w h; rwa [hk] at this
end Go.Proofs.Ytggkoihlmijacaa
