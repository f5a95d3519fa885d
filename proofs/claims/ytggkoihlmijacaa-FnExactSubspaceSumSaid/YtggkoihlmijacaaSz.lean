/- Sizes of valid matrices. -/
import Derived.Test.YtggkoihlmijacaaKC
import Derived.Test.YtggkoihlmijacaaL02L
namespace Go.Proofs.Ytggkoihlmijacaa
open Go.RowKit
set_option linter.unusedVariables false
set_option linter.unusedSimpArgs false

theorem Mat.ok_sz {x : Mat} (h : x.ok = true) : spMat.sz x ≤ 1048576 := by
  obtain ⟨_, _, _, h3, h4, h5, _⟩ := Mat.ok_out h
  exact sz_bd (Mat.ok_len h) (by omega) (by omega)
theorem Mat.ok_cnt {x : Mat} (h : x.ok = true) : spMat.cnt x ≤ 1000000000 := by
  obtain ⟨_, _, _, h3, h4, h5, _⟩ := Mat.ok_out h
  exact cnt_bd (P := x.P) (C := x.C) (Mat.ok_len h) (by omega) (by omega)
end Go.Proofs.Ytggkoihlmijacaa
