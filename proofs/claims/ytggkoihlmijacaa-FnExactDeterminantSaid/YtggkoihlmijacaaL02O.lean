/- Rows of residues copied; the rows of a matrix as residues. -/
import Derived.Test.YtggkoihlmijacaaL02F
import Derived.Test.YtggkoihlmijacaaL02M
import Derived.Test.YtggkoihlmijacaaKB
import Derived.OwnWalk
namespace Go.Proofs.Ytggkoihlmijacaa
open Go.RowKit
set_option linter.unusedVariables false
set_option linter.unusedSimpArgs false

theorem cells_rd {p : Int} {w : World} {A : Option Addr} {n c : Nat} {x : List Int} (h : (spR p).rd w (.slice A n c) x) : RdC w A (resCells p x) := by
  intro j hj
  rw [resCells_length] at hj
  have hj2 : j / 2 < x.length := by omega
  obtain ⟨g, o, rfl, hg, hc, hd⟩ := spR_at h hj2
  obtain ⟨e1, e2⟩ := resCells_get p x (j / 2) hj2
  refine ⟨g, o, rfl, ?_⟩
  rcases Nat.mod_two_eq_zero_or_one j with h0 | h0
  · have e : j / 2 * 2 = j := by omega
    rw [e] at hc e1
    rw [hc, List.getD_eq_getElem?_getD (l := resCells p x), e1]
    rfl
  · have e : j / 2 * 2 + 1 = j := by omega
    have e' : o + j / 2 * 2 + 1 = o + j := by omega
    rw [e'] at hd
    rw [e] at e2
    rw [hd, List.getD_eq_getElem?_getD (l := resCells p x), e2]
    rfl
theorem oneCell_res (p : Int) (xs : List Int) : ∀ u ∈ resCells p xs, u.oneCell' = true := by
  intro u hu
  simp only [resCells, List.mem_flatMap] at hu
  obtain ⟨y, _, hy⟩ := hu
  simp at hy
  rcases hy with rfl | rfl <;> rfl
theorem Made.rowR {p : Int} {w w' : World} {v : Value} {xs : List Int} {e : Ending} {base : Nat} (h1 : e = .returned v) (h2 : w'.ownsRow base 60 2 v xs.length (resCells p xs)) (hb : w.heap.size ≤ base) (h3 : Below w.heap.size w w') : Made (spR p) xs w e w' :=
  Made.of h1 (S := fun k => v.ownBlock = some k) ⟨ownsRow_base h2 (Nat.zero_le _), fun k h => h, fun k h => (World.ownsRow.lt h2 k h).2⟩ (fun k h => by have := (World.ownsRow.lt h2 k h).1; omega) h3
set_option maxRecDepth 100000 in
set_option maxHeartbeats 1000000 in
theorem clone_any (p : Int) (v : Value) (xs : List Int) (w : World) (h : (spR p).rd w v xs) (hl : xs.length ≤ 1000) :
    Calls Try.prog 105 #[v] w (Made (spR p) xs w) := by
  obtain ⟨A, c, rfl, hm⟩ := spR_form h
  obtain ⟨i0, hi, hz0, hz1, hz2⟩ := info_parts infoR
  have HR := Lib.hid h
  cases A with
  | none =>
    obtain rfl : xs = [] := by
      cases xs with
      | nil => rfl
      | cons a l => obtain ⟨g, o, e, _⟩ := spR_at h (j := 0) (by simp); cases e
    have qn : ∀ (W : World) (a : Option Addr) (n c n' c' : Nat), (binOp .eql 56 (.slice a n c) (.slice none n' c')).run Try.prog W = .ok (.bool a.isNone) W := fun W a n c n' c' => Lib.run_eql_slice_nil W _ _ a n c n' c' Try.underlying56
    clear h
    go_enter Try.func105, Try.ntmps105
    go_wp2_with (fail)
    go_ret
    exact Made.rowR (base := w.heap.size) rfl (World.ownsRow_nil _ _ _ _) (Nat.le_refl _) (Below.refl _ _)
  | some a =>
    have h0 : (w.alloc (.cells #[] 60)).ownsRow w.heap.size 60 2 (.slice (some ⟨w.heap.size, 0, none⟩) 0 0) 0 [] := World.ownsRow_lit w #[] 0 (Nat.le_refl _) (by unfold maxLen; omega) rfl
    have b0 : Below w.heap.size w (w.alloc (.cells #[] 60)) := by go_grown
    have qn : ∀ (W : World) (a : Option Addr) (n c n' c' : Nat), (binOp .eql 56 (.slice a n c) (.slice none n' c')).run Try.prog W = .ok (.bool a.isNone) W := fun W a n c n' c' => Lib.run_eql_slice_nil W _ _ a n c n' c' Try.underlying56
    have HC := Lib.hid (cells_rd ((spR p).rd_below HR.out b0))
    have HO := Lib.hid h0
    clear h0 h
    go_enter Try.func105, Try.ntmps105
    go_wp2_with (first | (at_builtin; refine wpList_append_listN _ rfl _ _ 56 rfl w.heap.size 60 i0 (.agg #[.int .i64 0, .int .i64 0]) 2 16 Try.underlying56 hi hz0 hz1 hz2 rfl (by decide) (.slice (some ⟨w.heap.size, 0, none⟩) 0 0) 0 [] rfl HO.out (some a) xs.length c (resCells p xs) (resCells_length p xs) rfl HC.out (oneCell_res p xs) (by unfold maxLen; omega) (by omega) (by go_size) ?_; intro v' w' own' gr' at'))
    have HO' : Hid (w'.ownsRow w.heap.size 60 2 v' xs.length (resCells p xs)) := Lib.hid (by simpa using own')
    have L : Below w.heap.size w w' := b0.grown gr' (by go_size) (fun k hk => by simp [Value.ownBlock] at hk; omega)
    clear own' gr' at'
    go_wp2_with (fail)
    go_ret
    exact Made.rowR rfl HO'.out (Nat.le_refl _) L
end Go.Proofs.Ytggkoihlmijacaa
