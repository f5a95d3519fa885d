/- Plain arithmetic without Go: direct products of presentations. -/
import Derived.Test.YtncpngmplddbkaaNumPr
namespace Go.Proofs.Ytncpngmplddbkaa.Num
set_option linter.unusedVariables false
set_option linter.unusedSimpArgs false

theorem getDset {β : Type} (L : List β) (d v : β) (i j : Nat) (hi : i < L.length) : (L.set i v).getD j d = if j = i then v else L.getD j d := by
  by_cases h : j = i
  · subst h; rw [if_pos rfl, List.getD_eq_getElem?_getD, List.getElem?_set_self hi]; rfl
  · rw [if_neg h, List.getD_eq_getElem?_getD, List.getElem?_set_ne (Ne.symm h), ← List.getD_eq_getElem?_getD]
theorem set_getD {β : Type} (L : List β) (d : β) (j : Nat) (h : j < L.length) : L.set j (L.getD j d) = L := by
  rw [List.getD_eq_getElem?_getD, List.getElem?_eq_getElem h]
  exact List.set_getElem_self h
theorem set_set' {β : Type} (L : List β) (u v : β) (j : Nat) : (L.set j u).set j v = L.set j v := List.set_set ..
/-- A unit vector, and the trivial conjugates. -/
def uni (n i : Nat) : List Int := (List.replicate n 0).set i 1
theorem uni_len (n i : Nat) : (uni n i).length = n := by simp [uni]
theorem uni_at {n i : Nat} (hi : i < n) (j : Nat) (hj : j < n) : (uni n i).getD j 0 = if j = i then 1 else 0 := by
  rw [uni, getDset _ _ _ _ _ (by simpa using hi)]
  by_cases h : j = i
  · rw [if_pos h, if_pos h]
  · rw [if_neg h, if_neg h, List.getD_eq_getElem?_getD, List.getElem?_replicate, if_pos hj]; rfl
/-- Rows of a part, put in from a first one on. -/
def pW (sh : List Int → List Int) (first : Nat) (part W : List (List Int)) : Nat → List (List Int)
  | 0 => W
  | i + 1 => (pW sh first part W i).set (first + i) (sh (part.getD i []))
def pJ (sh : List Int → List Int) (first : Nat) (part J : List (List (List Int))) : Nat → List (List (List Int))
  | 0 => J
  | i + 1 => (pJ sh first part J i).set (first + i) (pW sh 0 (part.getD i []) ((pJ sh first part J i).getD (first + i) []) (part.getD i []).length)
theorem pW_len (sh : List Int → List Int) (first : Nat) (part W : List (List Int)) : ∀ t, (pW sh first part W t).length = W.length
  | 0 => rfl
  | t + 1 => by rw [pW, List.length_set, pW_len sh first part W t]
theorem pJ_len (sh : List Int → List Int) (first : Nat) (part J : List (List (List Int))) : ∀ t, (pJ sh first part J t).length = J.length
  | 0 => rfl
  | t + 1 => by rw [pJ, List.length_set, pJ_len sh first part J t]
theorem pW_at (sh : List Int → List Int) (first : Nat) (part W : List (List Int)) : ∀ t, first + t ≤ W.length → ∀ j, (pW sh first part W t).getD j [] = if first ≤ j ∧ j < first + t then sh (part.getD (j - first) []) else W.getD j []
  | 0, _, j => by rw [pW, if_neg (by omega)]
  | t + 1, h, j => by
    rw [pW, getDset _ _ _ _ _ (by rw [pW_len]; omega)]
    by_cases e : j = first + t
    · rw [if_pos e, if_pos (by omega), show j - first = t by omega]
    · rw [if_neg e, pW_at sh first part W t (by omega) j]
      by_cases e2 : first ≤ j ∧ j < first + t
      · rw [if_pos e2, if_pos (by omega)]
      · rw [if_neg e2, if_neg (by omega)]
theorem pJ_at (sh : List Int → List Int) (first : Nat) (part J : List (List (List Int))) : ∀ t, first + t ≤ J.length → ∀ j, (pJ sh first part J t).getD j [] = if first ≤ j ∧ j < first + t then pW sh 0 (part.getD (j - first) []) (J.getD j []) (part.getD (j - first) []).length else J.getD j []
  | 0, _, j => by rw [pJ, if_neg (by omega)]
  | t + 1, h, j => by
    rw [pJ, getDset _ _ _ _ _ (by rw [pJ_len]; omega)]
    by_cases e : j = first + t
    · rw [if_pos e, if_pos (by omega), show j - first = t by omega, pJ_at sh first part J t (by omega) (first + t), if_neg (by omega), ← e]
    · rw [if_neg e, pJ_at sh first part J t (by omega) j]
      by_cases e2 : first ≤ j ∧ j < first + t
      · rw [if_pos e2, if_pos (by omega)]
      · rw [if_neg e2, if_neg (by omega)]
def shA (n : Nat) (v : List Int) : List Int := v ++ List.replicate n 0
def shB (m : Nat) (v : List Int) : List Int := List.replicate m 0 ++ v
/-- The powers and the conjugates of a direct product, over trivial ones. -/
def dpW (m n : Nat) (A B W : List (List Int)) : List (List Int) := pW (shB m) m B (pW (shA n) 0 A W m) n
def dpJ (m n : Nat) (A B J : List (List (List Int))) : List (List (List Int)) := pJ (shB m) m B (pJ (shA n) 0 A J m) n
theorem getD_rep {n j : Nat} (h : j < n) : (List.replicate n (0 : Int)).getD j 0 = 0 := by
  rw [List.getD_eq_getElem?_getD, List.getElem?_replicate, if_pos h]; rfl
theorem getD_app_l {β : Type} {x y : List β} {d : β} {j : Nat} (h : j < x.length) : (x ++ y).getD j d = x.getD j d := by
  rw [List.getD_eq_getElem?_getD, List.getElem?_append_left h, ← List.getD_eq_getElem?_getD]
theorem getD_app_r {β : Type} {x y : List β} {d : β} {j : Nat} (h : x.length ≤ j) : (x ++ y).getD j d = y.getD (j - x.length) d := by
  rw [List.getD_eq_getElem?_getD, List.getElem?_append_right h, ← List.getD_eq_getElem?_getD]
section
variable {A B : List Int}
theorem fit_A {v : List Int} {z : Nat} (hB : ∀ j, j < B.length → 1 ≤ B.getD j 0) (h : fitB A v z = true) : fitB (A ++ B) (shA B.length v) z = true := by
  obtain ⟨h1, h2⟩ := fitB_out h
  refine fitB_ok (by simp [shA, h1]) fun j hj => ?_
  simp only [shA, List.length_append, List.length_replicate] at hj
  unfold Fit shA
  by_cases hlt : j < v.length
  · rw [getD_app_l hlt, getD_app_l (by omega)]
    exact h2 j hlt
  · rw [getD_app_r (by omega), getD_app_r (by omega), getD_rep (by omega)]
    have := hB (j - A.length) (by omega)
    exact ⟨by omega, by omega, fun _ => rfl⟩
theorem fit_B {v : List Int} {z : Nat} (hA : ∀ j, j < A.length → 1 ≤ A.getD j 0) (h : fitB B v z = true) : fitB (A ++ B) (shB A.length v) (A.length + z) = true := by
  obtain ⟨h1, h2⟩ := fitB_out h
  refine fitB_ok (by simp [shB, h1]) fun j hj => ?_
  simp only [shB, List.length_append, List.length_replicate] at hj
  unfold Fit shB
  by_cases hlt : j < A.length
  · rw [getD_app_l (by simpa using hlt), getD_app_l hlt, getD_rep hlt]
    have := hA j hlt
    exact ⟨by omega, by omega, fun _ => rfl⟩
  · rw [getD_app_r (by simp; omega), getD_app_r (by omega), List.length_replicate]
    have := h2 (j - A.length) (by omega)
    unfold Fit at this
    exact ⟨this.1, this.2.1, fun h => this.2.2 (by omega)⟩
theorem fit_uni {O : List Int} {i z : Nat} (hO : ∀ j, j < O.length → 2 ≤ O.getD j 0) (hi : i < O.length) (hz : z ≤ i) : fitB O (uni O.length i) z = true := by
  refine fitB_ok (uni_len _ _) fun j hj => ?_
  rw [uni_len] at hj
  unfold Fit
  rw [uni_at hi j hj]
  have := hO j hj
  by_cases h : j = i
  · rw [if_pos h]; exact ⟨by omega, by omega, fun hh => by omega⟩
  · rw [if_neg h]; exact ⟨by omega, by omega, fun _ => rfl⟩
end
theorem gpsB_app {A B : List Int} (ha : gpsB A = true) (hb : gpsB B = true) : gpsB (A ++ B) = true := gpsB_ok fun j hj => by
  rw [List.length_append] at hj
  by_cases h : j < A.length
  · rw [getD_app_l h]; exact gpsB_out ha j h
  · rw [getD_app_r (by omega)]; exact gpsB_out hb _ (by omega)
/-- A direct product is valid exactly if its orders are. -/
theorem dp_valid {Oa Ob : List Int} {Wa Wb W : List (List Int)} {Ja Jb J : List (List (List Int))} (ha : preB Oa Wa Ja = true) (hb : preB Ob Wb Jb = true)
    (hW : W.length = Oa.length + Ob.length) (hJl : J.length = Oa.length + Ob.length) (hJ : ∀ i, i < Oa.length + Ob.length → (J.getD i []).length = Oa.length + Ob.length - 1 - i ∧ ∀ k, k < (J.getD i []).length → (J.getD i []).getD k [] = uni (Oa.length + Ob.length) (i + 1 + k)) :
    preB (Oa ++ Ob) (dpW Oa.length Ob.length Wa Wb W) (dpJ Oa.length Ob.length Ja Jb J) = decide (ordC (Oa ++ Ob) = 0) := by
  by_cases h0 : ordC (Oa ++ Ob) = 0
  · rw [decide_eq_true h0]
    obtain ⟨a1, a2, a3, a4, a5⟩ := preB_out ha
    obtain ⟨b1, b2, b3, b4, b5⟩ := preB_out hb
    have ga := (ordC_zero a1).2.1
    have gb := (ordC_zero b1).2.1
    have gA : ∀ j, j < Oa.length → 1 ≤ Oa.getD j 0 := fun j hj => by have := gpsB_at ga hj; omega
    have gB : ∀ j, j < Ob.length → 1 ≤ Ob.getD j 0 := fun j hj => by have := gpsB_at gb hj; omega
    have gO : ∀ j, j < (Oa ++ Ob).length → 2 ≤ (Oa ++ Ob).getD j 0 := fun j hj => (gpsB_at (gpsB_app ga gb) hj).1
    have lO : (Oa ++ Ob).length = Oa.length + Ob.length := List.length_append
    refine preB_ok h0 (by rw [dpW, pW_len, pW_len, hW, lO]) (by rw [dpJ, pJ_len, pJ_len, hJl, lO]) (fun i hi => ?_) fun i hi => ?_
    · rw [lO] at hi
      rw [dpW, pW_at _ _ _ _ _ (by rw [pW_len]; omega)]
      by_cases e : i < Oa.length
      · rw [if_neg (by omega), pW_at _ _ _ _ _ (by omega), if_pos (by omega)]
        exact fit_A gB (a4 i e)
      · rw [if_pos (by omega)]
        have := fit_B (A := Oa) gA (b4 (i - Oa.length) (by omega))
        rwa [show Oa.length + (i - Oa.length + 1) = i + 1 by omega] at this
    · rw [lO] at hi
      obtain ⟨j1, j2⟩ := hJ i hi
      rw [dpJ, pJ_at _ _ _ _ _ (by rw [pJ_len]; omega)]
      by_cases e : i < Oa.length
      · rw [if_neg (by omega), pJ_at _ _ _ _ _ (by omega), if_pos (by omega), Nat.sub_zero]
        obtain ⟨c1, c2⟩ := conB_out (a5 i e)
        refine conB_ok (by rw [pW_len, j1, lO]) fun k hk => ?_
        rw [pW_len] at hk
        rw [pW_at _ _ _ _ _ (by omega)]
        by_cases e2 : k < (Ja.getD i []).length
        · rw [if_pos (by omega), Nat.sub_zero]
          exact fit_A gB (c2 k e2)
        · rw [if_neg (by omega), j2 k hk]
          have := fit_uni (O := Oa ++ Ob) (i := i + 1 + k) (z := i + 1) gO (by omega) (by omega)
          rwa [lO] at this
      · rw [if_pos (by omega), pJ_at _ _ _ _ _ (by omega), if_neg (by omega)]
        obtain ⟨c1, c2⟩ := conB_out (b5 (i - Oa.length) (by omega))
        refine conB_ok (by rw [pW_len, j1, lO]) fun k hk => ?_
        rw [pW_len] at hk
        rw [pW_at _ _ _ _ _ (by omega), if_pos (by omega), Nat.sub_zero]
        have := fit_B (A := Oa) gA (c2 k (by omega))
        rwa [show Oa.length + (i - Oa.length + 1) = i + 1 by omega] at this
  · rw [decide_eq_false h0]
    exact preB_no fun hh => h0 hh.1
end Go.Proofs.Ytncpngmplddbkaa.Num
