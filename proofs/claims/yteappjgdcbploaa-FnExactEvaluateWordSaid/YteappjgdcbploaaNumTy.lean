/- Plain arithmetic without Go: the four conditions at absolute indices; powers by squaring; the first fault of all tails. -/
import Derived.Test.YteappjgdcbploaaL12A
namespace Go.Proofs.Yteappjgdcbploaa.Num
set_option linter.unusedVariables false
set_option linter.unusedSimpArgs false

section
variable {α : Type} {P : α → Prop} {m : α → α → α} {e : α}
theorem Mon.pw_two (M : Mon P m e) {c : α} (hc : P c) : ∀ n : Nat, pw m e c (2 * n) = pw m e (m c c) n
  | 0 => rfl
  | n + 1 => by
    have e1 : 2 * (n + 1) = 2 * n + 1 + 1 := by omega
    rw [e1, pw_succ, pw_succ, M.pw_two hc n, pw_succ, M.assoc _ _ _ (M.pw_P (M.op _ _ hc hc) n) hc hc]
theorem Mon.pw_odd (M : Mon P m e) {c : α} (hc : P c) (n : Nat) : pw m e c (2 * n + 1) = m c (pw m e (m c c) n) := by
  rw [Nat.add_comm, M.pw_add hc, M.pw_two hc]
  congr 1
  exact M.onel c hc
end
section
variable {O : List Int} {W : List (List Int)} {J : List (List (List Int))}
/-- The conjugate of one generator by another one, behind a level. -/
def cV (J : List (List (List Int))) (i j : Nat) : List Int := ((J.getD i []).getD (j - (i + 1)) []).drop (i + 1)
def bP (O : List Int) (W : List (List Int)) (J : List (List (List Int))) (i j : Nat) : Bool := okP (lvA O W J i) (tlL O W J (i + 1)) (j - (i + 1))
def bC (O : List Int) (W : List (List Int)) (J : List (List (List Int))) (i j k : Nat) : Bool := okC (lvA O W J i) (tlL O W J (i + 1)) (j - (i + 1)) (k - (i + 1))
def bF (O : List Int) (W : List (List Int)) (J : List (List (List Int))) (i : Nat) : Bool := okF (lvA O W J i) (tlL O W J (i + 1))
def bI (O : List Int) (W : List (List Int)) (J : List (List (List Int))) (i j : Nat) : Bool := okI (lvA O W J i) (tlL O W J (i + 1)) (j - (i + 1))
def fltA (O : List Int) (W : List (List Int)) (J : List (List (List Int))) (i : Nat) : Flt := fltL (lvA O W J i) (tlL O W J (i + 1)) i
theorem lvA_cjD {i j : Nat} (V : Val O W J) (hij : i < j) (hj : j < O.length) : (lvA O W J i).cj.getD (j - (i + 1)) [] = cV J i j := by
  have hl := V.lr i (by omega)
  have e : (lvA O W J i).cj[j - (i + 1)]? = ((J.getD i []).map (·.drop (i + 1)))[j - (i + 1)]? := rfl
  unfold cV
  rw [List.getD_eq_getElem?_getD, e, List.getElem?_map, List.getD_eq_getElem?_getD (l := J.getD i []), List.getElem?_eq_getElem (by omega)]
  rfl
theorem tlL_getD {i j : Nat} (hij : i < j) (hj : j < O.length) : (tlL O W J (i + 1)).getD (j - (i + 1)) lv0 = lvA O W J j := by
  rw [List.getD_eq_getElem?_getD, tlL_get (by omega), show i + 1 + (j - (i + 1)) = j by omega]
  rfl
theorem bP_at {i j : Nat} (V : Val O W J) (hij : i < j) (hj : j < O.length) :
    bP O W J i j = decide (pw (mulL (tlL O W J (i + 1))) (zer (O.length - (i + 1))) (cV J i j) (O.getD j 0).toNat = imgL (lvA O W J i) (tlL O W J (i + 1)) ((W.getD j []).drop (i + 1))) := by
  unfold bP okP
  rw [lvA_cjD V hij hj, tlL_getD hij hj, tlL_len]
  have e : zer (j - (i + 1) + 1) ++ (lvA O W J j).w = (W.getD j []).drop (i + 1) := by
    rw [drop_pad (z := j + 1) (fun k hk => V.wz j k hj (by omega)) (by rw [V.wl j hj]; omega) (by omega), show j - (i + 1) + 1 = j + 1 - (i + 1) by omega]
    rfl
  rw [e]
  rfl
theorem bC_at {i j k : Nat} (V : Val O W J) (hij : i < j) (hjk : j < k) (hk : k < O.length) :
    bC O W J i j k = decide (mulL (tlL O W J (i + 1)) (cV J i k) (cV J i j) = mulL (tlL O W J (i + 1)) (cV J i j) (imgL (lvA O W J i) (tlL O W J (i + 1)) (((J.getD j []).getD (k - (j + 1)) []).drop (i + 1)))) := by
  unfold bC okC
  rw [lvA_cjD V hij (by omega), lvA_cjD V (j := k) (by omega) hk, tlL_getD hij (by omega)]
  have e : zer (j - (i + 1) + 1) ++ (lvA O W J j).cj.getD (k - (i + 1) - (j - (i + 1)) - 1) [] = ((J.getD j []).getD (k - (j + 1)) []).drop (i + 1) := by
    rw [drop_pad (i := i + 1) (z := j + 1) (fun z hz => V.cz j (k - (j + 1)) z (by omega) (by omega) (by omega)) (by rw [V.cl j (k - (j + 1)) (by omega) (by omega)]; omega) (by omega), show j - (i + 1) + 1 = j + 1 - (i + 1) by omega, show k - (i + 1) - (j - (i + 1)) - 1 = k - (j + 1) by omega, lvA_cjD V hjk hk]
    rfl
  rw [e]
theorem bF_at {i : Nat} : bF O W J i = decide (imgL (lvA O W J i) (tlL O W J (i + 1)) ((W.getD i []).drop (i + 1)) = (W.getD i []).drop (i + 1)) := rfl
theorem gens_at : ∀ (d i : Nat), O.length - i = d → ∀ j, i ≤ j → j < O.length → (gensL (tlL O W J i)).getD (j - i) [] = (unit7 O.length j).drop i
  | 0, i, hd, j, h1, h2 => by omega
  | d + 1, i, hd, j, h1, h2 => by
    rw [tlL_step (by omega), gensL]
    by_cases h : j = i
    · subst h
      rw [Nat.sub_self, List.getD_cons_zero]
      unfold unit7
      rw [List.drop_set, if_neg (by omega), Nat.sub_self, List.drop_replicate, tlL_len, show O.length - j = (O.length - (j + 1)) + 1 by omega]
      rfl
    · have ih := gens_at d (i + 1) (by omega) j (by omega) h2
      rw [show j - i = (j - (i + 1)) + 1 by omega, List.getD_cons_succ, drop_at (l := unit7 O.length j) (i := i) (by rw [unit7_len]; omega)]
      have hl : j - (i + 1) < (gensL (tlL O W J (i + 1))).length := by rw [gensL_len, tlL_len]; omega
      rw [List.getD_eq_getElem?_getD, List.getElem?_eq_getElem hl] at ih
      rw [List.getD_eq_getElem?_getD, List.getElem?_map, List.getElem?_eq_getElem hl]
      show 0 :: _ = _
      congr 1
      unfold unit7
      rw [List.getD_eq_getElem?_getD, List.getElem?_set_ne (by omega), List.getElem?_replicate, if_pos (by omega)]
      rfl
theorem bI_at {i j : Nat} (hij : i < j) (hj : j < O.length) :
    bI O W J i j = decide (mulL (tlL O W J (i + 1)) ((W.getD i []).drop (i + 1)) (iter (imgL (lvA O W J i) (tlL O W J (i + 1))) (O.getD i 0).toNat ((unit7 O.length j).drop (i + 1))) = mulL (tlL O W J (i + 1)) ((unit7 O.length j).drop (i + 1)) ((W.getD i []).drop (i + 1))) := by
  unfold bI okI
  rw [gens_at _ (i + 1) rfl j (by omega) hj]
  rfl
theorem bI_El {i j : Nat} (V : Val O W J) (hj : j < O.length) : El (tlL O W J i) ((unit7 O.length j).drop i) := by
  refine El.drop_of _ i rfl (unit7_len _ _) fun k _ hk => ?_
  have := V.ob k hk
  unfold unit7
  rw [List.getD_eq_getElem?_getD]
  by_cases h : j = k
  · subst h; rw [List.getElem?_set_self (by simpa using hk)]; exact ⟨by decide, by show (1 : Int) < _; omega⟩
  · rw [List.getElem?_set_ne h, List.getElem?_replicate, if_pos hk]; exact ⟨by decide, by show (0 : Int) < _; omega⟩
theorem fltA_P {i j : Nat} (hij : i < j) (hj : j < O.length) (hb : bP O W J i j = false) (h : ∀ k, i < k → k < j → bP O W J i k = true) : fltA O W J i = ⟨1, i, j, 0⟩ := by
  unfold fltA
  rw [fltL_P (j := j - (i + 1)) (by rw [tlL_len]; omega) hb fun k hk => by
    have := h (i + 1 + k) (by omega) (by omega)
    unfold bP at this
    rwa [show i + 1 + k - (i + 1) = k by omega] at this]
  congr 1
  omega
theorem allP {i : Nat} (h : ∀ k, i < k → k < O.length → bP O W J i k = true) : ∀ j, j < (tlL O W J (i + 1)).length → okP (lvA O W J i) (tlL O W J (i + 1)) j = true := fun j hj => by
  rw [tlL_len] at hj
  have := h (i + 1 + j) (by omega) (by omega)
  unfold bP at this
  rwa [show i + 1 + j - (i + 1) = j by omega] at this
theorem allC' {i : Nat} (h : ∀ j k, i < j → j < k → k < O.length → bC O W J i j k = true) : allC (lvA O W J i) (tlL O W J (i + 1)) := fun j k hjk hk => by
  rw [tlL_len] at hk
  have := h (i + 1 + j) (i + 1 + k) (by omega) (by omega) (by omega)
  unfold bC at this
  rwa [show i + 1 + j - (i + 1) = j by omega, show i + 1 + k - (i + 1) = k by omega] at this
theorem allI {i : Nat} (h : ∀ k, i < k → k < O.length → bI O W J i k = true) : ∀ j, j < (tlL O W J (i + 1)).length → okI (lvA O W J i) (tlL O W J (i + 1)) j = true := fun j hj => by
  rw [tlL_len] at hj
  have := h (i + 1 + j) (by omega) (by omega)
  unfold bI at this
  rwa [show i + 1 + j - (i + 1) = j by omega] at this
theorem fltA_C {i j k : Nat} (h1 : ∀ k, i < k → k < O.length → bP O W J i k = true) (hij : i < j) (hjk : j < k) (hk : k < O.length) (hb : bC O W J i j k = false) (h : ∀ k', j < k' → k' < k → bC O W J i j k' = true)
    (h2 : ∀ j', i < j' → j' < j → ∀ k', j' < k' → k' < O.length → bC O W J i j' k' = true) : fltA O W J i = ⟨2, i, j, k⟩ := by
  unfold fltA
  rw [fltL_C (j := j - (i + 1)) (k := k - (i + 1)) (allP h1) (by omega) (by rw [tlL_len]; omega) hb (fun k' h3 h4 => ?_) fun j' hj' k' h3 h4 => ?_]
  · congr 1 <;> omega
  · have := h (i + 1 + k') (by omega) (by omega)
    unfold bC at this
    rwa [show i + 1 + k' - (i + 1) = k' by omega] at this
  · rw [tlL_len] at h4
    have := h2 (i + 1 + j') (by omega) (by omega) (i + 1 + k') (by omega) (by omega)
    unfold bC at this
    rwa [show i + 1 + k' - (i + 1) = k' by omega, show i + 1 + j' - (i + 1) = j' by omega] at this
theorem fltA_F {i : Nat} (h1 : ∀ k, i < k → k < O.length → bP O W J i k = true) (h2 : ∀ j k, i < j → j < k → k < O.length → bC O W J i j k = true) (hb : bF O W J i = false) : fltA O W J i = ⟨3, i, 0, 0⟩ :=
  fltL_F (allP h1) (allC' h2) hb
theorem fltA_I {i j : Nat} (h1 : ∀ k, i < k → k < O.length → bP O W J i k = true) (h2 : ∀ j k, i < j → j < k → k < O.length → bC O W J i j k = true) (h3 : bF O W J i = true) (hij : i < j) (hj : j < O.length) (hb : bI O W J i j = false)
    (h : ∀ k, i < k → k < j → bI O W J i k = true) : fltA O W J i = ⟨4, i, j, 0⟩ := by
  unfold fltA
  rw [fltL_I (j := j - (i + 1)) (allP h1) (allC' h2) h3 (by rw [tlL_len]; omega) hb fun k hk => by
    have := h (i + 1 + k) (by omega) (by omega)
    unfold bI at this
    rwa [show i + 1 + k - (i + 1) = k by omega] at this]
  congr 1
  omega
theorem fltA_0 {i : Nat} (h1 : ∀ k, i < k → k < O.length → bP O W J i k = true) (h2 : ∀ j k, i < j → j < k → k < O.length → bC O W J i j k = true) (h3 : bF O W J i = true) (h : ∀ k, i < k → k < O.length → bI O W J i k = true) : fltA O W J i = ⟨0, 0, 0, 0⟩ :=
  fltL_0 (allP h1) (allC' h2) h3 (allI h)
/-- A level whose fault has the kind 0 has no fault. -/
theorem fltL_kind {L : Lv} {Ls : List Lv} {i : Nat} (hL : L.cj.length = Ls.length) (h : (fltL L Ls i).k = 0) : NoFault L Ls := by
  unfold fltL at h
  split at h
  · simp at h
  · next h1 =>
    split at h
    · simp at h
    · next h2 =>
      split at h
      · simp at h
      · next h3 =>
        split at h
        · simp at h
        · next h4 =>
          refine NoFault.of hL (fun j hj => fst?_all _ _ h1 j (by omega) (by omega)) (fun j k hjk hk => ?_) (by simpa using h3) fun j hj => fst?_all _ _ h4 j (by omega) (by omega)
          have := fst?_all _ _ h2 j (by omega) (by omega)
          exact fst?_all _ _ (by simpa using this) k (by omega) (by omega)
theorem Con.step {i : Nat} (V : Val O W J) (hi : i < O.length) (h : (fltA O W J i).k = 0) (C : Con (tlL O W J (i + 1))) : Con (tlL O W J i) := by
  rw [tlL_step hi]
  refine ⟨fltL_kind ?_ h, C⟩
  show ((J.getD i []).map _).length = _
  rw [List.length_map, V.lr i hi, tlL_len]
  omega
theorem fltF_step {i : Nat} : fltF O W J (i + 1) = if (fltA O W J i).k = 0 then fltF O W J i else fltA O W J i := rfl
theorem Con.mon' {i : Nat} (V : Val O W J) (C : Con (tlL O W J i)) : Mon (El (tlL O W J i)) (mulL (tlL O W J i)) (zer (O.length - i)) := by
  have := Con.mon (V.ok i) C
  rwa [tlL_len] at this
theorem Con.end_ : Con (tlL O W J O.length) := by rw [tlL_end (Nat.le_refl _)]; trivial
theorem pad_inj {i : Nat} {u v : List Int} : (zer i ++ u = zer i ++ v) ↔ u = v := by simp
end
end Go.Proofs.Yteappjgdcbploaa.Num
