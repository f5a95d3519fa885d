/- Plain arithmetic without Go: collection from the left; steps, normal words. -/
import Derived.Test.YtahmhdpgdhfjnaaL11J
import Derived.Test.YtahmhdpgdhfjnaaL11G
namespace Go.Proofs.Ytahmhdpgdhfjnaa
set_option linter.unusedVariables false
set_option linter.unusedSimpArgs false

/-- A presentation's parts as collection needs them. -/
structure Num.V9 (O : List Int) (W : List (List Int)) (J : List (List (List Int))) : Prop where
  n6 : O.length ≤ 6
  lw : W.length = O.length
  lj : J.length = O.length
  lr : ∀ i, i < O.length → (J.getD i []).length = O.length - 1 - i
  ob : ∀ i, i < O.length → 2 ≤ O.getD i 0 ∧ O.getD i 0 ≤ 7
  wf : ∀ i, i < O.length → (W.getD i []).length = O.length ∧ ∀ j, j < O.length → 0 ≤ (W.getD i []).getD j 0 ∧ (W.getD i []).getD j 0 ≤ 6
  cf : ∀ i k, i < O.length → k < O.length - 1 - i → ((J.getD i []).getD k []).length = O.length ∧ ∀ j, j < O.length → 0 ≤ ((J.getD i []).getD k []).getD j 0 ∧ ((J.getD i []).getD k []).getD j 0 ≤ 6

/-- A word of letters from 1 to n. -/
def Num.PosW (n : Nat) (w : List Int) : Prop := ∀ x ∈ w, 1 ≤ x ∧ x ≤ (n : Int)
theorem Num.PosW.at_ {n : Nat} {w : List Int} (h : Num.PosW n w) {t : Nat} (ht : t < w.length) : 1 ≤ w.getD t 0 ∧ w.getD t 0 ≤ (n : Int) := by
  rw [List.getD_eq_getElem?_getD, List.getElem?_eq_getElem ht]
  exact h _ (List.getElem_mem ht)
theorem Num.PosW.app {n : Nat} {a b : List Int} (h : Num.PosW n a) (h' : Num.PosW n b) : Num.PosW n (a ++ b) := fun x hx => by
  rcases List.mem_append.mp hx with h1 | h1
  · exact h x h1
  · exact h' x h1
theorem Num.PosW.take {n : Nat} {a : List Int} (h : Num.PosW n a) (k : Nat) : Num.PosW n (a.take k) := fun x hx => h x (List.mem_of_mem_take hx)
theorem Num.PosW.drop {n : Nat} {a : List Int} (h : Num.PosW n a) (k : Nat) : Num.PosW n (a.drop k) := fun x hx => h x (List.mem_of_mem_drop hx)
theorem Num.wrdTo_pos (v : List Int) : ∀ i, i ≤ v.length → Num.PosW v.length (Num.wrdTo v i)
  | 0, _ => fun x hx => by simp [Num.wrdTo] at hx
  | i + 1, h => by
    rw [Num.wrdTo]
    refine (Num.wrdTo_pos v i (by omega)).app fun x hx => ?_
    have := List.eq_of_mem_replicate hx
    omega
theorem Num.wrd_pos (v : List Int) : Num.PosW v.length (Num.wrd v) := Num.wrdTo_pos v _ (Nat.le_refl _)

/-- How many of the first letters are equal to one; how many from an index on to the one there. -/
def Num.runF (x : Int) : List Int → Nat
  | [] => 0
  | y :: l => if y = x then Num.runF x l + 1 else 0
def Num.runW (w : List Int) (t : Nat) : Nat := Num.runF (w.getD t 0) (w.drop t)
theorem Num.runF_len (x : Int) : ∀ l, Num.runF x l ≤ l.length
  | [] => by simp [Num.runF]
  | y :: l => by
    have := Num.runF_len x l
    rw [Num.runF]
    split <;> simp <;> omega
theorem Num.runF_take (x : Int) : ∀ (l : List Int) (k : Nat), k ≤ Num.runF x l → l.take k = List.replicate k x
  | _, 0, _ => by simp
  | [], k + 1, h => by simp [Num.runF] at h
  | y :: l, k + 1, h => by
    rw [Num.runF] at h
    split at h
    · next e =>
      subst e
      rw [List.take_succ_cons, Num.runF_take y l k (by omega), List.replicate_succ]
    · omega
theorem Num.runF_of (x : Int) : ∀ (l : List Int) (k : Nat), k ≤ l.length → l.take k = List.replicate k x → k ≤ Num.runF x l
  | _, 0, _, _ => Nat.zero_le _
  | [], k + 1, h, _ => by simp at h
  | y :: l, k + 1, h, e => by
    rw [List.take_succ_cons, List.replicate_succ] at e
    injection e with e1 e2
    have := Num.runF_of x l k (by simpa using h) e2
    rw [Num.runF, if_pos e1]
    omega
/-- The letter at an index is greater than the next one; a word is reducible at an index. -/
def Num.dsc (w : List Int) (t : Nat) : Bool := decide (t + 1 < w.length) && decide (w.getD (t + 1) 0 < w.getD t 0)
theorem Num.dsc_iff {w : List Int} {t : Nat} : Num.dsc w t = true ↔ t + 1 < w.length ∧ w.getD (t + 1) 0 < w.getD t 0 := by simp [Num.dsc]
def Num.redB (O w : List Int) (t : Nat) : Bool := Num.dsc w t || decide (O.getD (w.getD t 0 - 1).toNat 0 ≤ (Num.runW w t : Int))
/-- The least number from t on, below t + k, that has a property; t + k if there is none. -/
def Num.fstT (p : Nat → Bool) : Nat → Nat → Nat
  | 0, t => t
  | k + 1, t => if p t = true then t else Num.fstT p k (t + 1)
theorem Num.fstT_spec (p : Nat → Bool) : ∀ k t, t ≤ Num.fstT p k t ∧ Num.fstT p k t ≤ t + k ∧ (∀ j, t ≤ j → j < Num.fstT p k t → p j = false) ∧ (Num.fstT p k t < t + k → p (Num.fstT p k t) = true)
  | 0, t => by simp [Num.fstT]; omega
  | k + 1, t => by
    rw [Num.fstT]
    by_cases h : p t = true
    · rw [if_pos h]
      exact ⟨Nat.le_refl _, by omega, fun j h1 h2 => by omega, fun _ => h⟩
    · rw [if_neg h]
      obtain ⟨h1, h2, h3, h4⟩ := Num.fstT_spec p k (t + 1)
      refine ⟨by omega, by omega, fun j h5 h6 => ?_, fun h5 => h4 (by omega)⟩
      by_cases e : j = t
      · rw [e]; simpa using h
      · exact h3 j (by omega) h6
theorem Num.fstT_eq {p : Nat → Bool} {k t : Nat} (ht : t < k) (h : ∀ j, j < t → p j = false) (h' : p t = true) : Num.fstT p k 0 = t := by
  obtain ⟨h1, h2, h3, h4⟩ := Num.fstT_spec p k 0
  rcases Nat.lt_trichotomy (Num.fstT p k 0) t with e | e | e
  · have := h4 (by omega); rw [h _ e] at this; cases this
  · exact e
  · have := h3 t (Nat.zero_le _) e; rw [h'] at this; cases this
theorem Num.fstT_no {p : Nat → Bool} {k : Nat} (h : ∀ j, j < k → p j = false) : Num.fstT p k 0 = k := by
  obtain ⟨h1, h2, h3, h4⟩ := Num.fstT_spec p k 0
  rcases Nat.lt_or_ge (Num.fstT p k 0) k with e | e
  · have := h4 (by omega); rw [h _ e] at this; cases this
  · omega
/-- The least reducible index; the length if there is none. -/
def Num.atW (O w : List Int) : Nat := Num.fstT (Num.redB O w) w.length 0
theorem Num.atW_le (O w : List Int) : Num.atW O w ≤ w.length := by have := (Num.fstT_spec (Num.redB O w) w.length 0).2.1; unfold Num.atW; omega
theorem Num.atW_red {O w : List Int} (h : Num.atW O w < w.length) : Num.redB O w (Num.atW O w) = true := (Num.fstT_spec (Num.redB O w) w.length 0).2.2.2 (by unfold Num.atW at h; omega)
theorem Num.atW_ne {O w : List Int} {j : Nat} (h : j < Num.atW O w) : Num.redB O w j = false := (Num.fstT_spec (Num.redB O w) w.length 0).2.2.1 j (Nat.zero_le _) h
/-- A word after the step at an index. -/
def Num.stpW (O : List Int) (W : List (List Int)) (J : List (List (List Int))) (w : List Int) (t : Nat) : List Int :=
  if Num.dsc w t = true then w.take t ++ [w.getD (t + 1) 0] ++ Num.wrd ((J.getD (w.getD (t + 1) 0 - 1).toNat []).getD (w.getD t 0 - w.getD (t + 1) 0 - 1).toNat []) ++ w.drop (t + 2)
  else w.take t ++ Num.wrd (W.getD (w.getD t 0 - 1).toNat []) ++ w.drop (t + (O.getD (w.getD t 0 - 1).toNat 0).toNat)

/-! ### Rules of relations -/
def Num.ruL (q : Num.Rel) : List Int := if q.g = q.b then List.replicate q.o.toNat (q.b + 1) else [q.g + 1, q.b + 1]
def Num.ruR (q : Num.Rel) : List Int := if q.g = q.b then Num.wrd q.x else (q.b + 1) :: Num.wrd q.x
def Num.isAt (l w : List Int) (t : Nat) : Bool := decide (t + l.length ≤ w.length) && decide ((w.drop t).take l.length = l)
theorem Num.isAt_iff {l w : List Int} {t : Nat} : Num.isAt l w t = true ↔ t + l.length ≤ w.length ∧ (w.drop t).take l.length = l := by simp [Num.isAt]
def Num.ruS (q : Num.Rel) (w : List Int) (t : Nat) : List Int := w.take t ++ Num.ruR q ++ w.drop (t + (Num.ruL q).length)

theorem Num.drop_head {w : List Int} {t : Nat} (h : t < w.length) : w.drop t = w.getD t 0 :: w.drop (t + 1) := by
  rw [List.drop_eq_getElem_cons h]
  simp [List.getD_eq_getElem?_getD, List.getElem?_eq_getElem h]
theorem Num.drop_two {w : List Int} {t : Nat} (h : t + 2 ≤ w.length) : (w.drop t).take 2 = [w.getD t 0, w.getD (t + 1) 0] := by
  rw [Num.drop_head (by omega), Num.drop_head (t := t + 1) (by omega)]
  rfl
theorem Num.rule_at {O : List Int} {W : List (List Int)} {J : List (List (List Int))} (V : Num.V9 O W J) {w : List Int} (hw : Num.PosW O.length w) {t : Nat} {q : Num.Rel} (hq : q ∈ Num.rels O W J) (ha : Num.isAt (Num.ruL q) w t = true) :
    Num.redB O w t = true ∧ Num.ruS q w t = Num.stpW O W J w t := by
  obtain ⟨h1, h2⟩ := Num.isAt_iff.mp ha
  rcases Num.rels_mem.mp hq with ⟨j, hj, rfl⟩ | ⟨j, k, hj, hk, rfl⟩
  · have eL : Num.ruL ⟨W.getD j [], j, j, O.getD j 0⟩ = List.replicate (O.getD j 0).toNat ((j : Int) + 1) := if_pos rfl
    have eR : Num.ruR ⟨W.getD j [], j, j, O.getD j 0⟩ = Num.wrd (W.getD j []) := if_pos rfl
    obtain ⟨o1, o2⟩ := V.ob j hj
    rw [eL, List.length_replicate] at h1 h2
    have ht : t < w.length := by omega
    have h0 : w.getD t 0 = (j : Int) + 1 := by
      rw [Num.drop_head ht] at h2
      obtain ⟨m, hm⟩ : ∃ m, (O.getD j 0).toNat = m + 1 := ⟨(O.getD j 0).toNat - 1, by omega⟩
      rw [hm, List.take_succ_cons, List.replicate_succ] at h2
      injection h2
    have hr : (O.getD j 0).toNat ≤ Num.runW w t := by
      unfold Num.runW
      rw [h0]
      exact Num.runF_of _ _ _ (by rw [List.length_drop]; omega) h2
    have hn : Num.dsc w t = false := by
      cases hd : Num.dsc w t with
      | false => rfl
      | true =>
        obtain ⟨d1, d2⟩ := Num.dsc_iff.mp hd
        have h3 : (w.drop t).take 2 = List.replicate 2 ((j : Int) + 1) := by
          have := congrArg (List.take 2) h2
          rwa [List.take_take, show min 2 (O.getD j 0).toNat = 2 by omega, List.take_replicate, show min 2 (O.getD j 0).toNat = 2 by omega] at this
        rw [Num.drop_two (by omega)] at h3
        simp only [List.replicate, List.cons.injEq, and_true] at h3
        omega
    have ej : (w.getD t 0 - 1).toNat = j := by omega
    refine ⟨?_, ?_⟩
    · unfold Num.redB
      rw [hn, ej, Bool.false_or]
      exact decide_eq_true (by omega)
    · unfold Num.ruS Num.stpW
      rw [hn, if_neg (by simp), ej, eL, eR, List.length_replicate]
  · rw [V.lr j hj] at hk
    have hne : ¬ ((j : Int) + 1 + (k : Int) = (j : Int)) := by omega
    have eL : Num.ruL ⟨(J.getD j []).getD k [], (j : Int) + 1 + (k : Int), j, O.getD j 0⟩ = [(j : Int) + 1 + (k : Int) + 1, (j : Int) + 1] := if_neg hne
    have eR : Num.ruR ⟨(J.getD j []).getD k [], (j : Int) + 1 + (k : Int), j, O.getD j 0⟩ = ((j : Int) + 1) :: Num.wrd ((J.getD j []).getD k []) := if_neg hne
    rw [eL] at h1 h2
    simp only [List.length_cons, List.length_nil, Nat.zero_add, Nat.reduceAdd] at h1 h2
    rw [Num.drop_two h1] at h2
    simp only [List.cons.injEq, and_true] at h2
    obtain ⟨a1, a2⟩ := h2
    have hd : Num.dsc w t = true := Num.dsc_iff.mpr ⟨by omega, by omega⟩
    refine ⟨by unfold Num.redB; rw [hd, Bool.true_or], ?_⟩
    unfold Num.ruS Num.stpW
    rw [hd, if_pos rfl, eL, eR, a1, a2, show ((j : Int) + 1 - 1).toNat = j by omega, show ((j : Int) + 1 + (k : Int) + 1 - ((j : Int) + 1) - 1).toNat = k by omega]
    simp
theorem Num.rule_ex {O : List Int} {W : List (List Int)} {J : List (List (List Int))} (V : Num.V9 O W J) {w : List Int} (hw : Num.PosW O.length w) {t : Nat} (ht : t < w.length) (hr : Num.redB O w t = true) :
    ∃ q ∈ Num.rels O W J, Num.isAt (Num.ruL q) w t = true := by
  obtain ⟨b1, b2⟩ := hw.at_ ht
  cases hd : Num.dsc w t with
  | true =>
    obtain ⟨d1, d2⟩ := Num.dsc_iff.mp hd
    obtain ⟨b3, b4⟩ := hw.at_ d1
    generalize hx : w.getD t 0 = x at *
    generalize hy : w.getD (t + 1) 0 = y at *
    refine ⟨_, Num.rels_mem.mpr (.inr ⟨(y - 1).toNat, (x - y - 1).toNat, by omega, by rw [V.lr (y - 1).toNat (by omega)]; omega, rfl⟩), Num.isAt_iff.mpr ?_⟩
    have eL : Num.ruL ⟨(J.getD (y - 1).toNat []).getD (x - y - 1).toNat [], ((y - 1).toNat : Int) + 1 + ((x - y - 1).toNat : Int), ((y - 1).toNat : Int), O.getD (y - 1).toNat 0⟩ = [((y - 1).toNat : Int) + 1 + ((x - y - 1).toNat : Int) + 1, ((y - 1).toNat : Int) + 1] := if_neg (show ¬ (((y - 1).toNat : Int) + 1 + ((x - y - 1).toNat : Int) = ((y - 1).toNat : Int)) by omega)
    rw [eL]
    refine ⟨by show t + 2 ≤ w.length; omega, ?_⟩
    show (w.drop t).take 2 = _
    rw [Num.drop_two (by omega), hx, hy]
    congr 1
    · omega
    · congr 1
      omega
  | false =>
    unfold Num.redB at hr
    rw [hd, Bool.false_or, decide_eq_true_eq] at hr
    generalize hx : w.getD t 0 = x at *
    have hi : (x - 1).toNat < O.length := by omega
    obtain ⟨o1, o2⟩ := V.ob _ hi
    refine ⟨_, Num.rels_mem.mpr (.inl ⟨(x - 1).toNat, hi, rfl⟩), Num.isAt_iff.mpr ?_⟩
    have eL : Num.ruL ⟨W.getD (x - 1).toNat [], ((x - 1).toNat : Int), ((x - 1).toNat : Int), O.getD (x - 1).toNat 0⟩ = List.replicate (O.getD (x - 1).toNat 0).toNat (((x - 1).toNat : Int) + 1) := if_pos rfl
    rw [eL, List.length_replicate, show ((x - 1).toNat : Int) + 1 = x by omega]
    unfold Num.runW at hr
    rw [hx] at hr
    have hl := Num.runF_len x (w.drop t)
    rw [List.length_drop] at hl
    exact ⟨by omega, Num.runF_take _ _ _ (by omega)⟩

/-! ### Steps -/
theorem Num.stpW_pos {O : List Int} {W : List (List Int)} {J : List (List (List Int))} (V : Num.V9 O W J) {w : List Int} (hw : Num.PosW O.length w) {t : Nat} (ht : t < w.length) : Num.PosW O.length (Num.stpW O W J w t) := by
  obtain ⟨b1, b2⟩ := hw.at_ ht
  unfold Num.stpW
  split
  · next hd =>
    obtain ⟨d1, d2⟩ := Num.dsc_iff.mp hd
    obtain ⟨b3, b4⟩ := hw.at_ d1
    refine (((hw.take t).app ?_).app ?_).app (hw.drop _)
    · intro x hx
      rw [List.mem_singleton] at hx
      subst hx
      exact ⟨b3, b4⟩
    · have := Num.wrd_pos ((J.getD (w.getD (t + 1) 0 - 1).toNat []).getD (w.getD t 0 - w.getD (t + 1) 0 - 1).toNat [])
      rwa [(V.cf (w.getD (t + 1) 0 - 1).toNat (w.getD t 0 - w.getD (t + 1) 0 - 1).toNat (by omega) (by omega)).1] at this
  · refine ((hw.take t).app ?_).app (hw.drop _)
    have := Num.wrd_pos (W.getD (w.getD t 0 - 1).toNat [])
    rwa [(V.wf (w.getD t 0 - 1).toNat (by omega)).1] at this
theorem Num.wrdTo_len6 (v : List Int) (h : ∀ j, j < v.length → 0 ≤ v.getD j 0 ∧ v.getD j 0 ≤ 6) : ∀ i, i ≤ v.length → (Num.wrdTo v i).length ≤ 6 * i
  | 0, _ => by simp [Num.wrdTo]
  | i + 1, hi => by
    have h1 := Num.wrdTo_len6 v h i (by omega)
    have h2 := h i (by omega)
    rw [Num.wrdTo, List.length_append, List.length_replicate]
    omega
theorem Num.V9.wl {O : List Int} {W : List (List Int)} {J : List (List (List Int))} (V : Num.V9 O W J) {i : Nat} (hi : i < O.length) : (Num.wrd (W.getD i [])).length ≤ 36 := by
  obtain ⟨h1, h2⟩ := V.wf i hi
  have := Num.wrdTo_len6 (W.getD i []) (by rw [h1]; exact h2) _ (Nat.le_refl _)
  have h6 := V.n6
  rw [h1] at this
  unfold Num.wrd
  rw [h1]
  omega
theorem Num.V9.cl {O : List Int} {W : List (List Int)} {J : List (List (List Int))} (V : Num.V9 O W J) {i k : Nat} (hi : i < O.length) (hk : k < O.length - 1 - i) : (Num.wrd ((J.getD i []).getD k [])).length ≤ 36 := by
  obtain ⟨h1, h2⟩ := V.cf i k hi hk
  have := Num.wrdTo_len6 ((J.getD i []).getD k []) (by rw [h1]; exact h2) _ (Nat.le_refl _)
  have h6 := V.n6
  rw [h1] at this
  unfold Num.wrd
  rw [h1]
  omega
/-- What collection leaves within a number of steps, and how many it took. -/
def Num.colW (O : List Int) (W : List (List Int)) (J : List (List (List Int))) : Nat → List Int → Option (List Int × Nat)
  | 0, w => if Num.atW O w < w.length then none else some (w, 0)
  | k + 1, w => if Num.atW O w < w.length then (if 256 < (Num.stpW O W J w (Num.atW O w)).length then none else (Num.colW O W J k (Num.stpW O W J w (Num.atW O w))).map fun r => (r.1, r.2 + 1)) else some (w, 0)
/-- A word is normal: reducible at no index. -/
def Num.NorW (O w : List Int) : Prop := Num.PosW O.length w ∧ ∀ t, t < w.length → Num.redB O w t = false
theorem Num.colW_nor {O : List Int} {W : List (List Int)} {J : List (List (List Int))} (V : Num.V9 O W J) : ∀ (k : Nat) (w : List Int), Num.PosW O.length w → ∀ r, Num.colW O W J k w = some r → Num.NorW O r.1 ∧ r.2 ≤ k
  | 0, w, hw, r, h => by
    rw [Num.colW] at h
    split at h
    · cases h
    · next hn =>
      injection h with h
      subst h
      have := Num.atW_le O w
      show Num.NorW O w ∧ _
      exact ⟨⟨hw, fun t ht => Num.atW_ne (by omega)⟩, Nat.le_refl _⟩
  | k + 1, w, hw, r, h => by
    rw [Num.colW] at h
    split at h
    · next hlt =>
      split at h
      · cases h
      · obtain ⟨r', hr', rfl⟩ := Option.map_eq_some_iff.mp h
        obtain ⟨h1, h2⟩ := Num.colW_nor V k _ (Num.stpW_pos V hw hlt) r' hr'
        exact ⟨h1, by simp; omega⟩
    · next hn =>
      injection h with h
      subst h
      have := Num.atW_le O w
      show Num.NorW O w ∧ _
      exact ⟨⟨hw, fun t ht => Num.atW_ne (by omega)⟩, Nat.zero_le _⟩

/-! ### Normal words -/
theorem Num.nor_step {O w : List Int} (h : Num.NorW O w) {t : Nat} (ht : t + 1 < w.length) : w.getD t 0 ≤ w.getD (t + 1) 0 := by
  have h1 := h.2 t (by omega)
  unfold Num.redB at h1
  rw [Bool.or_eq_false_iff] at h1
  by_cases hlt : w.getD (t + 1) 0 < w.getD t 0
  · rw [Num.dsc_iff.mpr ⟨ht, hlt⟩] at h1
    exact absurd h1.1 (by simp)
  · omega
theorem Num.sorted_of : ∀ (l : List Int), (∀ t, t + 1 < l.length → l.getD t 0 ≤ l.getD (t + 1) 0) → l.Pairwise (· ≤ ·)
  | [], _ => List.Pairwise.nil
  | [a], _ => List.pairwise_singleton _ _
  | a :: b :: l, h => by
    have h1 := Num.sorted_of (b :: l) fun t ht => by
      have := h (t + 1) (by simpa using ht)
      simpa using this
    refine List.pairwise_cons.mpr ⟨fun x hx => ?_, h1⟩
    have h0 : a ≤ b := by simpa using h 0 (by simp)
    rcases List.mem_cons.mp hx with rfl | hx
    · exact h0
    · have := (List.pairwise_cons.mp h1).1 x hx; omega
theorem Num.NorW.sorted {O w : List Int} (h : Num.NorW O w) : w.Pairwise (· ≤ ·) := Num.sorted_of w fun t ht => Num.nor_step h ht
theorem Num.run_split (x : Int) : ∀ (l : List Int), l.Pairwise (· ≤ ·) → (∀ y ∈ l, x ≤ y) → ∀ y ∈ l.drop (Num.runF x l), x < y
  | [], _, _, y, hy => by simp at hy
  | a :: l, hs, hl, y, hy => by
    obtain ⟨h1, h2⟩ := List.pairwise_cons.mp hs
    rw [Num.runF] at hy
    by_cases e : a = x
    · rw [if_pos e, List.drop_succ_cons] at hy
      exact Num.run_split x l h2 (fun z hz => hl z (by simp [hz])) y hy
    · rw [if_neg e, List.drop_zero] at hy
      have h0 := hl a (by simp)
      rcases List.mem_cons.mp hy with rfl | hy
      · omega
      · have := h1 y hy; omega
theorem Num.run_len : ∀ (m : Nat) (l : List Int) (a n : Int), l.length ≤ m → l.Pairwise (· ≤ ·) → (∀ y ∈ l, a < y ∧ y ≤ n) → (∀ k, k < l.length → Num.runW l k ≤ 6) → a ≤ n → (l.length : Int) ≤ 6 * (n - a)
  | _, [], a, n, _, _, _, _, h => by simp; omega
  | 0, x :: l, a, n, hm, _, _, _, _ => by simp at hm
  | m + 1, x :: l, a, n, hm, hs, hb, hr, han => by
    obtain ⟨h1, h2⟩ := List.pairwise_cons.mp hs
    have hx := hb x (by simp)
    have h3 : ∀ y ∈ (x :: l).drop (Num.runF x (x :: l)), x < y := Num.run_split x (x :: l) hs fun y hy => by
      rcases List.mem_cons.mp hy with rfl | hy
      · exact Int.le_refl _
      · exact h1 y hy
    have h4 : Num.runF x (x :: l) ≤ 6 := by
      have := hr 0 (by simp)
      simpa [Num.runW] using this
    have h5 : 1 ≤ Num.runF x (x :: l) := by rw [Num.runF, if_pos rfl]; omega
    have h6 := Num.runF_len x (x :: l)
    have hl : ((x :: l).drop (Num.runF x (x :: l))).length = (x :: l).length - Num.runF x (x :: l) := List.length_drop
    have := Num.run_len m ((x :: l).drop (Num.runF x (x :: l))) x n (by rw [hl]; omega) (hs.sublist (List.drop_sublist _ _)) (fun y hy => ⟨h3 y hy, (hb y (List.mem_of_mem_drop hy)).2⟩) (fun k hk => by
      have := hr (Num.runF x (x :: l) + k) (by omega)
      unfold Num.runW at this ⊢
      rw [List.drop_drop]
      rw [show ((x :: l).drop (Num.runF x (x :: l))).getD k 0 = (x :: l).getD (Num.runF x (x :: l) + k) 0 by simp [List.getD_eq_getElem?_getD]]
      exact this) hx.2
    rw [hl] at this
    omega
theorem Num.NorW.len {O : List Int} {W : List (List Int)} {J : List (List (List Int))} (V : Num.V9 O W J) {w : List Int} (h : Num.NorW O w) : w.length ≤ 36 := by
  have h6 := V.n6
  have := Num.run_len w.length w 0 O.length (Nat.le_refl _) h.sorted (fun y hy => by have := h.1 y hy; omega) (fun k hk => by
    have h1 := h.2 k hk
    unfold Num.redB at h1
    rw [Bool.or_eq_false_iff, decide_eq_false_iff_not] at h1
    obtain ⟨b1, b2⟩ := h.1.at_ hk
    have := V.ob (w.getD k 0 - 1).toNat (by omega)
    have := h1.2
    omega) (by omega)
  omega
theorem Num.wrdTo_sorted (v : List Int) : ∀ i, i ≤ v.length → (Num.wrdTo v i).Pairwise (· ≤ ·) ∧ ∀ y ∈ Num.wrdTo v i, y ≤ (i : Int)
  | 0, _ => by simp [Num.wrdTo]
  | i + 1, h => by
    obtain ⟨h1, h2⟩ := Num.wrdTo_sorted v i (by omega)
    rw [Num.wrdTo]
    refine ⟨List.pairwise_append.mpr ⟨h1, List.pairwise_replicate.mpr (.inr (Int.le_refl _)), fun a ha b hb => ?_⟩, fun y hy => ?_⟩
    · have := h2 a ha
      have := List.eq_of_mem_replicate hb
      omega
    · rcases List.mem_append.mp hy with h3 | h3
      · have := h2 y h3; omega
      · have := List.eq_of_mem_replicate h3; omega
theorem Num.wrdTo_count (v : List Int) : ∀ (i j : Nat), i ≤ v.length → (Num.wrdTo v i).count ((j : Int) + 1) = if j < i then (v.getD j 0).toNat else 0
  | 0, j, _ => by simp [Num.wrdTo]
  | i + 1, j, h => by
    rw [Num.wrdTo, List.count_append, Num.wrdTo_count v i j (by omega), List.count_replicate]
    by_cases e : j = i
    · subst e
      simp
    · have e' : ¬ ((i : Int) + 1 = (j : Int) + 1) := by omega
      have e2 : ((i : Int) + 1 == (j : Int) + 1) = false := by simpa using e'
      rw [e2]
      by_cases hlt : j < i
      · rw [if_pos hlt, if_pos (show j < i + 1 by omega)]; simp
      · rw [if_neg hlt, if_neg (show ¬ j < i + 1 by omega)]; simp
/-- How often each letter stands in a word. -/
def Num.cntV (n : Nat) (w : List Int) : List Int := (List.range n).map fun (i : Nat) => ((w.count ((i : Int) + 1) : Nat) : Int)
theorem Num.cntV_len (n : Nat) (w : List Int) : (Num.cntV n w).length = n := by simp [Num.cntV]
theorem Num.cntV_at {n : Nat} {w : List Int} {i : Nat} (hi : i < n) : (Num.cntV n w).getD i 0 = ((w.count ((i : Int) + 1) : Nat) : Int) := by
  simp [Num.cntV, List.getD_eq_getElem?_getD, hi]
theorem Num.wrd_cnt {n : Nat} {w : List Int} (hp : Num.PosW n w) (hs : w.Pairwise (· ≤ ·)) : Num.wrd (Num.cntV n w) = w := by
  have h1 := Num.wrdTo_sorted (Num.cntV n w) n (by rw [Num.cntV_len]; omega)
  have hp2 : Num.PosW n (Num.wrd (Num.cntV n w)) := by have := Num.wrd_pos (Num.cntV n w); rwa [Num.cntV_len] at this
  refine List.Perm.eq_of_pairwise (le := fun a b => a ≤ b) (fun a b _ _ h1 h2 => Int.le_antisymm h1 h2) (by unfold Num.wrd; rw [Num.cntV_len]; exact h1.1) hs ?_
  rw [List.perm_iff_count]
  intro x
  by_cases hx : 1 ≤ x ∧ x ≤ (n : Int)
  · obtain ⟨j, hj, rfl⟩ : ∃ j : Nat, j < n ∧ x = (j : Int) + 1 := ⟨(x - 1).toNat, by omega, by omega⟩
    unfold Num.wrd
    rw [Num.cntV_len, Num.wrdTo_count _ _ _ (by rw [Num.cntV_len]; omega), if_pos hj, Num.cntV_at hj]
    simp
  · rw [List.count_eq_zero.mpr (fun h => hx (hp x h)), List.count_eq_zero.mpr (fun h => hx (hp2 x h))]
theorem Num.NorW.back {O : List Int} {w : List Int} (h : Num.NorW O w) : Num.wrd (Num.cntV O.length w) = w := Num.wrd_cnt h.1 h.sorted
theorem Num.NorW.inj {O : List Int} {w w' : List Int} (h : Num.NorW O w) (h' : Num.NorW O w') (e : Num.cntV O.length w = Num.cntV O.length w') : w = w' := by rw [← h.back, ← h'.back, e]
end Go.Proofs.Ytahmhdpgdhfjnaa
