/- Plain arithmetic without Go: words of free groups, their reduced forms, inverses, powers, substitution. -/
namespace Go.Proofs.Yteappjgdcbploaa.Num

def pushW (out : List Int) (x : Int) : List Int := if out.getLast? = some (-x) then out.dropLast else out ++ [x]
def redF (out w : List Int) : List Int := w.foldl pushW out
def redW (w : List Int) : List Int := redF [] w
def invW (w : List Int) : List Int := (w.map (fun x => -x)).reverse

theorem pushW_nil (x : Int) : pushW [] x = [x] := by simp [pushW]
theorem pushW_same (o : List Int) {x y : Int} (h : y = -x) : pushW (o ++ [y]) x = o := by simp [pushW, h]
theorem pushW_other (o : List Int) {x y : Int} (h : y ≠ -x) : pushW (o ++ [y]) x = o ++ [y] ++ [x] := by simp [pushW, h]
theorem redF_nil (out : List Int) : redF out [] = out := rfl
theorem redF_cons (out : List Int) (x : Int) (w : List Int) : redF out (x :: w) = redF (pushW out x) w := rfl
theorem redF_snoc (out w : List Int) (x : Int) : redF out (w ++ [x]) = pushW (redF out w) x := by simp [redF, List.foldl_append]
theorem redF_app (out a b : List Int) : redF out (a ++ b) = redF (redF out a) b := by simp [redF, List.foldl_append]
theorem takeW_snoc (w : List Int) (k : Nat) (h : k < w.length) : w.take (k + 1) = w.take k ++ [w.getD k 0] := by
  rw [List.take_add_one, List.getD_eq_getElem?_getD, List.getElem?_eq_getElem h]; rfl
theorem redF_step (out w : List Int) (k : Nat) (h : k < w.length) : redF out (w.take (k + 1)) = pushW (redF out (w.take k)) (w.getD k 0) := by
  rw [takeW_snoc w k h, redF_snoc]
theorem concatW_cases (l : List Int) : l = [] ∨ ∃ o y, l = o ++ [y] := by
  cases h : l.reverse with
  | nil => left; simpa using h
  | cons y t => right; exact ⟨t.reverse, y, by have := congrArg List.reverse h; simpa using this⟩
theorem pushW_len (out : List Int) (x : Int) : (pushW out x).length ≤ out.length + 1 := by
  unfold pushW; split <;> simp; omega
theorem redF_len (out w : List Int) : (redF out w).length ≤ out.length + w.length := by
  induction w generalizing out with
  | nil => simp [redF_nil]
  | cons x t ih => rw [redF_cons]; have := ih (pushW out x); have := pushW_len out x; simp only [List.length_cons]; omega
theorem redW_len (w : List Int) : (redW w).length ≤ w.length := by have := redF_len [] w; simpa [redW] using this
theorem pushW_mem {out : List Int} {x z : Int} (h : z ∈ pushW out x) : z ∈ out ∨ z = x := by
  unfold pushW at h
  split at h
  · exact .inl (List.dropLast_subset _ h)
  · simpa using h
theorem redF_mem {out w : List Int} {z : Int} (h : z ∈ redF out w) : z ∈ out ∨ z ∈ w := by
  induction w generalizing out with
  | nil => exact .inl h
  | cons x t ih =>
    rw [redF_cons] at h
    rcases ih h with h | h
    · rcases pushW_mem h with h | h
      · exact .inl h
      · exact .inr (by simp [h])
    · exact .inr (by simp [h])
theorem redF_full (out w : List Int) (h : (redF out w).length = out.length + w.length) : redF out w = out ++ w := by
  induction w generalizing out with
  | nil => simp [redF_nil]
  | cons x t ih =>
    rw [redF_cons] at h ⊢
    have h1 := redF_len (pushW out x) t
    have h2 := pushW_len out x
    simp only [List.length_cons] at h
    rw [ih (pushW out x) (by omega)]
    have h3 : (pushW out x).length = out.length + 1 := by omega
    unfold pushW at h3 ⊢
    split
    · rename_i h4
      rw [if_pos h4] at h3
      simp only [List.length_dropLast] at h3
      omega
    · simp
theorem redW_eq (w : List Int) : redW w = w ↔ (redW w).length = w.length := by
  constructor
  · intro h; rw [h]
  · intro h
    have := redF_full [] w (by simpa [redW] using h)
    simpa [redW] using this
/-- All letters are small. -/
def SmallW (w : List Int) : Prop := ∀ z ∈ w, -6 ≤ z ∧ z ≤ 6
theorem SmallW.nil : SmallW [] := fun z h => by simp at h
theorem SmallW.red {out w : List Int} (h : SmallW out) (k : SmallW w) : SmallW (redF out w) := fun z hz => by
  rcases redF_mem hz with h1 | h1
  · exact h z h1
  · exact k z h1
theorem SmallW.push {out : List Int} {x : Int} (h : SmallW out) (k : -6 ≤ x ∧ x ≤ 6) : SmallW (pushW out x) := fun z hz => by
  rcases pushW_mem hz with h1 | h1
  · exact h z h1
  · rw [h1]; exact k
theorem SmallW.at_ {w : List Int} (h : SmallW w) (k : Nat) (hk : k < w.length) : -6 ≤ w.getD k 0 ∧ w.getD k 0 ≤ 6 := by
  rw [List.getD_eq_getElem?_getD, List.getElem?_eq_getElem hk]
  exact h _ (List.getElem_mem hk)
theorem SmallW.inv {w : List Int} (h : SmallW w) : SmallW (invW w) := fun z hz => by
  simp only [invW, List.mem_reverse, List.mem_map] at hz
  obtain ⟨y, hy, rfl⟩ := hz
  have := h y hy
  omega
theorem SmallW.app {a b : List Int} (h : SmallW a) (k : SmallW b) : SmallW (a ++ b) := fun z hz => by
  rcases List.mem_append.mp hz with h1 | h1
  · exact h z h1
  · exact k z h1
theorem SmallW.flat {fs : List (List Int)} (h : ∀ f ∈ fs, SmallW f) : SmallW fs.flatten := fun z hz => by
  obtain ⟨f, hf, hz⟩ := List.mem_flatten.mp hz
  exact h f hf z hz

/-! ### Inverses -/
theorem invW_len (w : List Int) : (invW w).length = w.length := by simp [invW]
theorem invW_inv (w : List Int) : invW (invW w) = w := by
  simp only [invW, List.map_reverse, List.reverse_reverse, List.map_map]
  rw [List.map_congr_left (g := id) (fun x _ => by simp)]; simp
theorem invW_cons (x : Int) (w : List Int) : invW (x :: w) = invW w ++ [-x] := by simp [invW]
theorem invW_app (a b : List Int) : invW (a ++ b) = invW b ++ invW a := by simp [invW]
theorem invW_take (w : List Int) (k : Nat) (h : k < w.length) : (invW w).take (k + 1) = (invW w).take k ++ [-(w.getD (w.length - 1 - k) 0)] := by
  rw [takeW_snoc _ _ (by rw [invW_len]; exact h)]
  congr 2
  rw [List.getD_eq_getElem?_getD, List.getElem?_eq_getElem (by rw [invW_len]; exact h), List.getD_eq_getElem?_getD, List.getElem?_eq_getElem (by omega)]
  simp [invW]

/-! ### Reduced words are a group -/
def Rd (s : List Int) : Prop := redW s = s
theorem Rd.nil : Rd [] := rfl
theorem Rd.init {o : List Int} {y : Int} (h : Rd (o ++ [y])) : Rd o := by
  unfold Rd redW at *
  rw [redF_snoc] at h
  have hl := redF_len [] o
  unfold pushW at h
  split at h
  · have := congrArg List.length h
    simp at this hl
    omega
  · exact (List.append_inj' h rfl).1
theorem Rd.push {s : List Int} (h : Rd s) (x : Int) : Rd (pushW s x) := by
  rcases concatW_cases s with rfl | ⟨o, y, rfl⟩
  · rw [pushW_nil]; unfold Rd redW; rw [show ([x] : List Int) = [] ++ [x] from rfl, redF_snoc]; rfl
  · by_cases hy : y = -x
    · rw [pushW_same o hy]; exact h.init
    · rw [pushW_other o hy]
      unfold Rd redW at *
      rw [redF_snoc, h, pushW_other o hy]
theorem Rd.red {s : List Int} (h : Rd s) (w : List Int) : Rd (redF s w) := by
  induction w generalizing s with
  | nil => exact h
  | cons x t ih => rw [redF_cons]; exact ih (h.push x)
theorem Rd.redW (w : List Int) : Rd (redW w) := Rd.red Rd.nil w
theorem Rd.apart {o : List Int} {y z : Int} (h : Rd (o ++ [y] ++ [z])) : y ≠ -z := by
  intro e
  have h1 := h.init
  unfold Rd Num.redW at h h1
  rw [redF_snoc, h1, pushW_same o e] at h
  have := congrArg List.length h
  simp at this
theorem Rd.cancel {s : List Int} (h : Rd s) (x : Int) : pushW (pushW s x) (-x) = s := by
  rcases concatW_cases s with rfl | ⟨o, y, rfl⟩
  · rw [pushW_nil]; exact pushW_same [] (by omega)
  · by_cases hy : y = -x
    · rw [pushW_same o hy]
      rcases concatW_cases o with rfl | ⟨o', z, rfl⟩
      · rw [pushW_nil, hy]; rfl
      · have := h.apart
        rw [pushW_other o' (by omega), hy]
    · rw [pushW_other o hy]
      exact pushW_same _ (by omega)
theorem redF_push {s : List Int} (h : Rd s) (out : List Int) (x : Int) : redF s (pushW out x) = pushW (redF s out) x := by
  rcases concatW_cases out with rfl | ⟨o, y, rfl⟩
  · rw [pushW_nil]; rfl
  · by_cases hy : y = -x
    · rw [pushW_same o hy, redF_snoc, hy]
      have := (h.red o).cancel (-x)
      rw [show - -x = x by omega] at this
      exact this.symm
    · rw [pushW_other o hy, redF_snoc]
theorem redF_redF {s : List Int} (h : Rd s) (out w : List Int) : redF s (redF out w) = redF (redF s out) w := by
  induction w generalizing out with
  | nil => rfl
  | cons x t ih => rw [redF_cons, redF_cons, ih, redF_push h]
theorem redF_redW {s : List Int} (h : Rd s) (w : List Int) : redF s (redW w) = redF s w := redF_redF h [] w
theorem redW_left (a b : List Int) : redW (redW a ++ b) = redW (a ++ b) := by
  unfold redW; rw [redF_app, redF_app]; congr 1; exact Rd.redW a
theorem redW_right (a b : List Int) : redW (a ++ redW b) = redW (a ++ b) := by
  show redF [] _ = redF [] _
  rw [redF_app, redF_app, redF_redW (Rd.red Rd.nil a)]
theorem redF_inv {s : List Int} (h : Rd s) (w : List Int) : redF s (w ++ invW w) = s := by
  induction w generalizing s with
  | nil => rfl
  | cons x t ih =>
    rw [invW_cons, List.cons_append, redF_cons, ← List.append_assoc, redF_snoc, ih (h.push x)]
    exact h.cancel x
theorem redF_inv' {s : List Int} (h : Rd s) (w : List Int) : redF s (invW w ++ w) = s := by
  have := redF_inv h (invW w)
  rwa [invW_inv] at this

/-! ### Codes and bounds -/
def isWB (k : Int) (w : List Int) : Bool := decide (w.length ≤ 64) && decide (∀ z ∈ w, z ≠ 0 ∧ -k ≤ z ∧ z ≤ k)
def isW (k : Int) (w : List Int) : Bool := decide (0 ≤ k ∧ k ≤ 6) && isWB k w
theorem isWB_iff {k : Int} {w : List Int} : isWB k w = true ↔ w.length ≤ 64 ∧ ∀ z ∈ w, z ≠ 0 ∧ -k ≤ z ∧ z ≤ k := by simp [isWB]
theorem isWB_len {k : Int} {w : List Int} (h : 64 < w.length) : isWB k w = false := by
  cases h1 : isWB k w with
  | false => rfl
  | true => have := (isWB_iff.mp h1).1; omega
theorem isWB_bad {k : Int} {w : List Int} {j : Nat} (hj : j < w.length) (h : w.getD j 0 = 0 ∨ w.getD j 0 < -k ∨ k < w.getD j 0) : isWB k w = false := by
  cases h1 : isWB k w with
  | false => rfl
  | true =>
    have h2 := (isWB_iff.mp h1).2 _ (List.getElem_mem hj)
    rw [List.getD_eq_getElem?_getD, List.getElem?_eq_getElem hj] at h
    simp only [Option.getD_some] at h
    omega
theorem isWB_yes {k : Int} {w : List Int} (hl : w.length ≤ 64) (h : ∀ j, j < w.length → w.getD j 0 ≠ 0 ∧ -k ≤ w.getD j 0 ∧ w.getD j 0 ≤ k) : isWB k w = true := by
  refine isWB_iff.mpr ⟨hl, fun z hz => ?_⟩
  obtain ⟨j, hj, rfl⟩ := List.mem_iff_getElem.mp hz
  have := h j hj
  rwa [List.getD_eq_getElem?_getD, List.getElem?_eq_getElem hj] at this
theorem isWB_small {k : Int} {w : List Int} (hk : k ≤ 6) (h : isWB k w = true) : SmallW w := fun z hz => by
  have := (isWB_iff.mp h).2 z hz
  omega
theorem isWB_nil (k : Int) : isWB k [] = true := by simp [isWB]

/-! ### Sums -/
def incS (acc : List Int) (x : Int) : List Int := if 0 < x then acc.set (x - 1).toNat (acc.getD (x - 1).toNat 0 + 1) else acc.set (-x - 1).toNat (acc.getD (-x - 1).toNat 0 - 1)
def sumF (acc w : List Int) : List Int := w.foldl incS acc
def sumW (k : Int) (w : List Int) : List Int := sumF (List.replicate k.toNat 0) w
theorem sumF_step (acc w : List Int) (k : Nat) (h : k < w.length) : sumF acc (w.take (k + 1)) = incS (sumF acc (w.take k)) (w.getD k 0) := by
  rw [takeW_snoc w k h]; simp [sumF, List.foldl_append]
theorem incS_len (acc : List Int) (x : Int) : (incS acc x).length = acc.length := by unfold incS; split <;> simp
theorem sumF_len (acc w : List Int) : (sumF acc w).length = acc.length := by
  induction w generalizing acc with
  | nil => rfl
  | cons x t ih => show (sumF (incS acc x) t).length = _; rw [ih, incS_len]
def BdS (n : Nat) (acc : List Int) : Prop := ∀ i, i < acc.length → -(n : Int) ≤ acc.getD i 0 ∧ acc.getD i 0 ≤ n
theorem getDW_set_self {acc : List Int} {i : Nat} (v : Int) (h : i < acc.length) : (acc.set i v).getD i 0 = v := by
  rw [List.getD_eq_getElem?_getD, List.getElem?_set_self h]; rfl
theorem getDW_set_ne {acc : List Int} {i j : Nat} (v : Int) (h : j ≠ i) : (acc.set j v).getD i 0 = acc.getD i 0 := by
  rw [List.getD_eq_getElem?_getD, List.getElem?_set_ne h, ← List.getD_eq_getElem?_getD]
theorem BdS.inc {n : Nat} {acc : List Int} (h : BdS n acc) (x : Int) : BdS (n + 1) (incS acc x) := by
  intro i hi
  rw [incS_len] at hi
  have := h i hi
  unfold incS
  split
  · by_cases e : (x - 1).toNat = i
    · subst e; rw [getDW_set_self _ hi]; omega
    · rw [getDW_set_ne _ e]; omega
  · by_cases e : (-x - 1).toNat = i
    · subst e; rw [getDW_set_self _ hi]; omega
    · rw [getDW_set_ne _ e]; omega
theorem BdS.zero (k : Nat) : BdS 0 (List.replicate k 0) := by
  intro i hi
  simp at hi
  rw [List.getD_eq_getElem?_getD, List.getElem?_replicate]
  simp [hi]
theorem BdS.sum {acc : List Int} (h : BdS 0 acc) (w : List Int) (k : Nat) (hk : k ≤ w.length) : BdS k (sumF acc (w.take k)) := by
  induction k with
  | zero => simpa [sumF] using h
  | succ k ih =>
    rw [sumF_step _ _ _ (by omega)]
    exact (ih (by omega)).inc _

/-! ### Powers and substitution -/
def powL (w : List Int) (n : Nat) : List Int := (List.replicate n w).flatten
theorem powL_succ (w : List Int) (n : Nat) : powL w (n + 1) = powL w n ++ w := by
  unfold powL
  rw [List.replicate_succ', List.flatten_append]; simp
theorem powL_len (w : List Int) (n : Nat) : (powL w n).length = n * w.length := by simp [powL]
def facW (imgs : List (List Int)) (x : Int) : List Int := if 0 < x then imgs.getD (x - 1).toNat [] else invW (imgs.getD (-x - 1).toNat [])
def facsW (imgs : List (List Int)) (w : List Int) : List (List Int) := w.map (facW imgs)
def repW (imgs : List (List Int)) (w : List Int) : List Int := (facsW imgs w).flatten
theorem facsW_take (imgs : List (List Int)) (w : List Int) (k : Nat) (h : k < w.length) : facsW imgs (w.take (k + 1)) = facsW imgs (w.take k) ++ [facW imgs (w.getD k 0)] := by
  rw [takeW_snoc w k h]; simp [facsW]
theorem repW_take (imgs : List (List Int)) (w : List Int) (k : Nat) (h : k < w.length) : repW imgs (w.take (k + 1)) = repW imgs (w.take k) ++ facW imgs (w.getD k 0) := by
  unfold repW; rw [facsW_take imgs w k h]; simp
theorem flat_take (fs : List (List Int)) (i : Nat) (h : i < fs.length) : (fs.take (i + 1)).flatten = (fs.take i).flatten ++ fs.getD i [] := by
  rw [List.take_add_one, List.flatten_append, List.getD_eq_getElem?_getD, List.getElem?_eq_getElem h]; simp
theorem redW_flat (fs : List (List Int)) (i : Nat) (h : i < fs.length) : redW (fs.take (i + 1)).flatten = redF (redW (fs.take i).flatten) (fs.getD i []) := by
  rw [flat_take fs i h]; exact redF_app _ _ _
theorem flat_len (fs : List (List Int)) (i : Nat) (hi : i ≤ fs.length) (hb : ∀ j, j < fs.length → (fs.getD j []).length ≤ 64) : (fs.take i).flatten.length ≤ 64 * i := by
  induction i with
  | zero => simp
  | succ i ih => rw [flat_take fs i (by omega), List.length_append]; have := ih (by omega); have := hb i (by omega); omega
theorem redW_bd (fs : List (List Int)) (i : Nat) (h : i < fs.length) (hb : ∀ j, j < fs.length → (fs.getD j []).length ≤ 64) : (redW (fs.take i).flatten).length ≤ 64 * i :=
  Nat.le_trans (redW_len _) (flat_len fs i (by omega) hb)
theorem redW_sm (fs : List (List Int)) (i : Nat) (hs : ∀ j, j < fs.length → SmallW (fs.getD j [])) : SmallW (redW (fs.take i).flatten) := by
  refine SmallW.nil.red (SmallW.flat fun f hf => ?_)
  obtain ⟨j, hj, rfl⟩ := List.mem_iff_getElem.mp (List.mem_of_mem_take hf)
  have := hs j hj
  rwa [List.getD_eq_getElem?_getD, List.getElem?_eq_getElem hj] at this
end Go.Proofs.Yteappjgdcbploaa.Num
