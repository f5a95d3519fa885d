/- Rows over a prime field as lists: sums, multiples, reduced forms. -/
import Derived.Test.YtggkoihlmijacaaNumM
import Derived.Test.YtggkoihlmijacaaNumB
namespace Go.Proofs.Ytggkoihlmijacaa.Num
set_option linter.unusedVariables false
set_option linter.unusedSimpArgs false

/-- A list of n entries. -/
def tab (n : Nat) (f : Nat → Int) : List Int := (List.range n).map f
theorem tab_length (n : Nat) (f : Nat → Int) : (tab n f).length = n := by simp [tab]
theorem tab_get (n : Nat) (f : Nat → Int) {i : Nat} (h : i < n) : (tab n f).getD i 0 = f i := by simp [tab, h]
theorem getD_ge {α : Type} (v : List α) (d : α) {i : Nat} (h : v.length ≤ i) : v.getD i d = d := by
  rw [List.getD_eq_getElem?_getD, List.getElem?_eq_none h]; rfl
theorem getD_lt {α : Type} (v : List α) (d : α) {i : Nat} (h : i < v.length) : v.getD i d = v[i] := by
  rw [List.getD_eq_getElem?_getD, List.getElem?_eq_getElem h]; rfl
theorem ext_getD {α : Type} (d : α) {xs ys : List α} (hl : xs.length = ys.length) (h : ∀ i, i < xs.length → xs.getD i d = ys.getD i d) : xs = ys := by
  apply List.ext_getElem hl
  intro i h1 h2
  have := h i h1
  rwa [getD_lt _ _ h1, getD_lt _ _ h2] at this
theorem tab_ext {xs : List Int} {n : Nat} {f : Nat → Int} (hl : xs.length = n) (h : ∀ i, i < n → xs.getD i 0 = f i) : xs = tab n f :=
  ext_getD 0 (by rw [hl, tab_length]) fun i hi => by rw [h i (by omega), tab_get _ _ (by omega)]
theorem tab_congr {n : Nat} {f g : Nat → Int} (h : ∀ i, i < n → f i = g i) : tab n f = tab n g :=
  tab_ext (tab_length _ _) fun i hi => by rw [tab_get _ _ hi, h i hi]
/-- f at the first j entries, v behind. -/
def upto (f : Nat → Int) (v : List Int) (j : Nat) : List Int := tab v.length fun i => if i < j then f i else v.getD i 0
theorem upto_length (f : Nat → Int) (v : List Int) (j : Nat) : (upto f v j).length = v.length := tab_length _ _
theorem upto_zero (f : Nat → Int) (v : List Int) : upto f v 0 = v := (tab_ext rfl fun i hi => by simp).symm
theorem upto_all (f : Nat → Int) (v : List Int) : upto f v v.length = tab v.length f := tab_congr fun i hi => by simp [hi]
theorem upto_get (f : Nat → Int) (v : List Int) {j : Nat} (h : j < v.length) : (upto f v j).getD j 0 = v.getD j 0 := by
  unfold upto; rw [tab_get _ _ h, if_neg (by omega)]
theorem upto_step (f : Nat → Int) (v : List Int) {j : Nat} (h : j < v.length) : (upto f v j).set j (f j) = upto f v (j + 1) := by
  refine ext_getD 0 (by simp [upto_length]) fun i hi => ?_
  have hi' : i < v.length := by simpa [upto_length] using hi
  by_cases e : i = j
  · subst e
    rw [List.getD_eq_getElem?_getD, List.getElem?_set_self (by rw [upto_length]; exact hi')]
    unfold upto
    rw [tab_get _ _ hi', if_pos (by omega)]
    rfl
  · rw [List.getD_eq_getElem?_getD, List.getElem?_set_ne (by omega), ← List.getD_eq_getElem?_getD]
    unfold upto
    rw [tab_get _ _ hi', tab_get _ _ hi']
    by_cases h1 : i < j
    · rw [if_pos h1, if_pos (by omega)]
    · rw [if_neg h1, if_neg (by omega)]
/-- v plus c times w; c times v. -/
def addF (p c : Int) (v w : List Int) (i : Nat) : Int := (v.getD i 0 + c * w.getD i 0) % p
def addV (p c : Int) (v w : List Int) : List Int := tab v.length (addF p c v w)
def scaleF (p c : Int) (v : List Int) (i : Nat) : Int := c * v.getD i 0 % p
def scaleV (p c : Int) (v : List Int) : List Int := tab v.length (scaleF p c v)
theorem addV_length (p c : Int) (v w : List Int) : (addV p c v w).length = v.length := tab_length _ _
theorem scaleV_length (p c : Int) (v : List Int) : (scaleV p c v).length = v.length := tab_length _ _

/-- The index of the first entry that is not 0, or the length. -/
def lead (v : List Int) : Nat := v.findIdx (· != 0)
theorem lead_le (v : List Int) : lead v ≤ v.length := List.findIdx_le_length
theorem lead_zero {v : List Int} {i : Nat} (h : i < lead v) : v.getD i 0 = 0 := by
  have h2 : i < v.length := Nat.lt_of_lt_of_le h (lead_le v)
  have := List.not_of_lt_findIdx h
  rw [getD_lt _ _ h2]
  simpa using this
theorem lead_ne {v : List Int} (h : lead v < v.length) : v.getD (lead v) 0 ≠ 0 := by
  have h2 : (v[lead v]'h != 0) = true := List.findIdx_getElem (w := h)
  rw [getD_lt _ _ h]
  simpa using h2
theorem lead_eq {v : List Int} {k : Nat} (h1 : k ≤ v.length) (h2 : ∀ i, i < k → v.getD i 0 = 0) (h3 : k < v.length → v.getD k 0 ≠ 0) : lead v = k := by
  rcases Nat.lt_trichotomy (lead v) k with h | h | h
  · exact absurd (h2 _ h) (lead_ne (by omega))
  · exact h
  · exact absurd (lead_zero h) (h3 (by have := lead_le v; omega))

structure Vec (p : Int) (n : Nat) (v : List Int) : Prop where
  len : v.length = n
  lo : ∀ i, 0 ≤ v.getD i 0
  hi : ∀ i, v.getD i 0 < p
theorem Vec.mod {p : Int} {n : Nat} {v : List Int} (h : Vec p n v) (i : Nat) : v.getD i 0 % p = v.getD i 0 := Int.emod_eq_of_lt (h.lo i) (h.hi i)
theorem Vec.tab {p : Int} {n : Nat} {f : Nat → Int} (hp : 0 < p) (h : ∀ i, i < n → 0 ≤ f i ∧ f i < p) : Vec p n (tab n f) := by
  refine ⟨tab_length _ _, fun i => ?_, fun i => ?_⟩
  all_goals
    by_cases hi : i < n
    · rw [tab_get _ _ hi]
      have := h i hi
      omega
    · rw [getD_ge _ _ (by rw [tab_length]; omega)]
      omega
theorem Vec.add {p c : Int} {n : Nat} {v w : List Int} (hp : 0 < p) (h : v.length = n) : Vec p n (addV p c v w) := by
  unfold addV
  rw [h]
  exact Vec.tab hp fun i hi => mod_bd _ hp
theorem Vec.scale {p c : Int} {n : Nat} {v : List Int} (hp : 0 < p) (h : v.length = n) : Vec p n (scaleV p c v) := by
  unfold scaleV
  rw [h]
  exact Vec.tab hp fun i hi => mod_bd _ hp
theorem vec_of {p : Int} {n : Nat} {v : List Int} (hp : 0 < p) (h : vecB p n v = true) : Vec p n v := by
  obtain ⟨h1, h2⟩ := vecB_out h
  refine ⟨by omega, fun i => ?_, fun i => ?_⟩
  all_goals
    by_cases hi : i < v.length
    · have := h2 i hi
      omega
    · rw [getD_ge _ _ (by omega)]
      omega
theorem addV_get {p c : Int} {v w : List Int} {i : Nat} (hw : w.length = v.length) : (addV p c v w).getD i 0 = (v.getD i 0 + c * w.getD i 0) % p := by
  by_cases h : i < v.length
  · exact tab_get _ _ h
  · rw [getD_ge _ _ (by rw [addV_length]; omega), getD_ge v _ (by omega), getD_ge w _ (by omega)]
    simp
theorem scaleV_get {p c : Int} {v : List Int} {i : Nat} : (scaleV p c v).getD i 0 = c * v.getD i 0 % p := by
  by_cases h : i < v.length
  · exact tab_get _ _ h
  · rw [getD_ge _ _ (by rw [scaleV_length]; omega), getD_ge v _ (by omega)]
    simp
/-- The factor does not matter if it is 0. -/
theorem addV_zero {p : Int} {n : Nat} {v w : List Int} (h : Vec p n v) (hw : w.length = v.length) : addV p 0 v w = v :=
  ext_getD 0 (addV_length _ _ _ _) fun i hi => by rw [addV_get hw]; simpa using h.mod i

/-! ### Rows in reduced form -/
def neg (p x : Int) : Int := -x % p
theorem neg_zero (p : Int) : neg p 0 = 0 := by simp [neg]
theorem neg_pos {p x : Int} (h0 : 0 < x) (h1 : x < p) : neg p x = p - x := by
  unfold neg
  rw [← Int.add_emod_right, Int.emod_eq_of_lt (by omega) (by omega)]
  omega
theorem neg_bd {p : Int} (x : Int) (hp : 0 < p) : 0 ≤ neg p x ∧ neg p x < p := mod_bd _ hp
theorem add_neg {p x : Int} : (x + neg p x * 1) % p = 0 := by
  unfold neg
  rw [Int.mul_one, Int.add_emod_emod, Int.add_right_neg, Int.zero_emod]
def clearStep (p : Int) (v r : List Int) : List Int := addV p (neg p (v.getD (lead r) 0)) v r
def clearV (p : Int) (rows : List (List Int)) (v : List Int) : List Int := rows.foldl (clearStep p) v
theorem clear_take {p : Int} {rows : List (List Int)} {v : List Int} {j : Nat} (h : j < rows.length) : clearV p (rows.take (j + 1)) v = clearStep p (clearV p (rows.take j) v) (rows.getD j []) := by
  unfold clearV
  rw [List.take_succ_eq_append_getElem h, List.foldl_append]
  simp [h]
theorem clear_length (p : Int) (rows : List (List Int)) (v : List Int) : (clearV p rows v).length = v.length := by
  unfold clearV
  induction rows generalizing v with
  | nil => rfl
  | cons a l ih => rw [List.foldl_cons, ih]; exact addV_length _ _ _ _
structure Ech (p : Int) (n : Nat) (e : List (List Int)) : Prop where
  vec : ∀ i, i < e.length → Vec p n (e.getD i [])
  lt : ∀ i, i < e.length → lead (e.getD i []) < n
  one : ∀ i, i < e.length → (e.getD i []).getD (lead (e.getD i [])) 0 = 1
  zero : ∀ i j, i < e.length → j < e.length → i ≠ j → (e.getD j []).getD (lead (e.getD i [])) 0 = 0
  sorted : ∀ i j, i < j → j < e.length → lead (e.getD i []) < lead (e.getD j [])
theorem Ech.nil (p : Int) (n : Nat) : Ech p n [] := ⟨fun i h => by simp at h, fun i h => by simp at h, fun i h => by simp at h, fun i j h => by simp at h, fun i j _ h => by simp at h⟩
theorem Ech.clear_to {p : Int} {n : Nat} {e : List (List Int)} {v : List Int} (hp : 0 < p) (h : Ech p n e) (hv : Vec p n v) (j : Nat) (hj : j ≤ e.length) :
    Vec p n (clearV p (e.take j) v) ∧ (∀ i, i < j → (clearV p (e.take j) v).getD (lead (e.getD i [])) 0 = 0) ∧ ∀ i, j ≤ i → i < e.length → (clearV p (e.take j) v).getD (lead (e.getD i [])) 0 = v.getD (lead (e.getD i [])) 0 := by
  induction j with
  | zero => exact ⟨by simpa [clearV] using hv, fun i h => by omega, fun i _ _ => by simp [clearV]⟩
  | succ j ih =>
    obtain ⟨h1, h2, h3⟩ := ih (by omega)
    have hj' : j < e.length := by omega
    have hl : (e.getD j []).length = (clearV p (e.take j) v).length := by rw [(h.vec j hj').len, h1.len]
    rw [clear_take hj']
    refine ⟨Vec.add hp h1.len, fun i hi => ?_, fun i hi hi' => ?_⟩
    · unfold clearStep
      rw [addV_get hl]
      by_cases e1 : i = j
      · subst e1
        rw [h.one i hj']
        exact add_neg
      · rw [h.zero i j (by omega) hj' e1, h2 i (by omega)]
        simp
    · unfold clearStep
      rw [addV_get hl, h.zero i j hi' hj' (by omega), h3 i (by omega) hi', Int.mul_zero, Int.add_zero, hv.mod]
theorem Ech.clear {p : Int} {n : Nat} {e : List (List Int)} {v : List Int} (hp : 0 < p) (h : Ech p n e) (hv : Vec p n v) :
    Vec p n (clearV p e v) ∧ ∀ i, i < e.length → (clearV p e v).getD (lead (e.getD i [])) 0 = 0 := by
  obtain ⟨h1, h2, _⟩ := h.clear_to hp hv e.length (Nat.le_refl _)
  rw [List.take_length] at h1 h2
  exact ⟨h1, h2⟩
/-- Where a row with lead k belongs. -/
def place (e : List (List Int)) (k : Nat) : Nat := e.findIdx fun r => decide (k ≤ lead r)
theorem place_le (e : List (List Int)) (k : Nat) : place e k ≤ e.length := List.findIdx_le_length
theorem place_lt {e : List (List Int)} {k i : Nat} (h : i < place e k) : lead (e.getD i []) < k := by
  have h2 : i < e.length := Nat.lt_of_lt_of_le h (place_le e k)
  have := List.not_of_lt_findIdx h
  rw [getD_lt _ _ h2]
  simpa using this
theorem place_at {e : List (List Int)} {k : Nat} (h : place e k < e.length) : k ≤ lead (e.getD (place e k) []) := by
  have h2 : decide (k ≤ lead (e[place e k]'h)) = true := List.findIdx_getElem (w := h)
  rw [getD_lt _ _ h]
  simpa using h2
theorem place_eq {e : List (List Int)} {k i : Nat} (h1 : i ≤ e.length) (h2 : ∀ j, j < i → lead (e.getD j []) < k) (h3 : i < e.length → k ≤ lead (e.getD i [])) : place e k = i := by
  rcases Nat.lt_trichotomy (place e k) i with h | h | h
  · have := place_at (e := e) (k := k) (by omega); have := h2 _ h; omega
  · exact h
  · have := place_lt h; have := h3 (by have := place_le e k; omega); omega
theorem Ech.place_ge {p : Int} {n : Nat} {e : List (List Int)} (h : Ech p n e) {k j : Nat} (hj : place e k ≤ j) (hl : j < e.length) : k ≤ lead (e.getD j []) := by
  have h1 := place_at (e := e) (k := k) (by omega)
  by_cases e1 : place e k = j
  · rw [← e1]; exact h1
  · have := h.sorted _ _ (by omega : place e k < j) hl; omega
/-- v put in at i. -/
def putAt (e : List (List Int)) (i : Nat) (v : List Int) : List (List Int) := e.take i ++ v :: e.drop i
theorem putAt_length {e : List (List Int)} {i : Nat} {v : List Int} (h : i ≤ e.length) : (putAt e i v).length = e.length + 1 := by
  simp [putAt]; omega
theorem putAt_get {e : List (List Int)} {i : Nat} {v : List Int} (h : i ≤ e.length) (j : Nat) : (putAt e i v).getD j [] = if j < i then e.getD j [] else if j = i then v else e.getD (j - 1) [] := by
  unfold putAt
  have ht : (e.take i).length = i := by simp; omega
  simp only [List.getD_eq_getElem?_getD]
  by_cases h1 : j < i
  · rw [if_pos h1, List.getElem?_append_left (by omega), List.getElem?_take_of_lt h1]
  · rw [if_neg h1, List.getElem?_append_right (by omega), ht]
    by_cases h2 : j = i
    · subst h2; simp
    · rw [if_neg h2]
      have e1 : j - i = (j - 1 - i) + 1 := by omega
      rw [e1, List.getElem?_cons_succ, List.getElem?_drop]
      congr 2
      omega
def cut (p : Int) (v : List Int) (k : Nat) (r : List Int) : List Int := addV p (neg p (r.getD k 0)) r v
def insRow (p : Int) (e : List (List Int)) (v : List Int) (k : Nat) : List (List Int) := putAt (e.map (cut p v k)) (place e k) v
theorem map_getD {e : List (List Int)} {f : List Int → List Int} {i : Nat} (h : i < e.length) : (e.map f).getD i [] = f (e.getD i []) := by
  rw [getD_lt _ _ (by simpa using h), getD_lt _ _ h, List.getElem_map]
section ins
variable {p : Int} {n : Nat} {e : List (List Int)} {v : List Int} {k : Nat}
theorem cut_get {r : List Int} {i : Nat} (h : v.length = r.length) : (cut p v k r).getD i 0 = (r.getD i 0 + neg p (r.getD k 0) * v.getD i 0) % p := addV_get h
theorem Ech.cut_lead (hp : 1 < p) (h : Ech p n e) (hv : Vec p n v) (hk : ∀ i, i < k → v.getD i 0 = 0) (h0 : ∀ i, i < e.length → v.getD (lead (e.getD i [])) 0 = 0) {i : Nat} (hi : i < e.length) : lead (cut p v k (e.getD i [])) = lead (e.getD i []) := by
  have hl : v.length = (e.getD i []).length := by rw [hv.len, (h.vec i hi).len]
  have hlen : (cut p v k (e.getD i [])).length = n := by rw [← (h.vec i hi).len]; exact addV_length _ _ _ _
  refine lead_eq (by have := h.lt i hi; omega) (fun c hc => ?_) fun _ => ?_
  · rw [cut_get hl, lead_zero hc]
    by_cases hck : c < k
    · rw [hk c hck]; simp
    · rw [lead_zero (by omega : k < lead (e.getD i []))]; simp [neg_zero]
  · rw [cut_get hl, h.one i hi, h0 i hi, Int.mul_zero, Int.add_zero, Int.emod_eq_of_lt (by omega) hp]
    omega
theorem Ech.cut_place (hp : 1 < p) (h : Ech p n e) (hv : Vec p n v) (hk : ∀ i, i < k → v.getD i 0 = 0) (h0 : ∀ i, i < e.length → v.getD (lead (e.getD i [])) 0 = 0) : place (e.map (cut p v k)) k = place e k := by
  have hl := place_le e k
  refine place_eq (by simpa using hl) (fun j hj => ?_) fun hlt => ?_
  · rw [map_getD (by omega), h.cut_lead hp hv hk h0 (by omega)]
    exact place_lt hj
  · have hlt' : place e k < e.length := by simpa using hlt
    rw [map_getD hlt', h.cut_lead hp hv hk h0 hlt']
    exact place_at hlt'
theorem Ech.ins (hp : 1 < p) (h : Ech p n e) (hv : Vec p n v) (hk : ∀ i, i < k → v.getD i 0 = 0) (h0 : ∀ i, i < e.length → v.getD (lead (e.getD i [])) 0 = 0) (h1 : v.getD k 0 = 1) (hkn : k < n) : Ech p n (insRow p e v k) := by
  have lv : lead v = k := lead_eq (by have := hv.len; omega) hk fun _ => by rw [h1]; omega
  have hpl : place e k ≤ (e.map (cut p v k)).length := by simpa using place_le e k
  have hle : (insRow p e v k).length = e.length + 1 := by unfold insRow; rw [putAt_length hpl]; simp
  have cl : ∀ i, i < e.length → lead (cut p v k (e.getD i [])) = lead (e.getD i []) := fun i hi => h.cut_lead hp hv hk h0 hi
  have len : ∀ i, i < e.length → v.length = (e.getD i []).length := fun i hi => by rw [hv.len, (h.vec i hi).len]
  have cz : ∀ i, i < e.length → (cut p v k (e.getD i [])).getD k 0 = 0 := fun i hi => by
    rw [cut_get (len i hi), h1]; exact add_neg
  have cc : ∀ i j, i < e.length → j < e.length → (cut p v k (e.getD j [])).getD (lead (e.getD i [])) 0 = (e.getD j []).getD (lead (e.getD i [])) 0 := fun i j hi hj => by
    rw [cut_get (len j hj), h0 i hi, Int.mul_zero, Int.add_zero, (h.vec j hj).mod]
  have gt : ∀ j, place e k ≤ j → j < e.length → k < lead (e.getD j []) := fun j hj hl => by
    have a := h.place_ge hj hl
    by_cases e1 : k = lead (e.getD j [])
    · have b := h0 j hl
      rw [← e1, h1] at b
      omega
    · omega
  -- the rows one by one
  have get : ∀ j, j < e.length + 1 → (∃ i, i < e.length ∧ (insRow p e v k).getD j [] = cut p v k (e.getD i []) ∧ (j < place e k ∧ i = j ∨ place e k < j ∧ i = j - 1)) ∨ (j = place e k ∧ (insRow p e v k).getD j [] = v) := fun j hj => by
    have hple := place_le e k
    unfold insRow
    rw [putAt_get hpl]
    by_cases a : j < place e k
    · left
      exact ⟨j, by omega, by rw [if_pos a, map_getD (by omega)], .inl ⟨a, rfl⟩⟩
    · rw [if_neg a]
      by_cases b : j = place e k
      · right; exact ⟨b, by rw [if_pos b]⟩
      · left
        exact ⟨j - 1, by omega, by rw [if_neg b, map_getD (by omega)], .inr ⟨by omega, rfl⟩⟩
  have ld : ∀ j, j < e.length + 1 → (∃ i, i < e.length ∧ lead ((insRow p e v k).getD j []) = lead (e.getD i []) ∧ (j < place e k ∧ i = j ∨ place e k < j ∧ i = j - 1)) ∨ (j = place e k ∧ lead ((insRow p e v k).getD j []) = k) := fun j hj => by
    rcases get j hj with ⟨i, hi, e1, c⟩ | ⟨e0, e1⟩
    · exact .inl ⟨i, hi, by rw [e1, cl i hi], c⟩
    · exact .inr ⟨e0, by rw [e1, lv]⟩
  refine ⟨fun j hj => ?_, fun j hj => ?_, fun j hj => ?_, fun i j hi hj hij => ?_, fun i j hij hj => ?_⟩
  · rcases get j (by omega) with ⟨i, hi, e1, _⟩ | ⟨_, e1⟩
    · rw [e1]; exact Vec.add (by omega) (h.vec i hi).len
    · rw [e1]; exact hv
  · rcases ld j (by omega) with ⟨i, hi, e1, _⟩ | ⟨_, e1⟩
    · rw [e1]; exact h.lt i hi
    · rw [e1]; exact hkn
  · rcases get j (by omega) with ⟨i, hi, e1, _⟩ | ⟨_, e1⟩
    · rw [e1, cl i hi, cc i i hi hi]; exact h.one i hi
    · rw [e1, lv]; exact h1
  · rcases get j (by omega) with ⟨b, hb, e2, c2⟩ | ⟨c2, e2⟩
    · rcases ld i (by omega) with ⟨a, ha, e1, c1⟩ | ⟨c1, e1⟩
      · rw [e1, e2, cc a b ha hb]
        exact h.zero a b ha hb (by omega)
      · rw [e1, e2]; exact cz b hb
    · rcases ld i (by omega) with ⟨a, ha, e1, c1⟩ | ⟨c1, e1⟩
      · rw [e1, e2]; exact h0 a ha
      · omega
  · rcases ld i (by omega) with ⟨a, ha, e1, c1⟩ | ⟨c1, e1⟩
    · rcases ld j (by omega) with ⟨b, hb, e2, c2⟩ | ⟨c2, e2⟩
      · rw [e1, e2]; exact h.sorted a b (by omega) hb
      · rw [e1, e2]
        have := place_lt (e := e) (k := k) (i := a) (by omega)
        exact this
    · rcases ld j (by omega) with ⟨b, hb, e2, c2⟩ | ⟨c2, e2⟩
      · rw [e1, e2]; exact gt b (by omega) hb
      · omega
end ins
noncomputable def unify (p : Int) (v : List Int) : List Int := scaleV p (bez (v.getD (lead v) 0) p) v
noncomputable def reduceStep (p : Int) (e : List (List Int)) (row : List Int) : List (List Int) :=
  if lead (clearV p e row) = (clearV p e row).length then e else insRow p e (unify p (clearV p e row)) (lead (clearV p e row))
noncomputable def reduceR (p : Int) (rows : List (List Int)) : List (List Int) := rows.foldl (reduceStep p) []
theorem reduce_take {p : Int} {rows : List (List Int)} {j : Nat} (h : j < rows.length) : reduceR p (rows.take (j + 1)) = reduceStep p (reduceR p (rows.take j)) (rows.getD j []) := by
  unfold reduceR
  rw [List.take_succ_eq_append_getElem h, List.foldl_append]
  simp [h]
theorem unify_facts {p : Int} {n : Nat} {v : List Int} (hp : gp p = true) (hv : Vec p n v) (hk : lead v < n) :
    Vec p n (unify p v) ∧ (∀ i, v.getD i 0 = 0 → (unify p v).getD i 0 = 0) ∧ (unify p v).getD (lead v) 0 = 1 := by
  have hp2 := gp_le hp
  refine ⟨Vec.scale (by omega) hv.len, fun i hi => ?_, ?_⟩
  · unfold unify; rw [scaleV_get, hi]; simp
  · have h1 := lead_ne (v := v) (by rw [hv.len]; exact hk)
    have h2 := hv.lo (lead v)
    have h3 := hv.hi (lead v)
    obtain ⟨_, _, b⟩ := bez_inv h2 h3 (gp_gcd hp (by omega) h3)
    unfold unify
    rw [scaleV_get, Int.mul_comm, b, Int.emod_eq_of_lt (by omega) (by omega)]
theorem Ech.step {p : Int} {n : Nat} {e : List (List Int)} {row : List Int} (hp : gp p = true) (h : Ech p n e) (hv : Vec p n row) : Ech p n (reduceStep p e row) := by
  have hp2 := gp_le hp
  obtain ⟨c1, c2⟩ := h.clear (by omega) hv
  unfold reduceStep
  by_cases hz : lead (clearV p e row) = (clearV p e row).length
  · rw [if_pos hz]; exact h
  · rw [if_neg hz]
    have hk : lead (clearV p e row) < n := by have := lead_le (clearV p e row); have := c1.len; omega
    obtain ⟨u1, u2, u3⟩ := unify_facts hp c1 hk
    exact h.ins (by omega) u1 (fun i hi => u2 i (lead_zero hi)) (fun i hi => u2 _ (c2 i hi)) u3 hk
theorem ech_reduce {p : Int} {n : Nat} {rows : List (List Int)} (hp : gp p = true) (h : ∀ i, i < rows.length → Vec p n (rows.getD i [])) (j : Nat) (hj : j ≤ rows.length) : Ech p n (reduceR p (rows.take j)) := by
  induction j with
  | zero => simpa [reduceR] using Ech.nil p n
  | succ j ih =>
    rw [reduce_take (by omega)]
    exact (ih (by omega)).step hp (h j (by omega))
theorem ech_reduce_all {p : Int} {n : Nat} {rows : List (List Int)} (hp : gp p = true) (h : ∀ i, i < rows.length → Vec p n (rows.getD i [])) : Ech p n (reduceR p rows) := by
  have := ech_reduce hp h rows.length (Nat.le_refl _)
  rwa [List.take_length] at this
theorem reduce_len {p : Int} {rows : List (List Int)} : (reduceR p rows).length ≤ rows.length := by
  unfold reduceR
  suffices H : ∀ e : List (List Int), (rows.foldl (reduceStep p) e).length ≤ e.length + rows.length by simpa using H []
  induction rows with
  | nil => intro e; simp
  | cons a l ih =>
    intro e
    rw [List.foldl_cons, List.length_cons]
    have h1 := ih (reduceStep p e a)
    have h2 : (reduceStep p e a).length ≤ e.length + 1 := by
      unfold reduceStep
      split
      · omega
      · unfold insRow; rw [putAt_length (by simpa using place_le e _)]; simp
    omega
end Go.Proofs.Ytggkoihlmijacaa.Num
