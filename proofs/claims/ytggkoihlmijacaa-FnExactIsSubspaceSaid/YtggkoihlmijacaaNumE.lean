/- Two ways to a determinant modulo a prime: by remainders, and by elimination. -/
import Derived.Test.YtggkoihlmijacaaNumD
namespace Go.Proofs.Ytggkoihlmijacaa.Num
set_option linter.unusedVariables false
set_option linter.unusedSimpArgs false

def matF (L : List (List Int)) : Nat → Nat → Int := fun r c => (L.getD r []).getD c 0
def rowF (v : List Int) : Nat → Int := fun c => v.getD c 0
theorem mid_get (e : List (List Int)) (v : List Int) (t : List (List Int)) (r : Nat) : (e ++ v :: t).getD r [] = if r < e.length then e.getD r [] else if r = e.length then v else t.getD (r - e.length - 1) [] := by
  simp only [List.getD_eq_getElem?_getD]
  by_cases h : r < e.length
  · rw [if_pos h, List.getElem?_append_left h]
  · rw [if_neg h, List.getElem?_append_right (by omega)]
    by_cases h2 : r = e.length
    · subst h2; simp
    · rw [if_neg h2]
      have e1 : r - e.length = (r - e.length - 1) + 1 := by omega
      conv => lhs; rw [e1]
      rw [List.getElem?_cons_succ]
theorem matF_mid (e : List (List Int)) (v : List Int) (t : List (List Int)) : matF (e ++ v :: t) = setRow (matF (e ++ [] :: t)) e.length (rowF v) := by
  funext r c
  unfold setRow matF rowF
  rw [mid_get, mid_get]
  by_cases h : r = e.length
  · subst h; rw [if_neg (by omega), if_pos rfl, if_pos rfl]
  · rw [if_neg h]
    by_cases h2 : r < e.length
    · rw [if_pos h2, if_pos h2, if_neg h]
    · simp only [if_neg h2, if_neg h]
theorem mod_mul {p a b x : Int} (h : a % p = b % p) : x * a % p = x * b % p := by rw [Int.mul_emod, h, ← Int.mul_emod]
theorem mod_mul' {p a b x : Int} (h : a % p = b % p) : a * x % p = b * x % p := by rw [Int.mul_emod, h, ← Int.mul_emod]
section ops
variable {p : Int} {n : Nat}
/-- The row at i turned modulo p. -/
theorem det_set_mod (A : Nat → Nat → Int) (i : Nat) (f g : Nat → Int) (h : ∀ c, c < n → f c % p = g c % p) : det n (setRow A i f) % p = det n (setRow A i g) % p :=
  det_mod fun r hr c hc => by
    by_cases e : r = i
    · subst e; rw [setRow_same, setRow_same]; exact h c hc
    · rw [setRow_ne _ _ e, setRow_ne _ _ e]
theorem det_add_mod (A : Nat → Nat → Int) {i j : Nat} (f : Nat → Int) (x : Int) (hi : i < n) (hj : j < n) (hn : i ≠ j) (h : ∀ c, c < n → f c % p = (A i c + x * A j c) % p) : det n (setRow A i f) % p = det n A % p := by
  rw [det_set_mod A i f (fun c => A i c + x * A j c) h, det_addRow A x hi hj hn]
theorem det_clear (e : List (List Int)) (v : List Int) (t : List (List Int)) (hn : e.length + 1 + t.length = n) (hl : ∀ i, i < e.length → (e.getD i []).length = v.length) :
    det n (matF (e ++ clearV p e v :: t)) % p = det n (matF (e ++ v :: t)) % p := by
  suffices H : ∀ j, j ≤ e.length → det n (matF (e ++ clearV p (e.take j) v :: t)) % p = det n (matF (e ++ v :: t)) % p by
    have := H e.length (Nat.le_refl _)
    rwa [List.take_length] at this
  intro j
  induction j with
  | zero => intro _; simp [clearV]
  | succ j ih =>
    intro hj
    rw [← ih (by omega), clear_take (by omega)]
    generalize hu : clearV p (e.take j) v = u at *
    have ul : u.length = v.length := by rw [← hu, clear_length]
    have e1 : matF (e ++ clearStep p u (e.getD j []) :: t) = setRow (matF (e ++ u :: t)) e.length (rowF (clearStep p u (e.getD j []))) := by
      rw [matF_mid, matF_mid e u t, setRow_set]
    rw [e1]
    refine det_add_mod _ (j := j) _ (neg p (u.getD (lead (e.getD j [])) 0)) (by omega) (by omega) (by omega) fun c _ => ?_
    unfold rowF clearStep
    rw [addV_get (by rw [hl j (by omega), ul])]
    unfold matF
    rw [mid_get, mid_get, if_neg (by omega), if_pos rfl, if_pos (by omega), Int.emod_emod]
theorem det_unit (e : List (List Int)) (v u : List Int) (t : List (List Int)) (x : Int) (hn : e.length + 1 + t.length = n) (h : ∀ c, v.getD c 0 % p = (x * u.getD c 0) % p) :
    det n (matF (e ++ v :: t)) % p = (x * det n (matF (e ++ u :: t))) % p := by
  rw [matF_mid, matF_mid e u, ← det_scale _ _ _ (by omega)]
  exact det_set_mod _ _ _ _ fun c _ => h c
theorem take_snoc_drop (e : List (List Int)) (f : List Int → List Int) {i : Nat} (hi : i < e.length) : (e.map f).take (i + 1) ++ e.drop (i + 1) = ((e.map f).take i ++ e.drop i).set i (f (e.getD i [])) := by
  have hl : ((e.map f).take i).length = i := by simp; omega
  refine List.ext_getElem (by simp; omega) fun r h1 h2 => ?_
  simp only [List.getElem_set, List.getElem_append, List.getElem_take, List.getElem_drop, List.getElem_map, List.length_take, List.length_map]
  have hr : r < e.length := by simp at h1; omega
  by_cases a : r = i
  · subst a
    rw [dif_pos (by omega), if_pos rfl, getD_lt _ _ hi]
  · rw [if_neg (Ne.symm a)]
    by_cases b : r < i
    · rw [dif_pos (by omega), dif_pos (by omega)]
    · rw [dif_neg (by omega), dif_neg (by omega)]
      congr 1
      omega
theorem det_cut (e : List (List Int)) (v : List Int) (k : Nat) (t : List (List Int)) (hn : e.length + 1 + t.length = n) (hl : ∀ i, i < e.length → (e.getD i []).length = v.length) :
    det n (matF (e.map (cut p v k) ++ v :: t)) % p = det n (matF (e ++ v :: t)) % p := by
  suffices H : ∀ j, j ≤ e.length → det n (matF (((e.map (cut p v k)).take j ++ e.drop j) ++ v :: t)) % p = det n (matF (e ++ v :: t)) % p by
    have := H e.length (Nat.le_refl _)
    rwa [List.drop_length, List.append_nil, List.take_of_length_le (by simp)] at this
  intro j
  induction j with
  | zero => intro _; simp
  | succ j ih =>
    intro hj
    have hj' : j < e.length := by omega
    rw [← ih (by omega), take_snoc_drop _ _ hj']
    generalize hE : (e.map (cut p v k)).take j ++ e.drop j = E
    have El : E.length = e.length := by rw [← hE]; simp; omega
    have Ej : E.getD j [] = e.getD j [] := by
      rw [← hE, List.getD_eq_getElem?_getD, List.getElem?_append_right (by simp; omega)]
      have : j - ((e.map (cut p v k)).take j).length = 0 := by simp; omega
      rw [this, List.getElem?_drop, Nat.add_zero, ← List.getD_eq_getElem?_getD]
    have e1 : matF (E.set j (cut p v k (e.getD j [])) ++ v :: t) = setRow (matF (E ++ v :: t)) j (rowF (cut p v k (e.getD j []))) := by
      funext r c
      unfold setRow matF rowF
      rw [mid_get, mid_get, List.length_set]
      by_cases a : r = j
      · subst a
        have : (E.set r (cut p v k (e.getD r []))).getD r [] = cut p v k (e.getD r []) := by rw [List.getD_eq_getElem?_getD, List.getElem?_set_self (by omega)]; rfl
        rw [if_pos (by omega), if_pos rfl, this]
      · rw [if_neg a]
        have : (E.set j (cut p v k (e.getD j []))).getD r [] = E.getD r [] := by rw [List.getD_eq_getElem?_getD, List.getElem?_set_ne (Ne.symm a), ← List.getD_eq_getElem?_getD]
        rw [this]
    rw [e1]
    refine det_add_mod _ (j := E.length) _ (neg p ((e.getD j []).getD k 0)) (by omega) (by omega) (by omega) fun c _ => ?_
    unfold rowF
    rw [cut_get (hl j hj').symm]
    unfold matF
    rw [mid_get, mid_get, if_pos (by omega), if_neg (by omega), if_pos rfl, Ej, Int.emod_emod]
theorem sgn_mul (m : Nat) : sgn m * sgn m = 1 := by unfold sgn; split <;> rfl
theorem det_move (e : List (List Int)) (v : List Int) (t : List (List Int)) (hn : e.length + 1 + t.length = n) (d i : Nat) (hd : i + d = e.length) :
    det n (matF (putAt e i v ++ t)) = sgn d * det n (matF (e ++ v :: t)) := by
  induction d generalizing i with
  | zero =>
    obtain rfl : i = e.length := by omega
    unfold putAt
    rw [List.take_length, List.drop_length]
    simp [sgn]
  | succ d ih =>
    have h := ih (i + 1) (by omega)
    have hi : i < e.length := by omega
    have g : ∀ (a : Nat), a ≤ e.length → ∀ r, (putAt e a v ++ t).getD r [] = if r < a then e.getD r [] else if r = a then v else (e ++ t).getD (r - 1) [] := fun a ha r => by
      have hp : (putAt e a v).length = e.length + 1 := putAt_length ha
      by_cases b : r < e.length + 1
      · have : (putAt e a v ++ t).getD r [] = (putAt e a v).getD r [] := by rw [List.getD_eq_getElem?_getD, List.getElem?_append_left (by omega), ← List.getD_eq_getElem?_getD]
        rw [this, putAt_get ha]
        split
        · rfl
        · split
          · rfl
          · rw [List.getD_eq_getElem?_getD (l := e ++ t), List.getElem?_append_left (by omega), ← List.getD_eq_getElem?_getD]
      · have : (putAt e a v ++ t).getD r [] = t.getD (r - (e.length + 1)) [] := by rw [List.getD_eq_getElem?_getD, List.getElem?_append_right (by omega), hp, ← List.getD_eq_getElem?_getD]
        rw [this, if_neg (by omega), if_neg (by omega), List.getD_eq_getElem?_getD (l := e ++ t), List.getElem?_append_right (by omega), ← List.getD_eq_getElem?_getD]
        congr 1
        omega
    have hs : matF (putAt e i v ++ t) = swapR (matF (putAt e (i + 1) v ++ t)) i (i + 1) := by
      funext r c
      unfold swapR setRow matF
      rw [g i (by omega)]
      have gi := g (i + 1) (by omega) i
      have gi1 := g (i + 1) (by omega) (i + 1)
      by_cases b : r = i + 1
      · subst b
        rw [if_neg (by omega), if_neg (by omega), if_pos rfl, gi, if_pos (by omega)]
        have : (e ++ t).getD i [] = e.getD i [] := by rw [List.getD_eq_getElem?_getD, List.getElem?_append_left hi, ← List.getD_eq_getElem?_getD]
        rw [Nat.add_sub_cancel, this]
      · rw [if_neg b]
        by_cases b2 : r = i
        · subst b2
          rw [if_neg (by omega), if_pos rfl, if_pos rfl, gi1, if_neg (by omega), if_pos rfl]
        · simp only [if_neg b, if_neg b2]
          by_cases b3 : r < i
          · rw [if_pos b3, g (i + 1) (by omega), if_pos (by omega)]
          · rw [if_neg b3, g (i + 1) (by omega), if_neg (by omega), if_neg b]
    rw [hs, det_swap_adj _ (by omega), h, sgn_succ]
    grind
end ops
/-! ### By remainders -/
section rem
variable {p : Int} {n : Nat}
/-- What is left of row j. -/
noncomputable def remV (p : Int) (rows : List (List Int)) (j : Nat) : List Int := clearV p (reduceR p (rows.take j)) (rows.getD j [])
noncomputable def passed (p : Int) (rows : List (List Int)) (j : Nat) : Nat := (reduceR p (rows.take j)).length - place (reduceR p (rows.take j)) (lead (remV p rows j))
noncomputable def detI (p : Int) (rows : List (List Int)) : Nat → Int
  | 0 => 1
  | j + 1 => if passed p rows j % 2 = 1 then neg p (detI p rows j * (remV p rows j).getD (lead (remV p rows j)) 0 % p) else detI p rows j * (remV p rows j).getD (lead (remV p rows j)) 0 % p
theorem detI_bd (hp : 1 < p) (rows : List (List Int)) (j : Nat) : 0 ≤ detI p rows j ∧ detI p rows j < p := by
  cases j with
  | zero => exact ⟨by simp [detI], by simpa [detI] using hp⟩
  | succ j => unfold detI; split <;> exact mod_bd _ (by omega)
theorem detI_to (hp : gp p = true) {rows : List (List Int)} (hn : rows.length = n) (h : ∀ i, i < rows.length → Vec p n (rows.getD i [])) (j : Nat) (hj : j ≤ n)
    (hz : ∀ i, i < j → lead (remV p rows i) < n) : (reduceR p (rows.take j)).length = j ∧ det n (matF rows) % p = (detI p rows j * det n (matF (reduceR p (rows.take j) ++ rows.drop j))) % p := by
  have hp2 := gp_le hp
  induction j with
  | zero => exact ⟨by simp [reduceR], by simp [reduceR, detI]⟩
  | succ j ih =>
    obtain ⟨i1, i2⟩ := ih (by omega) fun i hi => hz i (by omega)
    have hj' : j < rows.length := by omega
    have E := ech_reduce hp h j (by omega)
    have hv := h j hj'
    obtain ⟨c1, c2⟩ := E.clear (by omega) hv
    have hk := hz j (by omega)
    obtain ⟨u1, u2, u3⟩ := unify_facts hp c1 hk
    have st : reduceR p (rows.take (j + 1)) = insRow p (reduceR p (rows.take j)) (unify p (remV p rows j)) (lead (remV p rows j)) := by
      rw [reduce_take hj']
      unfold reduceStep
      have : ¬ lead (clearV p (reduceR p (rows.take j)) (rows.getD j [])) = (clearV p (reduceR p (rows.take j)) (rows.getD j [])).length := by
        rw [c1.len]; unfold remV at hk; omega
      rw [if_neg this]
      rfl
    have hdr : rows.drop j = rows.getD j [] :: rows.drop (j + 1) := by rw [List.drop_eq_getElem_cons hj', getD_lt _ _ hj']
    have hlen : (reduceR p (rows.take j)).length + 1 + (rows.drop (j + 1)).length = n := by simp; omega
    have hvl : ∀ i, i < (reduceR p (rows.take j)).length → ((reduceR p (rows.take j)).getD i []).length = n := fun i hi => (E.vec i hi).len
    have hpl : place (reduceR p (rows.take j)) (lead (remV p rows j)) ≤ ((reduceR p (rows.take j)).map (cut p (unify p (remV p rows j)) (lead (remV p rows j)))).length := by simpa using place_le _ _
    refine ⟨by rw [st]; unfold insRow; rw [putAt_length hpl]; simp; omega, ?_⟩
    -- the remainder, the unit, the others cut, the move
    have d1 := det_clear (p := p) (n := n) (reduceR p (rows.take j)) (rows.getD j []) (rows.drop (j + 1)) hlen fun i hi => by rw [hvl i hi, hv.len]
    have d2 := det_unit (p := p) (n := n) (reduceR p (rows.take j)) (remV p rows j) (unify p (remV p rows j)) (rows.drop (j + 1)) ((remV p rows j).getD (lead (remV p rows j)) 0) hlen fun c => by
      have a : (remV p rows j).getD (lead (remV p rows j)) 0 * bez ((remV p rows j).getD (lead (remV p rows j)) 0) p % p = 1 := by
        have h1 := lead_ne (v := remV p rows j) (by unfold remV at hk ⊢; rw [c1.len]; exact hk)
        have h2 := c1.lo (lead (remV p rows j))
        have h3 := c1.hi (lead (remV p rows j))
        obtain ⟨_, _, b⟩ := bez_inv h2 h3 (gp_gcd hp (by unfold remV at h1 h2 ⊢; omega) h3)
        rw [Int.emod_eq_of_lt (a := 1) (by omega) (by omega)] at b
        exact b
      unfold unify
      rw [scaleV_get]
      generalize (remV p rows j).getD (lead (remV p rows j)) 0 = x at *
      generalize bez x p = b at *
      generalize (remV p rows j).getD c 0 = y
      rw [Int.mul_emod, Int.emod_emod, ← Int.mul_emod, ← Int.mul_assoc, Int.mul_emod, a, Int.one_mul, Int.emod_emod]
    have d3 := det_cut (p := p) (n := n) (reduceR p (rows.take j)) (unify p (remV p rows j)) (lead (remV p rows j)) (rows.drop (j + 1)) hlen fun i hi => by rw [hvl i hi]; exact u1.len.symm
    have d4 := det_move (n := n) ((reduceR p (rows.take j)).map (cut p (unify p (remV p rows j)) (lead (remV p rows j)))) (unify p (remV p rows j)) (rows.drop (j + 1)) (by simpa using hlen) (passed p rows j) (place (reduceR p (rows.take j)) (lead (remV p rows j))) (by unfold passed; have := place_le (reduceR p (rows.take j)) (lead (remV p rows j)); simp; omega)
    have eqI : insRow p (reduceR p (rows.take j)) (unify p (remV p rows j)) (lead (remV p rows j)) ++ rows.drop (j + 1) = putAt ((reduceR p (rows.take j)).map (cut p (unify p (remV p rows j)) (lead (remV p rows j)))) (place (reduceR p (rows.take j)) (lead (remV p rows j))) (unify p (remV p rows j)) ++ rows.drop (j + 1) := rfl
    rw [st, eqI, d4, i2, hdr]
    change det n (matF (reduceR p (rows.take j) ++ remV p rows j :: rows.drop (j + 1))) % p = _ at d1
    rw [mod_mul d1.symm, mod_mul d2]
    have d5 := mod_mul (x := detI p rows j * (remV p rows j).getD (lead (remV p rows j)) 0) d3
    generalize det n (matF ((reduceR p (rows.take j)).map (cut p (unify p (remV p rows j)) (lead (remV p rows j))) ++ unify p (remV p rows j) :: rows.drop (j + 1))) = Y at *
    generalize det n (matF (reduceR p (rows.take j) ++ unify p (remV p rows j) :: rows.drop (j + 1))) = X at *
    rw [← Int.mul_assoc, ← d5]
    show _ = (if passed p rows j % 2 = 1 then neg p (detI p rows j * (remV p rows j).getD (lead (remV p rows j)) 0 % p) else detI p rows j * (remV p rows j).getD (lead (remV p rows j)) 0 % p) * _ % p
    generalize detI p rows j * (remV p rows j).getD (lead (remV p rows j)) 0 = z
    by_cases hs : passed p rows j % 2 = 1
    · rw [if_pos hs]
      have : sgn (passed p rows j) = -1 := by unfold sgn; rw [if_neg (by omega)]
      rw [this]
      unfold neg
      apply mod_eq
      rw [Int.emod_def (-(z % p)), Int.emod_def z]
      generalize z / p = q1
      generalize -(z - p * q1) / p = q2
      exact ⟨q1 * Y - q2 * Y, by grind⟩
    · rw [if_neg hs]
      have : sgn (passed p rows j) = 1 := by unfold sgn; rw [if_pos (by omega)]
      rw [this, Int.one_mul]
      conv => rhs; rw [Int.mul_emod, Int.emod_emod, ← Int.mul_emod]
theorem det_ident (n : Nat) (A : Nat → Nat → Int) (h : ∀ r, r < n → ∀ c, c < n → A r c = if r = c then 1 else 0) : det n A = 1 := by
  induction n generalizing A with
  | zero => rfl
  | succ n ih =>
    rw [det_first fun i hi hn => by rw [h i hn 0 (by omega), if_neg (by omega)], h 0 (by omega) 0 (by omega), if_pos rfl, ih _ fun r hr c hc => ?_]
    · rfl
    · rw [h _ (by omega) _ (by omega)]
      by_cases e : r = c
      · rw [if_pos e, if_pos (by omega)]
      · rw [if_neg e, if_neg (by omega)]
theorem Ech.ident {e : List (List Int)} (h : Ech p n e) (hl : e.length = n) : ∀ r, r < n → ∀ c, c < n → matF e r c = if r = c then 1 else 0 := by
  have hf := (h.full hl).2 (by
    rcases Nat.lt_or_ge (place e n) n with g | g
    · have := place_at (e := e) (k := n) (by omega); have := h.lt _ (by omega : place e n < e.length); omega
    · omega)
  intro r hr c hc
  unfold matF
  have a := hf r (by omega)
  have b := hf c (by omega)
  by_cases e1 : r = c
  · subst e1
    rw [if_pos rfl]
    have := h.one r (by omega)
    rwa [a] at this
  · rw [if_neg e1]
    have := h.zero c r (by omega) (by omega) (Ne.symm e1)
    rwa [b] at this
theorem detI_all (hp : gp p = true) {rows : List (List Int)} (hn : rows.length = n) (h : ∀ i, i < rows.length → Vec p n (rows.getD i [])) (hz : ∀ i, i < n → lead (remV p rows i) < n) :
    detI p rows n = det n (matF rows) % p := by
  have hp2 := gp_le hp
  obtain ⟨h1, h2⟩ := detI_to hp hn h n (Nat.le_refl _) hz
  have E := ech_reduce hp h n (by omega)
  have hd : rows.drop n = [] := List.drop_of_length_le (by omega)
  rw [h2, hd, List.append_nil, det_ident n _ (E.ident h1), Int.mul_one, Int.emod_eq_of_lt (detI_bd (by omega) _ _).1 (detI_bd (by omega) _ _).2]
theorem detI_zero (hp : gp p = true) {rows : List (List Int)} (hn : rows.length = n) (h : ∀ i, i < rows.length → Vec p n (rows.getD i [])) {j : Nat} (hj : j < n) (hz : ∀ i, i < j → lead (remV p rows i) < n) (h0 : ¬ lead (remV p rows j) < n) :
    det n (matF rows) % p = 0 := by
  have hp2 := gp_le hp
  obtain ⟨h1, h2⟩ := detI_to hp hn h j (by omega) hz
  have hj' : j < rows.length := by omega
  have E := ech_reduce hp h j (by omega)
  have hv := h j hj'
  have c1 := (E.clear (by omega) hv).1
  have hdr : rows.drop j = rows.getD j [] :: rows.drop (j + 1) := by rw [List.drop_eq_getElem_cons hj', getD_lt _ _ hj']
  have d1 := det_clear (p := p) (n := n) (reduceR p (rows.take j)) (rows.getD j []) (rows.drop (j + 1)) (by simp; omega) fun i hi => by rw [(E.vec i hi).len, hv.len]
  have z : det n (matF (reduceR p (rows.take j) ++ clearV p (reduceR p (rows.take j)) (rows.getD j []) :: rows.drop (j + 1))) = 0 := det_zero_row (i := j) hj fun c => by
    unfold matF
    rw [mid_get, if_neg (by omega), if_pos h1.symm]
    by_cases hc : c < n
    · exact lead_zero (by unfold remV at h0; omega)
    · exact getD_ge _ _ (by rw [c1.len]; omega)
  rw [z] at d1
  rw [h2, hdr, mod_mul d1.symm]
  simp
end rem
end Go.Proofs.Ytggkoihlmijacaa.Num
