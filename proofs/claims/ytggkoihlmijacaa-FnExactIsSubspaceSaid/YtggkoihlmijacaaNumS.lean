/- A determinant modulo a prime by elimination. -/
import Derived.Test.YtggkoihlmijacaaNumE
namespace Go.Proofs.Ytggkoihlmijacaa.Num
set_option linter.unusedVariables false
set_option linter.unusedSimpArgs false

def findRow (L : List (List Int)) (c : Nat) : Nat := (List.range L.length).findIdx fun i => decide (c ≤ i) && (L.getD i []).getD c 0 != 0
theorem findRow_le (L : List (List Int)) (c : Nat) : findRow L c ≤ L.length := by
  have := List.findIdx_le_length (xs := List.range L.length) (p := fun i => decide (c ≤ i) && (L.getD i []).getD c 0 != 0)
  simpa [findRow] using this
theorem findRow_zero {L : List (List Int)} {c i : Nat} (hi : i < findRow L c) (hc : c ≤ i) : (L.getD i []).getD c 0 = 0 := by
  have h1 := findRow_le L c
  have := List.not_of_lt_findIdx hi
  simp [hc] at this
  simpa using this
theorem findRow_ne {L : List (List Int)} {c : Nat} (h : findRow L c < L.length) : c ≤ findRow L c ∧ (L.getD (findRow L c) []).getD c 0 ≠ 0 := by
  have := List.findIdx_getElem (xs := List.range L.length) (p := fun i => decide (c ≤ i) && (L.getD i []).getD c 0 != 0) (w := by simpa [findRow] using h)
  simp only [List.getElem_range, Bool.and_eq_true, decide_eq_true_eq] at this
  refine ⟨this.1, ?_⟩
  have h2 := this.2
  intro e
  rw [show List.findIdx (fun i => decide (c ≤ i) && (L.getD i []).getD c 0 != 0) (List.range L.length) = findRow L c from rfl, e] at h2
  simp at h2
theorem findRow_eq {L : List (List Int)} {c r : Nat} (h0 : c ≤ r) (h1 : r ≤ L.length) (h2 : ∀ i, c ≤ i → i < r → (L.getD i []).getD c 0 = 0) (h3 : r < L.length → (L.getD r []).getD c 0 ≠ 0) : findRow L c = r := by
  rcases Nat.lt_trichotomy (findRow L c) r with h | h | h
  · obtain ⟨a, b⟩ := findRow_ne (L := L) (c := c) (by omega); exact absurd (h2 _ a h) b
  · exact h
  · exact absurd (findRow_zero h h0) (h3 (by have := findRow_le L c; omega))
def swapL (L : List (List Int)) (r c : Nat) : List (List Int) := (L.set r (L.getD c [])).set c (L.getD r [])
theorem swapL_length (L : List (List Int)) (r c : Nat) : (swapL L r c).length = L.length := by simp [swapL]
theorem set_get {α : Type} (L : List α) (d v : α) (i j : Nat) (hi : i < L.length) : (L.set i v).getD j d = if j = i then v else L.getD j d := by
  by_cases h : j = i
  · subst h; rw [if_pos rfl, List.getD_eq_getElem?_getD, List.getElem?_set_self hi]; rfl
  · rw [if_neg h, List.getD_eq_getElem?_getD, List.getElem?_set_ne (Ne.symm h), ← List.getD_eq_getElem?_getD]
theorem swapL_get {L : List (List Int)} {r c : Nat} (hr : r < L.length) (hc : c < L.length) (j : Nat) : (swapL L r c).getD j [] = if j = c then L.getD r [] else if j = r then L.getD c [] else L.getD j [] := by
  unfold swapL
  rw [set_get _ _ _ _ _ (by simpa using hc), set_get _ _ _ _ _ hr]
noncomputable def elimF (p : Int) (L : List (List Int)) (c k : Nat) : List Int := addV p (p - (L.getD k []).getD c 0 * bez ((L.getD c []).getD c 0) p % p) (L.getD k []) (L.getD c [])
def uptoL (f : Nat → List Int) (L : List (List Int)) (a j : Nat) : List (List Int) := (List.range L.length).map fun i => if a ≤ i ∧ i < j then f i else L.getD i []
theorem uptoL_length (f : Nat → List Int) (L : List (List Int)) (a j : Nat) : (uptoL f L a j).length = L.length := by simp [uptoL]
theorem uptoL_get (f : Nat → List Int) (L : List (List Int)) (a j : Nat) {i : Nat} (hi : i < L.length) : (uptoL f L a j).getD i [] = if a ≤ i ∧ i < j then f i else L.getD i [] := by
  rw [getD_lt _ _ (by rw [uptoL_length]; exact hi)]; simp [uptoL]
theorem uptoL_start (f : Nat → List Int) (L : List (List Int)) (a : Nat) : uptoL f L a a = L :=
  ext_getD [] (uptoL_length _ _ _ _) fun i hi => by rw [uptoL_get _ _ _ _ (by rwa [uptoL_length] at hi), if_neg (by omega)]
theorem uptoL_step (f : Nat → List Int) (L : List (List Int)) {a j : Nat} (ha : a ≤ j) (hj : j < L.length) : (uptoL f L a j).set j (f j) = uptoL f L a (j + 1) :=
  ext_getD [] (by simp [uptoL_length]) fun i hi => by
    have hi' : i < L.length := by simpa [uptoL_length] using hi
    rw [set_get _ _ _ _ _ (by rw [uptoL_length]; exact hj), uptoL_get _ _ _ _ hi', uptoL_get _ _ _ _ hi']
    by_cases e : i = j
    · subst e; rw [if_pos rfl, if_pos (by omega)]
    · rw [if_neg e]
      by_cases g : a ≤ i ∧ i < j
      · rw [if_pos g, if_pos (by omega)]
      · rw [if_neg g, if_neg (by omega)]
noncomputable def elimAll (p : Int) (L : List (List Int)) (c : Nat) : List (List Int) := uptoL (elimF p L c) L (c + 1) L.length
def pivotL (L : List (List Int)) (c : Nat) : List (List Int) := if findRow L c = c then L else swapL L (findRow L c) c
noncomputable def gW (p : Int) (rows : List (List Int)) : Nat → List (List Int)
  | 0 => rows
  | c + 1 => elimAll p (pivotL (gW p rows c) c) c
noncomputable def gS (p : Int) (rows : List (List Int)) (gOc : Int) (c : Nat) : Int := if findRow (gW p rows c) c = c then gOc else neg p gOc
noncomputable def gO (p : Int) (rows : List (List Int)) : Nat → Int
  | 0 => 1
  | c + 1 => gS p rows (gO p rows c) c * ((pivotL (gW p rows c) c).getD c []).getD c 0 % p
def dprod (A : Nat → Nat → Int) : Nat → Int
  | 0 => 1
  | c + 1 => dprod A c * A c c
theorem dprod_congr {A B : Nat → Nat → Int} {c : Nat} (h : ∀ i, i < c → A i i = B i i) : dprod A c = dprod B c := by
  induction c with
  | zero => rfl
  | succ c ih => show dprod A c * A c c = dprod B c * B c c; rw [ih fun i hi => h i (by omega), h c (by omega)]
theorem dprod_shift (A : Nat → Nat → Int) (c : Nat) : dprod A (c + 1) = A 0 0 * dprod (fun r k => A (r + 1) (k + 1)) c := by
  induction c with
  | zero => simp [dprod]
  | succ c ih => show dprod A (c + 1) * A (c + 1) (c + 1) = A 0 0 * (dprod (fun r k => A (r + 1) (k + 1)) c * A (c + 1) (c + 1)); rw [ih, Int.mul_assoc]
theorem det_upper (c : Nat) : ∀ {n : Nat} {A : Nat → Nat → Int}, c ≤ n → (∀ r, r < n → ∀ j, j < c → j < r → A r j = 0) → det n A = dprod A c * det (n - c) fun r k => A (r + c) (k + c) := by
  induction c with
  | zero => intro n A _ _; simp [dprod]
  | succ c ih =>
    intro n A hc h
    obtain ⟨m, rfl⟩ : ∃ m, n = m + 1 := ⟨n - 1, by omega⟩
    rw [det_first fun i h1 h2 => h i h2 0 (by omega) (by omega), ih (by omega) fun r hr j hj hjr => h _ (by omega) _ (by omega) (by omega), dprod_shift, Int.mul_assoc]
    have e1 : m + 1 - (c + 1) = m - c := by omega
    have e2 : (fun r k => A (r + c + 1) (k + c + 1)) = fun r k => A (r + (c + 1)) (k + (c + 1)) := rfl
    rw [e1, ← e2]
section gauss
variable {p : Int} {n : Nat} {rows : List (List Int)}
structure GInv (p : Int) (n : Nat) (rows : List (List Int)) (c : Nat) : Prop where
  len : (gW p rows c).length = n
  vec : ∀ i, i < n → Vec p n ((gW p rows c).getD i [])
  up : ∀ r, r < n → ∀ j, j < c → j < r → ((gW p rows c).getD r []).getD j 0 = 0
  lo : 0 ≤ gO p rows c
  hi : gO p rows c < p
  det : ∃ s : Int, det n (matF rows) % p = (s * det n (matF (gW p rows c))) % p ∧ gO p rows c % p = (s * dprod (matF (gW p rows c)) c) % p
theorem pivot_facts {c : Nat} (h : GInv p n rows c) (hc : c < n) (hf : findRow (gW p rows c) c < n) :
    (pivotL (gW p rows c) c).length = n ∧ (∀ i, i < n → Vec p n ((pivotL (gW p rows c) c).getD i [])) ∧ (∀ r, r < n → ∀ j, j < c → j < r → ((pivotL (gW p rows c) c).getD r []).getD j 0 = 0) ∧ ((pivotL (gW p rows c) c).getD c []).getD c 0 ≠ 0 ∧
      ∃ s : Int, Num.det n (matF rows) % p = (s * Num.det n (matF (pivotL (gW p rows c) c))) % p ∧ gS p rows (gO p rows c) c % p = (s * dprod (matF (pivotL (gW p rows c) c)) c) % p := by
  obtain ⟨s, d1, d2⟩ := h.det
  obtain ⟨f1, f2⟩ := findRow_ne (L := gW p rows c) (c := c) (by rw [h.len]; exact hf)
  unfold pivotL gS
  by_cases e : findRow (gW p rows c) c = c
  · rw [if_pos e, if_pos e]
    rw [e] at f2
    exact ⟨h.len, h.vec, h.up, f2, s, d1, d2⟩
  · rw [if_neg e, if_neg e]
    generalize hr : findRow (gW p rows c) c = r at *
    have hL := h.len
    have g := fun j => swapL_get (L := gW p rows c) (r := r) (c := c) (by omega) (by omega) j
    refine ⟨by rw [swapL_length, hL], fun i hi => ?_, fun a ha j hj hja => ?_, ?_, -s, ?_, ?_⟩
    · rw [g]
      split
      · exact h.vec r hf
      · split
        · exact h.vec c hc
        · exact h.vec i hi
    · rw [g]
      split
      · exact h.up r hf j hj (by omega)
      · split
        · exact h.up c hc j hj hj
        · exact h.up a ha j hj hja
    · rw [g, if_pos rfl]; exact f2
    · have e1 : matF (swapL (gW p rows c) r c) = swapR (matF (gW p rows c)) r c := by
        funext a b
        unfold swapR setRow matF
        rw [g]
        by_cases q : a = c
        · rw [if_pos q, if_pos q]
        · rw [if_neg q, if_neg q]
          by_cases q2 : a = r
          · rw [if_pos q2, if_pos q2]
          · rw [if_neg q2, if_neg q2]
      rw [e1, det_swap _ (by omega) (by omega) e, d1]
      congr 1
      grind
    · have e2 : dprod (matF (swapL (gW p rows c) r c)) c = dprod (matF (gW p rows c)) c := dprod_congr fun i hi => by
        unfold matF; rw [g, if_neg (by omega), if_neg (by omega)]
      rw [e2]
      unfold neg
      apply mod_eq
      obtain ⟨q, hq⟩ : p ∣ gO p rows c - s * dprod (matF (gW p rows c)) c := Int.dvd_of_emod_eq_zero (Int.emod_eq_emod_iff_emod_sub_eq_zero.1 d2)
      rw [Int.emod_def]
      generalize -gO p rows c / p = q2
      exact ⟨-q - q2, by grind⟩
theorem elim_det {L : List (List Int)} {c : Nat} (hL : L.length = n) (hv : ∀ i, i < n → Vec p n (L.getD i [])) (hc : c < n) : Num.det n (matF (elimAll p L c)) % p = Num.det n (matF L) % p := by
  suffices H : ∀ d, c + 1 + d ≤ n → Num.det n (matF (uptoL (elimF p L c) L (c + 1) (c + 1 + d))) % p = Num.det n (matF L) % p by
    have := H (n - (c + 1)) (by omega)
    have e : c + 1 + (n - (c + 1)) = L.length := by omega
    rw [e] at this
    exact this
  intro d
  induction d with
  | zero => intro _; rw [Nat.add_zero, uptoL_start]
  | succ d ih =>
    intro hd
    rw [← ih (by omega)]
    generalize hj : c + 1 + d = j at *
    have e0 : c + 1 + (d + 1) = j + 1 := by omega
    rw [e0]
    have hjl : j < L.length := by omega
    have e1 : matF (uptoL (elimF p L c) L (c + 1) (j + 1)) = setRow (matF (uptoL (elimF p L c) L (c + 1) j)) j (rowF (elimF p L c j)) := by
      rw [← uptoL_step _ _ (by omega) hjl]
      funext a b
      unfold setRow matF rowF
      rw [set_get _ _ _ _ _ (by rw [uptoL_length]; exact hjl)]
      split <;> rfl
    rw [e1]
    refine det_add_mod _ (j := c) _ (p - (L.getD j []).getD c 0 * bez ((L.getD c []).getD c 0) p % p) (by omega) hc (by omega) fun k _ => ?_
    unfold rowF elimF
    rw [addV_get (by rw [(hv j (by omega)).len, (hv c hc).len])]
    unfold matF
    rw [uptoL_get _ _ _ _ hjl, uptoL_get _ _ _ _ (by omega), if_neg (by omega), if_neg (by omega), Int.emod_emod]
theorem GInv.step {c : Nat} (hp : gp p = true) (h : GInv p n rows c) (hc : c < n) (hf : findRow (gW p rows c) c < n) : GInv p n rows (c + 1) := by
  have hp2 := gp_le hp
  obtain ⟨p1, p2, p3, p4, s, d1, d2⟩ := pivot_facts h hc hf
  have ow : gW p rows (c + 1) = elimAll p (pivotL (gW p rows c) c) c := rfl
  have oo : gO p rows (c + 1) = gS p rows (gO p rows c) c * ((pivotL (gW p rows c) c).getD c []).getD c 0 % p := rfl
  generalize pivotL (gW p rows c) c = L at *
  have gt : ∀ i, i < n → (elimAll p L c).getD i [] = if c + 1 ≤ i then elimF p L c i else L.getD i [] := fun i hi => by
    unfold elimAll
    rw [uptoL_get _ _ _ _ (by omega)]
    by_cases e : c + 1 ≤ i
    · rw [if_pos (by omega), if_pos e]
    · rw [if_neg (by omega), if_neg e]
  have el : ∀ i, i < n → ∀ j, (elimF p L c i).getD j 0 = ((L.getD i []).getD j 0 + (p - (L.getD i []).getD c 0 * bez ((L.getD c []).getD c 0) p % p) * (L.getD c []).getD j 0) % p := fun i hi j => by
    unfold elimF
    rw [addV_get (by rw [(p2 i hi).len, (p2 c hc).len])]
  refine ⟨by rw [ow]; unfold elimAll; rw [uptoL_length, p1], fun i hi => ?_, fun r hr j hj hjr => ?_, ?_, ?_, s, ?_, ?_⟩
  · rw [ow, gt i hi]
    split
    · exact Vec.add (by omega) (p2 i hi).len
    · exact p2 i hi
  · rw [ow, gt r hr]
    by_cases e : c + 1 ≤ r
    · rw [if_pos e, el r hr]
      by_cases e2 : j = c
      · subst e2
        have h2 := (p2 j hc).lo j
        have h3 := (p2 j hc).hi j
        obtain ⟨_, _, b⟩ := bez_inv h2 h3 (gp_gcd hp (by omega) h3)
        rw [Int.emod_eq_of_lt (a := 1) (by omega) (by omega)] at b
        generalize (L.getD j []).getD j 0 = y at *
        generalize bez y p = z at *
        generalize (L.getD r []).getD j 0 = x
        have hb : y * z = 1 + p * (y * z / p) := by have := Int.emod_add_mul_ediv (y * z) p; omega
        generalize y * z / p = q at *
        apply Int.emod_eq_zero_of_dvd
        rw [Int.emod_def]
        generalize x * z / p = q2
        exact ⟨y - x * q + q2 * y, by grind⟩
      · rw [p3 r hr j (by omega) hjr, p3 c hc j (by omega) (by omega)]
        simp
    · rw [if_neg e]
      exact p3 r hr j (by omega) hjr
  · rw [oo]; exact (mod_bd _ (by omega)).1
  · rw [oo]; exact (mod_bd _ (by omega)).2
  · rw [ow, d1]
    exact mod_mul (elim_det p1 p2 hc).symm
  · rw [ow, oo, Int.emod_emod]
    have e1 : dprod (matF (elimAll p L c)) (c + 1) = dprod (matF L) c * (L.getD c []).getD c 0 := by
      show dprod (matF (elimAll p L c)) c * matF (elimAll p L c) c c = _
      rw [dprod_congr (B := matF L) fun i hi => by unfold matF; rw [gt i (by omega), if_neg (by omega)]]
      unfold matF
      rw [gt c hc, if_neg (by omega)]
    rw [e1, ← Int.mul_assoc]
    exact mod_mul' d2
theorem ginv (hp : gp p = true) (hn : rows.length = n) (h : ∀ i, i < rows.length → Vec p n (rows.getD i [])) (c : Nat) (hc : c ≤ n) (hf : ∀ i, i < c → findRow (gW p rows i) i < n) : GInv p n rows c := by
  have hp2 := gp_le hp
  induction c with
  | zero => exact ⟨hn, fun i hi => h i (by omega), fun r _ j hj => by omega, by simp [gO], by show (1 : Int) < p; omega, 1, by simp [gW], by simp [gO, dprod]⟩
  | succ c ih => exact (ih (by omega) fun i hi => hf i (by omega)).step hp (by omega) (hf c (by omega))
theorem gauss_all (hp : gp p = true) (hn : rows.length = n) (h : ∀ i, i < rows.length → Vec p n (rows.getD i [])) (hf : ∀ i, i < n → findRow (gW p rows i) i < n) : gO p rows n = Num.det n (matF rows) % p := by
  have G := ginv hp hn h n (Nat.le_refl _) hf
  obtain ⟨s, d1, d2⟩ := G.det
  have hd := det_upper n (n := n) (A := matF (gW p rows n)) (Nat.le_refl _) G.up
  rw [d1, hd, Nat.sub_self]
  show _ = (s * (dprod (matF (gW p rows n)) n * 1)) % p
  rw [Int.mul_one, ← d2, Int.emod_eq_of_lt G.lo G.hi]
theorem gauss_zero (hp : gp p = true) (hn : rows.length = n) (h : ∀ i, i < rows.length → Vec p n (rows.getD i [])) {c : Nat} (hc : c < n) (hf : ∀ i, i < c → findRow (gW p rows i) i < n) (h0 : findRow (gW p rows c) c = n) : Num.det n (matF rows) % p = 0 := by
  have G := ginv hp hn h c (by omega) hf
  obtain ⟨s, d1, d2⟩ := G.det
  have hd := det_upper c (n := n) (A := matF (gW p rows c)) (by omega) G.up
  obtain ⟨m, hm⟩ : ∃ m, n - c = m + 1 := ⟨n - c - 1, by omega⟩
  rw [d1, hd, hm, det_first_zero fun i hi => ?_]
  · simp
  · unfold matF
    rw [Nat.zero_add]
    exact findRow_zero (by omega) (by omega)
end gauss
end Go.Proofs.Ytggkoihlmijacaa.Num
