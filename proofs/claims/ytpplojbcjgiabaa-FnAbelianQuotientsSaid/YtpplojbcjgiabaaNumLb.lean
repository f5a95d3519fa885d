/- Plain arithmetic without Go: insertion in place, the powers that trial division appends. -/
import Derived.Test.YtpplojbcjgiabaaNumL
namespace Go.Proofs.Ytpplojbcjgiabaa.Num

theorem leP_trans {a b c : Int} (h1 : leP a b) (h2 : leP b c) : leP a c := by
  unfold leP befP at *
  omega
theorem leP_of_bef {a b : Int} (h : befP a b) : leP a b := by
  unfold leP befP at *
  omega
/-- Two elements change places. -/
def swapI (zs : List Int) (j : Nat) : List Int := (zs.set j (zs.getD (j - 1) 0)).set (j - 1) (zs.getD j 0)
theorem swapI_len (zs : List Int) (j : Nat) : (swapI zs j).length = zs.length := by simp [swapI]
theorem swapI_get {zs : List Int} {j : Nat} (h0 : 0 < j) (hj : j < zs.length) (a : Nat) :
    (swapI zs j).getD a 0 = if a = j then zs.getD (j - 1) 0 else if a = j - 1 then zs.getD j 0 else zs.getD a 0 := by
  unfold swapI
  simp only [List.getD_eq_getElem?_getD, List.getElem?_set, List.length_set]
  by_cases h1 : a = j
  · subst h1
    rw [if_neg (by omega), if_pos rfl, if_pos hj, if_pos rfl]
    rfl
  · rw [if_neg h1]
    by_cases h2 : a = j - 1
    · subst h2
      rw [if_pos rfl, if_pos (by omega), if_pos rfl]
      rfl
    · rw [if_neg (by omega), if_neg (by omega), if_neg h2]
theorem swapI_perm {zs : List Int} {j : Nat} (h0 : 0 < j) (hj : j < zs.length) : (swapI zs j).Perm zs := by
  rw [List.perm_iff_count]
  intro a
  unfold swapI
  have e1 : zs.getD j 0 = zs[j] := by simp [hj]
  have e2 : zs.getD (j - 1) 0 = zs[j - 1] := by rw [List.getD_eq_getElem?_getD, List.getElem?_eq_getElem (by omega)]; rfl
  rw [e1, e2]
  have l1 : j - 1 < (zs.set j zs[j - 1]).length := by simp; omega
  rw [List.count_set l1, List.count_set hj]
  have e3 : (zs.set j zs[j - 1])[j - 1] = zs[j - 1] := by rw [List.getElem_set_ne (by omega)]
  rw [e3]
  have hc : (if (zs[j] == a) = true then 1 else 0) ≤ zs.count a := by
    by_cases h : (zs[j] == a) = true
    · rw [if_pos h]
      have : 0 < zs.count a := List.count_pos_iff.mpr (by rw [← eq_of_beq h]; exact List.getElem_mem hj)
      omega
    · rw [if_neg h]; omega
  generalize (if (zs[j] == a) = true then 1 else 0) = u at *
  generalize (if (zs[j - 1] == a) = true then 1 else 0) = v at *
  omega
/-- The first elements are in order. -/
def Ord (zs : List Int) (i : Nat) : Prop := ∀ a b, a < b → b < i → leP (zs.getD a 0) (zs.getD b 0)
/-- .. but for the one at j, which is not behind those that follow it. -/
def OrdBut (zs : List Int) (i j : Nat) : Prop := (∀ a b, a < b → b ≤ i → a ≠ j → b ≠ j → leP (zs.getD a 0) (zs.getD b 0)) ∧ ∀ b, j < b → b ≤ i → leP (zs.getD j 0) (zs.getD b 0)
theorem ord_one (zs : List Int) : Ord zs 1 := fun a b h1 h2 => by omega
theorem ordBut_start {zs : List Int} {i : Nat} (h : Ord zs i) : OrdBut zs i i := ⟨fun a b h1 h2 h3 h4 => h a b h1 (by omega), fun b h1 h2 => by omega⟩
theorem ordBut_zero {zs : List Int} {i : Nat} (h : OrdBut zs i 0) : Ord zs (i + 1) := fun a b h1 h2 => by
  by_cases ha : a = 0
  · rw [ha] at h1 ⊢; exact h.2 b h1 (by omega)
  · exact h.1 a b h1 (by omega) ha (by omega)
theorem ordBut_stop {zs : List Int} {i j : Nat} (h : OrdBut zs i j) (h0 : 0 < j) (hs : ¬ befP (zs.getD j 0) (zs.getD (j - 1) 0)) : Ord zs (i + 1) := fun a b h1 h2 => by
  by_cases ha : a = j
  · rw [ha] at h1 ⊢; exact h.2 b h1 (by omega)
  · by_cases hb : b = j
    · subst hb
      by_cases hp : a = b - 1
      · rw [hp]; exact hs
      · exact leP_trans (h.1 a (b - 1) (by omega) (by omega) ha (by omega)) hs
    · exact h.1 a b h1 (by omega) ha hb
theorem ordBut_swap {zs : List Int} {i j : Nat} (h : OrdBut zs i j) (h0 : 0 < j) (hj : j < zs.length) (hs : befP (zs.getD j 0) (zs.getD (j - 1) 0)) : OrdBut (swapI zs j) i (j - 1) := by
  constructor
  · intro a b h1 h2 h3 h4
    rw [swapI_get h0 hj, swapI_get h0 hj]
    by_cases ha : a = j
    · rw [if_pos ha, if_neg (by omega), if_neg h4]
      exact h.1 (j - 1) b (by omega) h2 (by omega) (by omega)
    · rw [if_neg ha, if_neg h3]
      by_cases hb : b = j
      · rw [if_pos hb]
        exact h.1 a (j - 1) (by omega) (by omega) ha (by omega)
      · rw [if_neg hb, if_neg h4]
        exact h.1 a b h1 h2 ha hb
  · intro b h1 h2
    rw [swapI_get h0 hj, swapI_get h0 hj, if_neg (by omega), if_pos rfl]
    by_cases hb : b = j
    · rw [if_pos hb]; exact leP_of_bef hs
    · rw [if_neg hb, if_neg (by omega)]
      exact h.2 b (by omega) h2
theorem ord_pairwise {zs : List Int} (h : Ord zs zs.length) : zs.Pairwise leP := by
  rw [List.pairwise_iff_getElem]
  intro a b ha hb hab
  have := h a b hab hb
  simpa [ha, hb] using this
theorem ord_short {zs : List Int} {i : Nat} (h : Ord zs i) (hi : zs.length ≤ i) : zs.Pairwise leP := ord_pairwise fun a b h1 h2 => h a b h1 (by omega)

/-- What has been appended of a factor, and what is still to be found. -/
def PwInv (f d c : Int) (qs : List Int) : Prop := 2 ≤ d ∧ d ≤ 1000001 ∧ 1 ≤ c ∧ c ≤ f ∧ qs ++ (facL d c).map (fun x => x.1 ^ x.2.toNat) = ppart f
theorem pwInv_start {f : Int} (hf : 1 ≤ f) : PwInv f 2 f [] := ⟨by omega, by omega, hf, Int.le_refl _, rfl⟩
theorem pwInv_div {f d c : Int} {qs : List Int} (hf : f ≤ 1000000) (h : PwInv f d c qs) (hd : d * d ≤ c) (hm : c % d = 0) : PwInv f (d + 1) (vr d c) (qs ++ [pp d c]) := by
  obtain ⟨h1, h2, h3, h4, h5⟩ := h
  have hb := sq_big h1 hd
  have hv := vr_bd (p := d) h1 h3
  refine ⟨by omega, by omega, hv.1, by omega, ?_⟩
  rw [← h5, facL_div h1 hd hm]
  simp [pp]
theorem pwInv_skip {f d c : Int} {qs : List Int} (hf : f ≤ 1000000) (h : PwInv f d c qs) (hd : d * d ≤ c) (hm : c % d ≠ 0) : PwInv f (d + 1) c qs := by
  obtain ⟨h1, h2, h3, h4, h5⟩ := h
  have hb := sq_big h1 hd
  refine ⟨by omega, by omega, h3, h4, ?_⟩
  rw [← h5, facL_skip h1 hd hm]
theorem pwInv_last {f d c : Int} {qs : List Int} (hf : f ≤ 1000000) (h : PwInv f d c qs) (hd : c < d * d) (hc : 1 < c) : PwInv f (c + 1) 1 (qs ++ [c]) := by
  obtain ⟨h1, h2, h3, h4, h5⟩ := h
  refine ⟨by omega, by omega, by omega, by omega, ?_⟩
  rw [← h5, facL_last hd hc, facL_one (d := c + 1) (by omega)]
  have e : c ^ (1 : Int).toNat = c := by show c ^ 1 = c; rw [Int.pow_succ, Int.pow_zero, Int.one_mul]
  simp only [List.map_cons, List.map_nil, e, List.append_nil]
theorem pwInv_end {f d : Int} {qs : List Int} (h : PwInv f d 1 qs) : qs = ppart f := by
  rw [← h.2.2.2.2, facL_one h.1]
  simp
theorem pp_self {c : Int} (hc : 1 < c) : pp c c = c ∧ vr c c = 1 := by
  have := v_self hc
  refine ⟨?_, this.2⟩
  unfold pp
  rw [this.1]
  exact Int.pow_succ c 0 |>.trans (by rw [Int.pow_zero, Int.one_mul])
/-- The rest, by the part. -/
theorem part_rest {p n c o : Int} (hp : 2 ≤ p) (hn : 1 ≤ n) (h : PartInv p n c o) (ho : o = pp p n) : c = vr p n := by
  have h1 : o * c = n := h.2.2.1
  have h2 := pp_mul hp hn
  rw [ho] at h1
  have hp1 := (pp_bd hp hn).1
  have e : pp p n * c = pp p n * vr p n := by rw [h1]; exact h2
  exact Int.eq_of_mul_eq_mul_left (by omega) e
theorem ppart_bd {f : Int} (hf : 1 ≤ f) : (∀ x ∈ ppart f, 1 ≤ x ∧ x ≤ f) ∧ (ppart f).length ≤ f.toNat := by
  refine ⟨fun x hx => ?_, by unfold ppart; rw [List.length_map]; exact facL_len hf⟩
  obtain ⟨y, hy, rfl⟩ := List.mem_map.mp hx
  rw [facL_pp _ 2 f (Nat.le_refl _) (by omega) hf (noDiv_start f) y hy]
  exact pp_bd ((fac_ok hf).pr y hy).1.1 hf
theorem pw_len : ∀ {l : List (Int × Int)}, (∀ x ∈ l, Pr x.1 ∧ 1 ≤ x.2) → ((2 ^ l.length : Nat) : Int) ≤ prodL l
  | [], _ => by simp [prodL]
  | x :: t, h => by
    have h1 := h x (by simp)
    have ih := pw_len (l := t) fun y hy => h y (by simp [hy])
    have hp := h1.1.1
    rw [prodL_cons, List.length_cons, Nat.pow_succ, Int.natCast_mul]
    have h2 : 2 ≤ x.1 ^ x.2.toNat := by
      have e : x.2.toNat = (x.2.toNat - 1) + 1 := by omega
      rw [e, Int.pow_succ]
      have h3 : 0 < x.1 ^ (x.2.toNat - 1) := Int.pow_pos (by omega)
      have := Int.mul_le_mul (show 1 ≤ x.1 ^ (x.2.toNat - 1) by omega) hp (by omega) (by omega)
      omega
    have := Int.mul_le_mul ih h2 (by omega) (by have := prodL_pos t fun y hy => h y (by simp [hy]); omega)
    rw [Int.mul_comm (x.1 ^ x.2.toNat)]
    exact this
theorem ppart_len {f : Int} (h1 : 1 ≤ f) (h2 : f ≤ 1000000) : (ppart f).length ≤ 19 := by
  have h := pw_len (fac_ok h1).pr
  rw [(fac_ok h1).mul] at h
  unfold ppart
  rw [List.length_map]
  by_cases hl : (facL 2 f).length ≤ 19
  · exact hl
  · have : 2 ^ 20 ≤ 2 ^ (facL 2 f).length := Nat.pow_le_pow_right (by decide) (by omega)
    have e : (2 : Nat) ^ 20 = 1048576 := by decide
    omega
theorem flat_bd {F : List Int} (hF : ∀ f ∈ F, 1 ≤ f ∧ f ≤ 1000000) : (∀ x ∈ F.flatMap ppart, 1 ≤ x ∧ x ≤ 1000000) ∧ (F.flatMap ppart).length ≤ F.length * 19 := by
  constructor
  · intro x hx
    obtain ⟨f, hf, hx⟩ := List.mem_flatMap.mp hx
    have h1 := hF f hf
    have := (ppart_bd h1.1).1 x hx
    omega
  · induction F with
    | nil => simp
    | cons f t ih =>
      have h1 := hF f (by simp)
      have h2 := ppart_len h1.1 h1.2
      have h3 := ih fun x hx => hF x (by simp [hx])
      simp only [List.flatMap_cons, List.length_append, List.length_cons, Nat.succ_mul]
      omega
/-- The factors of an abelian group divide the last one, and each the later ones. -/
theorem chain_dvd {F : List Int} (h : chainB F = true) : ∀ a b, a ≤ b → b < F.length → F.getD a 0 ∣ F.getD b 0 := by
  intro a b hab
  induction b with
  | zero => intro hb; rw [show a = 0 by omega]; exact Int.dvd_refl _
  | succ b ih =>
    intro hb
    by_cases e : a = b + 1
    · rw [e]; exact Int.dvd_refl _
    · have h1 := ih (by omega) (by omega)
      have h2 := (chainB_out h (b + 1) hb).2
      rw [prevD_succ] at h2
      exact Int.dvd_trans h1 (Int.dvd_of_emod_eq_zero h2)
theorem chain_pairwise {F : List Int} (h : chainB F = true) : F.Pairwise (· ∣ ·) := by
  rw [List.pairwise_iff_getElem]
  intro a b ha hb hab
  have := chain_dvd h a b (by omega) hb
  simpa [ha, hb] using this
/-- The state of the program's two loops. -/
def partsAt (P F : List Int) (j i : Nat) : List Int := (P.take j).flatMap (partOf F) ++ partOf (F.take i) (P.getD j 0)
theorem partsAt_start (P F : List Int) : partsAt P F 0 0 = [] := by simp [partsAt, partOf]
theorem partsAt_in {P F : List Int} {j i : Nat} (hi : i < F.length) : partsAt P F j (i + 1) = if F.getD i 0 % P.getD j 0 = 0 then partsAt P F j i ++ [pp (P.getD j 0) (F.getD i 0)] else partsAt P F j i := by
  unfold partsAt partOf
  rw [List.take_succ_eq_append_getElem hi, List.filter_append, List.map_append]
  have e : F.getD i 0 = F[i] := by simp [hi]
  rw [e]
  by_cases h : F[i] % P.getD j 0 = 0
  · rw [if_pos h, List.filter_cons_of_pos (by simpa using h), List.append_assoc]
    rfl
  · rw [if_neg h, List.filter_cons_of_neg (by simpa using h)]
    simp
theorem partsAt_out {P F : List Int} {j : Nat} (hj : j < P.length) : partsAt P F (j + 1) 0 = partsAt P F j F.length := by
  unfold partsAt
  rw [List.take_succ_eq_append_getElem hj, List.flatMap_append, List.take_length]
  simp [hj, partOf]
theorem partsAt_end {P F : List Int} : partsAt P F P.length 0 = P.flatMap (partOf F) := by
  unfold partsAt
  rw [List.take_length]
  simp [partOf]
theorem flat_le {α : Type} {f : α → List Int} {n : Nat} : ∀ {a : List α}, (∀ x, (f x).length ≤ n) → (a.flatMap f).length ≤ a.length * n
  | [], _ => by simp
  | x :: t, h => by
    have h1 := h x
    have h2 := flat_le (a := t) h
    simp only [List.flatMap_cons, List.length_append, List.length_cons, Nat.succ_mul]
    omega
theorem partOf_len (F : List Int) (p : Int) : (partOf F p).length ≤ F.length := by
  unfold partOf
  rw [List.length_map]
  exact List.length_filter_le _ _
theorem partsAt_len {P F : List Int} {j i : Nat} (hF : F.length ≤ 10) (hP : P.length ≤ 1000000) : (partsAt P F j i).length ≤ 20000000 := by
  unfold partsAt
  rw [List.length_append]
  have h1 := flat_le (f := partOf F) (a := P.take j) (n := 10) (fun p => by have := partOf_len F p; omega)
  have h2 := partOf_len (F.take i) (P.getD j 0)
  simp only [List.length_take] at h1 h2
  omega
end Go.Proofs.Ytpplojbcjgiabaa.Num
