/- Plain arithmetic without Go: the prime factors of a number up to 729, in two ways. -/
import Derived.Test.YtncpngmplddbkaaNumPr
namespace Go.Proofs.Ytncpngmplddbkaa.Num
set_option linter.unusedVariables false
set_option linter.unusedSimpArgs false

/-- By a bound on the rounds: how often d divides n, and what is left. -/
def stripN : Nat → Nat → Nat → Nat × Nat
  | 0, _, n => (0, n)
  | k + 1, d, n => if n % d = 0 then ((stripN k d (n / d)).1 + 1, (stripN k d (n / d)).2) else (0, n)
theorem stripN_eq : ∀ (k d n : Nat), 2 ≤ d → 1 ≤ n → n ≤ k → ve (d : Int) (n : Int) = ((stripN k d n).1 : Int) ∧ vr (d : Int) (n : Int) = ((stripN k d n).2 : Int)
  | 0, d, n, _, h1, h2 => by omega
  | k + 1, d, n, hd, h1, h2 => by
    by_cases hm : n % d = 0
    · have hm' : (n : Int) % (d : Int) = 0 := by omega
      obtain ⟨s1, s2⟩ := v_step (p := (d : Int)) (n := (n : Int)) (by omega) (by omega) hm'
      have hlt : n / d < n := Nat.div_lt_self (by omega) (by omega)
      have hpos : 1 ≤ n / d := Nat.div_pos (Nat.le_of_dvd (by omega) (Nat.dvd_of_mod_eq_zero hm)) (by omega)
      obtain ⟨e1, e2⟩ := stripN_eq k d (n / d) hd hpos (by omega)
      rw [stripN, if_pos hm, s1, s2, show (n : Int) / (d : Int) = ((n / d : Nat) : Int) from rfl, e1, e2]
      exact ⟨rfl, rfl⟩
    · obtain ⟨s1, s2⟩ := v_stop (p := (d : Int)) (n := (n : Int)) (by omega) (by omega) (by omega)
      rw [stripN, if_neg hm, s1, s2]
      exact ⟨rfl, rfl⟩
def facN : Nat → Nat → Nat → List (Nat × Nat)
  | 0, _, _ => []
  | k + 1, d, n => if d * d ≤ n then (if n % d = 0 then (d, (stripN n d n).1) :: facN k (d + 1) (stripN n d n).2 else facN k (d + 1) n) else (if 1 < n then [(n, 1)] else [])
theorem facN_eq : ∀ (k d n : Nat), 2 ≤ d → 1 ≤ n → n < d + k → 1 ≤ k → facL (d : Int) (n : Int) = (facN k d n).map fun x => ((x.1 : Int), (x.2 : Int))
  | 0, d, n, hd, h1, hk, hk1 => by omega
  | k + 1, d, n, hd, h1, hk, _ => by
    rw [facN]
    have ec : ((d * d : Nat) : Int) = (d : Int) * (d : Int) := Int.natCast_mul d d
    by_cases hdd : d * d ≤ n
    · have hdd' : (d : Int) * (d : Int) ≤ (n : Int) := by omega
      have h2d : 2 * (d : Int) ≤ (d : Int) * (d : Int) := Int.mul_le_mul_of_nonneg_right (by omega) (by omega)
      rw [if_pos hdd]
      by_cases hm : n % d = 0
      · rw [if_pos hm, facL_div (by omega) hdd' (by omega)]
        obtain ⟨e1, e2⟩ := stripN_eq n d n hd h1 (Nat.le_refl _)
        have hv := vr_bd (p := (d : Int)) (n := (n : Int)) (by omega) (by omega)
        rw [e1, e2]
        rw [e2] at hv
        have := facN_eq k (d + 1) (stripN n d n).2 (by omega) (by omega) (by omega) (by omega)
        rw [List.map_cons, ← this]
        rfl
      · rw [if_neg hm, facL_skip (by omega) hdd' (by omega)]
        exact facN_eq k (d + 1) n (by omega) h1 (by omega) (by omega)
    · rw [if_neg hdd]
      by_cases h2 : 1 < n
      · rw [if_pos h2, facL_last (by omega) (by omega)]
        rfl
      · have : n = 1 := by omega
        subst this
        rw [if_neg (by omega)]
        exact facL_one (by omega)
/-- The factors 2, 3, 5, 7 of a number, and what is left. -/
def r2 (n : Nat) : Nat × Nat := stripN n 2 n
def r3 (n : Nat) : Nat × Nat := stripN (r2 n).2 3 (r2 n).2
def r5 (n : Nat) : Nat × Nat := stripN (r3 n).2 5 (r3 n).2
def r7 (n : Nat) : Nat × Nat := stripN (r5 n).2 7 (r5 n).2
def outN (n : Nat) : List Nat := List.replicate (r2 n).1 2 ++ List.replicate (r3 n).1 3 ++ List.replicate (r5 n).1 5 ++ List.replicate (r7 n).1 7
def gpN (x : Nat) : Bool := x == 2 || x == 3 || x == 5 || x == 7
def prodN : List Nat → Nat
  | [] => 1
  | x :: xs => x * prodN xs
def chkN (n : Nat) : Bool :=
  ((facN n 2 n).all (fun x => gpN x.1) == ((r7 n).2 == 1)) && (!((r7 n).2 == 1) || ((facN n 2 n).flatMap (fun x => List.replicate x.2 x.1) == outN n && prodN (outN n) == n && (facN n 2 n).all (fun x => decide (x.2 ≤ 64)) && decide ((facN n 2 n).length ≤ 64))) &&
    decide (1 ≤ (r2 n).2) && decide (1 ≤ (r3 n).2) && decide (1 ≤ (r5 n).2) && decide (1 ≤ (r7 n).2) && decide ((outN n).length ≤ 64)
set_option maxRecDepth 100000 in
theorem chkN_all : ∀ n : Nat, n < 730 → 1 ≤ n → chkN n = true := by decide +kernel
def cycO (n : Int) : List Int := (outN n.toNat).map Int.ofNat
def cycG (n : Int) : Bool := (r7 n.toNat).2 == 1
theorem gpN_gp (x : Nat) : gpN x = gp (x : Int) := by
  unfold gpN gp
  rw [Bool.eq_iff_iff]
  simp only [Bool.or_eq_true, beq_iff_eq, decide_eq_true_eq]
  omega
theorem gpsB_mem_iff {O : List Int} : gpsB O = true ↔ ∀ x ∈ O, gp x = true := by
  constructor
  · intro h x hx
    obtain ⟨j, hj, rfl⟩ := List.getElem_of_mem hx
    have := gpsB_out h j hj
    rwa [List.getD_eq_getElem?_getD, List.getElem?_eq_getElem hj] at this
  · intro h
    refine gpsB_ok fun j hj => ?_
    rw [List.getD_eq_getElem?_getD, List.getElem?_eq_getElem hj]
    exact h _ (List.getElem_mem hj)
theorem facL_N {n : Int} (h1 : 1 ≤ n) : facL 2 n = (facN n.toNat 2 n.toNat).map fun x => ((x.1 : Int), (x.2 : Int)) := by
  have := facN_eq n.toNat 2 n.toNat (by omega) (by omega) (by omega) (by omega)
  rw [← this]
  congr 1
  omega
theorem prodN_Z : ∀ xs : List Nat, prodZ (xs.map Int.ofNat) = (prodN xs : Int)
  | [] => rfl
  | x :: xs => by
    rw [List.map_cons, prodZ, prodN, prodN_Z xs]
    exact (Int.natCast_mul x (prodN xs)).symm
theorem cyc_facts {n : Int} (h1 : 1 ≤ n) (h2 : n ≤ 729) : (gpsB (facP 2 n) = cycG n) ∧ (cycO n).length ≤ 64 ∧ (cycG n = true → (facL 2 n).flatMap (fun x => List.replicate x.2.toNat x.1) = cycO n ∧ prodZ (cycO n) = n ∧ (facL 2 n).length ≤ 64 ∧ ∀ x ∈ facL 2 n, 0 ≤ x.2 ∧ x.2 ≤ 64) := by
  have h := chkN_all n.toNat (by omega) (by omega)
  unfold chkN at h
  simp only [Bool.and_eq_true, Bool.or_eq_true, beq_iff_eq, decide_eq_true_eq, Bool.not_eq_true', List.all_eq_true] at h
  obtain ⟨⟨⟨⟨⟨⟨ha, hb⟩, _⟩, _⟩, _⟩, _⟩, hl⟩ := h
  refine ⟨?_, by simpa [cycO] using hl, fun hg => ?_⟩
  · rw [cycG, ← ha, Bool.eq_iff_iff, gpsB_mem_iff, facP, facL_N h1, List.all_eq_true]
    constructor
    · intro h x hx
      rw [gpN_gp]
      exact h _ (List.mem_map.mpr ⟨_, List.mem_map.mpr ⟨x, hx, rfl⟩, rfl⟩)
    · intro h y hy
      obtain ⟨z, hz, rfl⟩ := List.mem_map.mp hy
      obtain ⟨x, hx, rfl⟩ := List.mem_map.mp hz
      have := h x hx
      rwa [gpN_gp] at this
  · rcases hb with hb | hb
    · unfold cycG at hg; rw [hb] at hg; cases hg
    · obtain ⟨⟨⟨e1, e2⟩, e3⟩, e4⟩ := hb
      rw [facL_N h1]
      refine ⟨?_, ?_, by rw [List.length_map]; exact e4, fun x hx => ?_⟩
      · rw [cycO, ← e1, List.flatMap_map, List.map_flatMap]
        congr 1
        funext x
        simp
      · rw [cycO, prodN_Z, e2]; omega
      · obtain ⟨y, hy, rfl⟩ := List.mem_map.mp hx
        have := e3 y hy
        have h9 : y.2 ≤ 64 := by simpa using this
        exact ⟨by simp, by show ((y.2 : Nat) : Int) ≤ 64; omega⟩
theorem cyc_gps (n : Int) : gpsB (cycO n) = true := by
  rw [gpsB_mem_iff]
  intro x hx
  simp only [cycO, outN, List.mem_map, List.mem_append] at hx
  obtain ⟨y, hy, rfl⟩ := hx
  rcases hy with ((hy | hy) | hy) | hy
  all_goals
    rw [List.eq_of_mem_replicate hy]
    rfl
theorem cyc_strip {n : Int} (h1 : 1 ≤ n) (h2 : n ≤ 729) :
    cycO n = List.replicate (ve 2 n).toNat 2 ++ List.replicate (ve 3 (vr 2 n)).toNat 3 ++ List.replicate (ve 5 (vr 3 (vr 2 n))).toNat 5 ++ List.replicate (ve 7 (vr 5 (vr 3 (vr 2 n)))).toNat 7 ∧ cycG n = decide (vr 7 (vr 5 (vr 3 (vr 2 n))) = 1) := by
  have h := chkN_all n.toNat (by omega) (by omega)
  unfold chkN at h
  simp only [Bool.and_eq_true, decide_eq_true_eq] at h
  obtain ⟨⟨⟨⟨⟨_, q2⟩, q3⟩, q5⟩, q7⟩, _⟩ := h
  obtain ⟨m, rfl⟩ := Int.eq_ofNat_of_zero_le (show 0 ≤ n by omega)
  simp only [Int.toNat_natCast] at q2 q3 q5 q7
  obtain ⟨a1, a2⟩ := stripN_eq m 2 m (by omega) (by omega) (Nat.le_refl _)
  obtain ⟨b1, b2⟩ := stripN_eq (r2 m).2 3 (r2 m).2 (by omega) q2 (Nat.le_refl _)
  obtain ⟨c1, c2⟩ := stripN_eq (r3 m).2 5 (r3 m).2 (by omega) q3 (Nat.le_refl _)
  obtain ⟨d1, d2⟩ := stripN_eq (r5 m).2 7 (r5 m).2 (by omega) q5 (Nat.le_refl _)
  have a2' : vr 2 (m : Int) = ((r2 m).2 : Int) := a2
  have b2' : vr 3 ((r2 m).2 : Int) = ((r3 m).2 : Int) := b2
  have c2' : vr 5 ((r3 m).2 : Int) = ((r5 m).2 : Int) := c2
  have d2' : vr 7 ((r5 m).2 : Int) = ((r7 m).2 : Int) := d2
  have a1' : ve 2 (m : Int) = ((r2 m).1 : Int) := a1
  have b1' : ve 3 ((r2 m).2 : Int) = ((r3 m).1 : Int) := b1
  have c1' : ve 5 ((r3 m).2 : Int) = ((r5 m).1 : Int) := c1
  have d1' : ve 7 ((r5 m).2 : Int) = ((r7 m).1 : Int) := d1
  rw [a2', b2', c2', d2', a1', b1', c1', d1']
  constructor
  · simp only [cycO, outN, Int.toNat_natCast, List.map_append, List.map_replicate]
    rfl
  · unfold cycG
    rw [Bool.eq_iff_iff]
    simp only [Int.toNat_natCast, beq_iff_eq, decide_eq_true_eq]
    omega
end Go.Proofs.Ytncpngmplddbkaa.Num
