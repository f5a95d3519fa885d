/- Plain arithmetic without Go: elements of tails as numbers; tables of products; products letter by letter; the last letter. -/
import Derived.Test.YteappjgdcbploaaNumTy
namespace Go.Proofs.Yteappjgdcbploaa.Num
set_option linter.unusedVariables false
set_option linter.unusedSimpArgs false

def szL : List Lv → Int
  | [] => 1
  | L :: Ls => L.o * szL Ls
def numL : List Lv → List Int → Int
  | [], _ => 0
  | L :: Ls, a => a.headD 0 * szL Ls + numL Ls a.tail
def decL : List Lv → Int → List Int
  | [], _ => []
  | L :: Ls, x => x / szL Ls :: decL Ls (x % szL Ls)
theorem szL_pos : ∀ {Ls : List Lv}, OkL Ls → 1 ≤ szL Ls
  | [], _ => by decide
  | L :: Ls, h => by
    have h1 := h.1
    have h2 := szL_pos h.2.2.2.2
    have := Int.mul_le_mul (show (1 : Int) ≤ L.o by omega) h2 (by omega) (by omega)
    show 1 ≤ L.o * szL Ls
    omega
theorem numL_cons (L : Lv) (Ls : List Lv) (x : Int) (a : List Int) : numL (L :: Ls) (x :: a) = x * szL Ls + numL Ls a := rfl
theorem numL_rng : ∀ {Ls : List Lv}, OkL Ls → ∀ {a : List Int}, El Ls a → 0 ≤ numL Ls a ∧ numL Ls a < szL Ls
  | [], _, a, _ => by show (0 : Int) ≤ 0 ∧ (0 : Int) < 1; decide
  | L :: Ls, h, a, ⟨x, a', ea, x0, x1, ha⟩ => by
    subst ea
    have hs := szL_pos h.2.2.2.2
    obtain ⟨h1, h2⟩ := numL_rng h.2.2.2.2 ha
    rw [numL_cons]
    have p1 : 0 ≤ x * szL Ls := Int.mul_nonneg x0 (by omega)
    have p2 : (x + 1) * szL Ls ≤ L.o * szL Ls := Int.mul_le_mul_of_nonneg_right (by omega) (by omega)
    rw [Int.add_mul, Int.one_mul] at p2
    show _ ∧ _ < L.o * szL Ls
    omega
theorem decL_num : ∀ {Ls : List Lv}, OkL Ls → ∀ {a : List Int}, El Ls a → decL Ls (numL Ls a) = a
  | [], _, a, h => by rw [show a = [] from h]; rfl
  | L :: Ls, h, a, ⟨x, a', ea, x0, x1, ha⟩ => by
    subst ea
    have hs := szL_pos h.2.2.2.2
    obtain ⟨h1, h2⟩ := numL_rng h.2.2.2.2 ha
    rw [numL_cons, decL, Int.add_comm, Int.add_mul_emod_self_right, Int.emod_eq_of_lt h1 h2, decL_num h.2.2.2.2 ha, Int.add_mul_ediv_right _ _ (by omega), Int.ediv_eq_zero_of_lt h1 h2, Int.zero_add]
theorem decL_El : ∀ {Ls : List Lv}, OkL Ls → ∀ {x : Int}, 0 ≤ x → x < szL Ls → El Ls (decL Ls x) ∧ numL Ls (decL Ls x) = x
  | [], _, x, h0, h1 => by
    have h1' : x < 1 := h1
    refine ⟨rfl, ?_⟩
    show (0 : Int) = x
    omega
  | L :: Ls, h, x, h0, h1 => by
    have hs := szL_pos h.2.2.2.2
    have h1' : x < L.o * szL Ls := h1
    obtain ⟨e1, e2⟩ := decL_El h.2.2.2.2 (x := x % szL Ls) (Int.emod_nonneg _ (by omega)) (Int.emod_lt_of_pos _ (by omega))
    refine ⟨⟨_, _, rfl, Int.ediv_nonneg h0 (by omega), Int.ediv_lt_of_lt_mul (by omega) h1', e1⟩, ?_⟩
    rw [decL, numL_cons, e2, Int.mul_comm]
    exact Int.mul_ediv_add_emod _ _
theorem numL_inj {Ls : List Lv} (h : OkL Ls) {a b : List Int} (ha : El Ls a) (hb : El Ls b) (e : numL Ls a = numL Ls b) : a = b := by
  rw [← decL_num h ha, e, decL_num h hb]
theorem numL_zer : ∀ (Ls : List Lv), numL Ls (zer Ls.length) = 0
  | [] => rfl
  | L :: Ls => by rw [List.length_cons, zer_succ, numL_cons, numL_zer Ls]; omega

/-! ### A vector cut at an index -/
theorem OkL.drop : ∀ {Ls : List Lv} (k : Nat), OkL Ls → OkL (Ls.drop k)
  | Ls, 0, h => h
  | [], k + 1, h => h
  | L :: Ls, k + 1, h => OkL.drop k h.2.2.2.2
theorem Con.drop : ∀ {Ls : List Lv} (k : Nat), Con Ls → Con (Ls.drop k)
  | Ls, 0, h => h
  | [], k + 1, h => h
  | L :: Ls, k + 1, h => Con.drop k h.2
theorem El.drop : ∀ {Ls : List Lv} (k : Nat) {u : List Int}, El Ls u → El (Ls.drop k) (u.drop k)
  | Ls, 0, u, h => h
  | [], k + 1, u, h => by rw [show u = [] from h]; rfl
  | L :: Ls, k + 1, u, ⟨x, u', e, _, _, h⟩ => by subst e; exact El.drop k h
theorem El.put : ∀ {Ls : List Lv} (k : Nat) {u z : List Int}, El Ls u → El (Ls.drop k) z → k ≤ Ls.length → El Ls (u.take k ++ z)
  | Ls, 0, u, z, h, hz, _ => hz
  | [], k + 1, u, z, h, hz, hk => by simp at hk
  | L :: Ls, k + 1, u, z, ⟨x, u', e, x0, x1, h⟩, hz, hk => by
    subst e
    exact ⟨x, u'.take k ++ z, rfl, x0, x1, El.put k h hz (by simpa using hk)⟩
/-- What stands ahead of an index counts by the size behind it. -/
def hiL : List Lv → Nat → List Int → Int
  | _, 0, _ => 0
  | [], _, _ => 0
  | L :: Ls, k + 1, a => a.headD 0 * szL (Ls.take k) + hiL Ls k a.tail
theorem szL_app : ∀ (Ls : List Lv) (k : Nat), szL Ls = szL (Ls.take k) * szL (Ls.drop k)
  | Ls, 0 => by show szL Ls = 1 * szL Ls; omega
  | [], k + 1 => by rfl
  | L :: Ls, k + 1 => by
    show L.o * szL Ls = L.o * szL (Ls.take k) * szL (Ls.drop k)
    rw [szL_app Ls k, Int.mul_assoc]
theorem num_cut : ∀ {Ls : List Lv} (k : Nat) {u z : List Int}, El Ls u → k ≤ Ls.length → numL Ls (u.take k ++ z) = hiL Ls k u * szL (Ls.drop k) + numL (Ls.drop k) z
  | Ls, 0, u, z, h, _ => by
    cases Ls <;> (show numL _ z = 0 * _ + numL _ z; rw [Int.zero_mul, Int.zero_add]; rfl)
  | [], k + 1, u, z, h, hk => by simp at hk
  | L :: Ls, k + 1, u, z, ⟨x, u', e, x0, x1, h⟩, hk => by
    subst e
    rw [List.take_succ_cons, List.cons_append, numL_cons, num_cut k h (by simpa using hk)]
    show x * szL Ls + _ = (x * szL (Ls.take k) + hiL Ls k u') * szL (Ls.drop k) + _
    rw [szL_app Ls k, Int.add_mul, Int.mul_assoc]
    show _ + (_ + numL (Ls.drop k) z) = _ + _ + numL (Ls.drop k) z
    omega
theorem num_self {Ls : List Lv} (k : Nat) {u : List Int} (h : El Ls u) (hk : k ≤ Ls.length) : numL Ls u = hiL Ls k u * szL (Ls.drop k) + numL (Ls.drop k) (u.drop k) := by
  have := num_cut k (z := u.drop k) h hk
  rwa [List.take_append_drop] at this
theorem num_mod {Ls : List Lv} (hO : OkL Ls) (k : Nat) {u : List Int} (h : El Ls u) (hk : k ≤ Ls.length) : numL Ls u % szL (Ls.drop k) = numL (Ls.drop k) (u.drop k) := by
  obtain ⟨h1, h2⟩ := numL_rng (OkL.drop k hO) (El.drop k h)
  rw [num_self k h hk, Int.add_comm, Int.add_mul_emod_self_right, Int.emod_eq_of_lt h1 h2]
theorem mul_cut : ∀ {Ls : List Lv} (k : Nat) {u z : List Int}, El Ls u → k ≤ Ls.length → mulL Ls u (zer k ++ z) = u.take k ++ mulL (Ls.drop k) (u.drop k) z
  | Ls, 0, u, z, h, _ => rfl
  | [], k + 1, u, z, h, hk => by simp at hk
  | L :: Ls, k + 1, u, z, ⟨x, u', e, x0, x1, h⟩, hk => by
    subst e
    rw [zer_succ, List.cons_append, mulL_zero _ _ _ _ _ x1, mul_cut k h (by simpa using hk)]
    rfl
/-- The first generator of a tail. -/
def genL : List Lv → List Int
  | [] => []
  | L :: Ls => 1 :: zer Ls.length
theorem genL_El : ∀ {Ls : List Lv}, OkL Ls → El Ls (genL Ls)
  | [], _ => rfl
  | L :: Ls, h => ⟨1, _, rfl, by omega, by have := h.1; omega, zer_El h.2.2.2.2⟩
theorem img_zer (L : Lv) (Ls : List Lv) : imgL L Ls (zer Ls.length) = zer Ls.length := ev_zer (mulL Ls) (zer Ls.length) Ls.length L.cj
/-- A letter ahead of what it does not reduce. -/
theorem gen_mul {L : Lv} {Ls : List Lv} (hO : OkL (L :: Ls)) (C : Con (L :: Ls)) {e : Int} {v : List Int} (h0 : 0 ≤ e) (h1 : e + 1 < L.o) (hv : El Ls v) : mulL (L :: Ls) (genL (L :: Ls)) (e :: v) = (e + 1) :: v := by
  have M := Con.mon hO.2.2.2.2 C.2
  show mulL (L :: Ls) (1 :: zer Ls.length) (e :: v) = _
  rw [mulL_cons, if_neg (by omega), iter_fix (img_zer L Ls), M.onel _ hv, Int.add_comm]
theorem zer_put {Ls : List Lv} (hO : OkL Ls) (k : Nat) {z : List Int} (hz : El (Ls.drop k) z) (hk : k ≤ Ls.length) : El Ls (zer k ++ z) := by
  have := El.put k (zer_El hO) hz hk
  rwa [show (zer Ls.length).take k = zer k by unfold zer; rw [List.take_replicate, Nat.min_eq_left hk]] at this
/-- One letter of the right factor moved to the left one. -/
theorem letter {Ls Ls' : List Lv} {L : Lv} (hO : OkL Ls) (C : Con Ls) (k : Nat) (hk : k < Ls.length) (hd : Ls.drop k = L :: Ls') {u v : List Int} {e : Int} (hu : El Ls u) (h0 : 0 < e) (h1 : e < L.o) (hv : El Ls' v) :
    mulL Ls u (zer k ++ e :: v) = mulL Ls (mulL Ls u (zer k ++ genL (Ls.drop k))) (zer k ++ (e - 1) :: v) := by
  have M := Con.mon hO C
  have hOd := OkL.drop k hO
  have hCd := Con.drop k C
  have hg : El Ls (zer k ++ genL (Ls.drop k)) := zer_put hO k (genL_El hOd) (by omega)
  have hev : El (Ls.drop k) ((e - 1) :: v) := by rw [hd]; exact ⟨_, _, rfl, by omega, by omega, hv⟩
  rw [M.assoc _ _ _ hu hg (zer_put hO k hev (by omega)), mul_cut k hg (by omega)]
  congr 1
  rw [show (zer k ++ genL (Ls.drop k)).take k = zer k by rw [List.take_append_of_le_length (by simp)]; simp [zer], pad_drop]
  congr 1
  rw [hd] at hOd hCd ⊢
  rw [gen_mul hOd hCd (by omega) (by omega) hv]
  congr 1
  omega
/-- The tables of a tower. -/
def tabL (Ls : List Lv) : List Int := (List.range (szL Ls).toNat).map fun (x : Nat) => numL Ls (mulL Ls (decL Ls (x : Int)) (genL Ls))
theorem tabL_len {Ls : List Lv} (h : OkL Ls) : ((tabL Ls).length : Int) = szL Ls := by
  have := szL_pos h
  simp [tabL]
  omega
theorem tabL_at {Ls : List Lv} (h : OkL Ls) {a : List Int} (ha : El Ls a) : (tabL Ls).getD (numL Ls a).toNat 0 = numL Ls (mulL Ls a (genL Ls)) := by
  obtain ⟨h1, h2⟩ := numL_rng h ha
  unfold tabL
  rw [List.getD_eq_getElem?_getD, List.getElem?_map, List.getElem?_range (by omega)]
  show numL Ls (mulL Ls (decL Ls (((numL Ls a).toNat : Nat) : Int)) (genL Ls)) = _
  rw [show (((numL Ls a).toNat : Nat) : Int) = numL Ls a by omega, decL_num h ha]
/-- One step of the program's product: what stands behind an index is replaced by the table. -/
theorem step_num {Ls : List Lv} (hO : OkL Ls) (k : Nat) (hk : k ≤ Ls.length) {u : List Int} (hu : El Ls u) :
    numL Ls (mulL Ls u (zer k ++ genL (Ls.drop k))) = numL Ls u + ((tabL (Ls.drop k)).getD (numL Ls u % szL (Ls.drop k)).toNat 0 - numL Ls u % szL (Ls.drop k)) := by
  rw [mul_cut k hu hk, num_cut k hu hk, num_mod hO k hu hk, tabL_at (OkL.drop k hO) (El.drop k hu)]
  have := num_self k hu hk
  omega

/-! ### The last letter -/
/-- An element's last exponent that is not 0, with what stands ahead of it. -/
structure Last (Ls : List Lv) (a : List Int) (q : Nat) (f : List Int) (e : Int) : Prop where
  lt : q < Ls.length
  len : f.length = q
  eq : a = f ++ e :: zer (Ls.length - (q + 1))
  pos : 0 < e
theorem app_last {α : Type} (m : α → α → α) : ∀ (f : List Int) (out : α) (e : Int) (k : Nat) (cs : List α) (d : α), f.length < cs.length → 0 < e → app m out (f ++ e :: zer k) cs = m (app m out (f ++ (e - 1) :: zer k) cs) (cs.getD f.length d)
  | [], out, e, k, [], d, h, _ => by simp at h
  | [], out, e, k, c :: cs, d, h, he => by
    have hz : ∀ (x : α), app m x (zer k) cs = x := fun x => by
      have := ev_zer m x k cs
      exact this
    show app m (iter (fun u => m u c) e.toNat out) (zer k) cs = m (app m (iter (fun u => m u c) (e - 1).toNat out) (zer k) cs) c
    rw [hz, hz, show e.toNat = (e - 1).toNat + 1 by omega, iter_succ]
  | x :: f, out, e, k, [], d, h, _ => by simp at h
  | x :: f, out, e, k, c :: cs, d, h, he => by
    show app m _ (f ++ e :: zer k) cs = m (app m _ (f ++ (e - 1) :: zer k) cs) _
    rw [app_last m f _ e k cs d (by simpa using h) he]
    rfl
/-- An element's image by that of the element with one letter less. -/
theorem img_last {L : Lv} {Ls : List Lv} (hO : OkL (L :: Ls)) {a f : List Int} {q : Nat} {e : Int} (h : Last Ls a q f e) : imgL L Ls a = mulL Ls (imgL L Ls (f ++ (e - 1) :: zer (Ls.length - (q + 1)))) (L.cj.getD q []) := by
  have hl := h.len
  subst hl
  rw [h.eq]
  exact app_last (mulL Ls) f (zer Ls.length) e _ L.cj [] (by rw [hO.2.2.1]; exact h.lt) h.pos
theorem El_last : ∀ {Ls : List Lv}, OkL Ls → ∀ {a f : List Int} {q : Nat} {e : Int}, El Ls a → Last Ls a q f e → El Ls (f ++ (e - 1) :: zer (Ls.length - (q + 1)))
  | [], _, a, f, q, e, _, h => by have := h.lt; simp at this
  | L :: Ls, hO, a, [], q, e, ⟨x, a', ea, x0, x1, ha⟩, h => by
    have h1 := h.eq
    rw [ea] at h1
    simp only [List.nil_append, List.cons.injEq] at h1
    obtain ⟨rfl, h2⟩ := h1
    exact ⟨_, _, rfl, by have := h.pos; omega, by omega, by rw [← h2]; exact ha⟩
  | L :: Ls, hO, a, y :: f, q, e, ⟨x, a', ea, x0, x1, ha⟩, h => by
    have h1 := h.eq
    rw [ea] at h1
    simp only [List.cons_append, List.cons.injEq] at h1
    obtain ⟨rfl, h2⟩ := h1
    have hl := h.len
    obtain ⟨q', rfl⟩ : ∃ q', q = q' + 1 := ⟨f.length, by rw [← hl]; rfl⟩
    have h3 : Last Ls a' q' f e := ⟨by have := h.lt; simpa using this, by simpa using hl, by rw [h2]; simp, h.pos⟩
    have := El_last hO.2.2.2.2 ha h3
    exact ⟨x, _, rfl, x0, x1, by simpa using this⟩
theorem num_last : ∀ {Ls : List Lv}, OkL Ls → ∀ {a f : List Int} {q : Nat} {e : Int}, El Ls a → Last Ls a q f e → numL Ls (f ++ (e - 1) :: zer (Ls.length - (q + 1))) = numL Ls a - szL (Ls.drop (q + 1))
  | [], _, a, f, q, e, _, h => by have := h.lt; simp at this
  | L :: Ls, hO, a, [], q, e, ⟨x, a', ea, x0, x1, ha⟩, h => by
    have h1 := h.eq
    have hl := h.len
    obtain rfl : q = 0 := by simpa using hl.symm
    rw [ea] at h1 ⊢
    simp only [List.nil_append, List.cons.injEq] at h1
    obtain ⟨rfl, h2⟩ := h1
    rw [List.nil_append, numL_cons, numL_cons, ← h2, Int.sub_mul, Int.one_mul]
    show _ = _ - szL Ls
    omega
  | L :: Ls, hO, a, y :: f, q, e, ⟨x, a', ea, x0, x1, ha⟩, h => by
    have h1 := h.eq
    rw [ea] at h1 ⊢
    simp only [List.cons_append, List.cons.injEq] at h1
    obtain ⟨rfl, h2⟩ := h1
    have hl := h.len
    obtain ⟨q', rfl⟩ : ∃ q', q = q' + 1 := ⟨f.length, by rw [← hl]; rfl⟩
    have h3 : Last Ls a' q' f e := ⟨by have := h.lt; simpa using this, by simpa using hl, by rw [h2]; simp, h.pos⟩
    have := num_last hO.2.2.2.2 ha h3
    rw [List.cons_append, numL_cons, numL_cons, List.drop_succ_cons]
    simp only [List.length_cons, Nat.add_sub_add_right] at *
    rw [this]
    omega
/-- The last letter, found from the end. -/
theorem last_of {Ls : List Lv} (hO : OkL Ls) {a : List Int} (ha : El Ls a) {q : Nat} (hq : q < Ls.length) (hz : a.drop (q + 1) = zer (Ls.length - (q + 1))) (hn : numL (Ls.drop q) (a.drop q) ≠ 0) : Last Ls a q (a.take q) (a.getD q 0) := by
  have hl := ha.len
  refine ⟨hq, by rw [List.length_take]; omega, ?_, ?_⟩
  · rw [← hz, ← drop_at (by omega), List.take_append_drop]
  · have hE := El.drop q ha
    have hO' := OkL.drop q hO
    rw [drop_at (l := a) (by omega)] at hE hn
    rw [List.drop_eq_getElem_cons hq] at hE hn hO'
    obtain ⟨x, a', e, x0, x1, h⟩ := hE
    obtain ⟨e1, e2⟩ := List.cons.inj e
    rw [numL_cons, hz, show Ls.length - (q + 1) = (Ls.drop (q + 1)).length by simp, numL_zer] at hn
    by_cases h0 : a.getD q 0 = 0
    · rw [h0] at hn; omega
    · omega
theorem zero_of {Ls : List Lv} (hO : OkL Ls) {a : List Int} (ha : El Ls a) {q : Nat} (hq : q ≤ Ls.length) (hn : numL (Ls.drop q) (a.drop q) = 0) : a.drop q = zer (Ls.length - q) := by
  have := numL_inj (OkL.drop q hO) (El.drop q ha) (zer_El (OkL.drop q hO)) (by rw [hn, numL_zer])
  rwa [List.length_drop] at this
end Go.Proofs.Yteappjgdcbploaa.Num
