/- NumEa, NumG, NumH, NumEb, L15D, L12O, L15E, L15F, L01D, L15G, L15H, L15I, Mc, L15J, L15K, L15L, L15M, L15N, L15O, L15P, L15Q in one. -/
import Derived.Test.YteappjgdcbploaaNumTz
import Derived.Test.YteappjgdcbploaaNumF
import Derived.Test.YteappjgdcbploaaNumWd
import Derived.Test.YteappjgdcbploaaL12D
import Derived.Test.YteappjgdcbploaaL12N
import Derived.Test.YteappjgdcbploaaL11C
import Derived.Test.YteappjgdcbploaaStep
import Derived.Test.YteappjgdcbploaaKB
import Derived.Test.YteappjgdcbploaaL11G
import Derived.Test.YteappjgdcbploaaL11E
import Derived.Test.YteappjgdcbploaaL10C
import Derived.Test.YteappjgdcbploaaL12B
import Derived.StillTailTactics
import Derived.Deep.RegionHeld3
import Derived.Deep.DeepCutAuto
import Derived.Handy
import Derived.Deep.CutRange
import Derived.Deep.RegionLaw
import Derived.Deep.QuietTactic
import Derived.BigQuiet
import Derived.Deep.AppendLies
namespace Go.Proofs.Yteappjgdcbploaa.Num
set_option linter.unusedVariables false
set_option linter.unusedSimpArgs false

section
variable {α : Type} {P : α → Prop} {m : α → α → α} {e : α}
/-- Every element has a right inverse. -/
def Rinv (P : α → Prop) (m : α → α → α) (e : α) : Prop := ∀ a, P a → ∃ b, P b ∧ m a b = e
theorem Mon.linv (M : Mon P m e) (R : Rinv P m e) {a b : α} (ha : P a) (hb : P b) (h : m a b = e) : m b a = e := by
  obtain ⟨c, hc, hbc⟩ := R b hb
  have : a = c := by rw [← M.oner a ha, ← hbc, ← M.assoc a b c ha hb hc, h, M.onel c hc]
  rw [this]; exact hbc
theorem Mon.inv_unique (M : Mon P m e) (R : Rinv P m e) {a b c : α} (ha : P a) (hb : P b) (hc : P c) (h1 : m a b = e) (h2 : m a c = e) : b = c := by
  have h3 := M.linv R ha hb h1
  rw [← M.oner b hb, ← h2, ← M.assoc b a c hb ha hc, h3, M.onel c hc]
theorem Mon.pw_mul (M : Mon P m e) {c : α} (hc : P c) (k : Nat) : ∀ n : Nat, pw m e c (k * n) = pw m e (pw m e c k) n
  | 0 => rfl
  | n + 1 => by rw [Nat.mul_succ, M.pw_add hc, M.pw_mul hc k n, pw_succ]
theorem Mon.pw_one (M : Mon P m e) : ∀ n : Nat, pw m e e n = e
  | 0 => rfl
  | n + 1 => by rw [pw_succ, M.pw_one n, M.onel e M.one]
theorem Mon.pw_mod (M : Mon P m e) {c : α} (hc : P c) {N : Nat} (hN : pw m e c N = e) (k : Nat) : pw m e c (k % N) = pw m e c k := by
  conv => rhs; rw [← Nat.div_add_mod k N, M.pw_add hc, M.pw_mul hc, hN, M.pw_one, M.onel _ (M.pw_P hc _)]
/-- A power of the inverse. -/
theorem Mon.pw_inv (M : Mon P m e) (R : Rinv P m e) {a b : α} (ha : P a) (hb : P b) (h : m a b = e) : ∀ n : Nat, m (pw m e a n) (pw m e b n) = e
  | 0 => M.onel e M.one
  | n + 1 => by
    have h1 : pw m e b (n + 1) = m b (pw m e b n) := by
      rw [Nat.add_comm, M.pw_add hb]
      congr 1
      exact M.onel b hb
    have pa := M.pw_P ha n
    have pb := M.pw_P hb n
    rw [pw_succ, h1, M.assoc _ _ _ pa ha (M.op _ _ hb pb), ← M.assoc a b _ ha hb pb, h, M.onel _ pb, M.pw_inv R ha hb h n]
end

/-! ### Inverses -/
def invL : List Lv → List Int → List Int
  | [], _ => []
  | L :: Ls, a => if a.headD 0 = 0 then 0 :: invL Ls a.tail else mulL (L :: Ls) (mulL (L :: Ls) (0 :: invL Ls a.tail) ((L.o - a.headD 0) :: zer Ls.length)) (0 :: invL Ls L.w)
theorem El.in0 {L : Lv} {Ls : List Lv} (h : OkL (L :: Ls)) {u : List Int} (hu : El Ls u) : El (L :: Ls) (0 :: u) := ⟨0, u, rfl, by omega, by have := h.1; omega, hu⟩
theorem El.top {L : Lv} {Ls : List Lv} (h : OkL (L :: Ls)) {x : Int} (h0 : 0 ≤ x) (h1 : x < L.o) : El (L :: Ls) (x :: zer Ls.length) := ⟨x, _, rfl, h0, h1, zer_El h.2.2.2.2⟩
theorem inv_El : ∀ {Ls : List Lv}, OkL Ls → ∀ {a : List Int}, El Ls a → El Ls (invL Ls a)
  | [], _, a, _ => rfl
  | L :: Ls, h, a, ⟨x, a', ea, x0, x1, ha⟩ => by
    subst ea
    have h1 := El.in0 h (inv_El h.2.2.2.2 ha)
    unfold invL
    show El (L :: Ls) (if x = 0 then 0 :: invL Ls a' else _)
    split
    · exact h1
    · exact El.mul h (El.mul h h1 (El.top h (by show 0 ≤ L.o - x; omega) (by show L.o - x < L.o; omega))) (El.in0 h (inv_El h.2.2.2.2 h.2.1))
theorem inv_mul : ∀ {Ls : List Lv}, OkL Ls → Con Ls → ∀ {a : List Int}, El Ls a → mulL Ls a (invL Ls a) = zer Ls.length
  | [], _, _, a, _ => rfl
  | L :: Ls, h, C, a, ⟨x, a', ea, x0, x1, ha⟩ => by
    subst ea
    have ho := h.2.2.2.2
    have hw := h.2.1
    have M := Con.mon h C
    have M' := Con.mon ho C.2
    have ia := inv_El ho ha
    have iw := inv_El ho hw
    unfold invL
    show mulL (L :: Ls) (x :: a') (if x = 0 then 0 :: invL Ls a' else mulL (L :: Ls) (mulL (L :: Ls) (0 :: invL Ls a') ((L.o - x) :: zer Ls.length)) (0 :: invL Ls L.w)) = _
    by_cases hx : x = 0
    · rw [if_pos hx, mulL_zero _ _ _ _ _ x1, inv_mul ho C.2 ha, hx]
      rfl
    · rw [if_neg hx]
      have eA : El (L :: Ls) (x :: a') := ⟨x, a', rfl, x0, x1, ha⟩
      have eB := El.in0 h ia
      have eT := El.top h (x := L.o - x) (by omega) (by omega)
      have eW := El.in0 h iw
      rw [← M.assoc _ _ _ eA (M.op _ _ eB eT) eW, ← M.assoc _ _ _ eA eB eT, mulL_zero _ _ _ _ _ x1, inv_mul ho C.2 ha, mulL_cons, if_pos (by omega), iter_fix (img_zer L Ls), M'.onel _ M'.one, M'.oner _ hw,
        show x + (L.o - x) - L.o = 0 by omega, mulL_zero _ _ _ _ _ (by have := h.1; omega), inv_mul ho C.2 hw]
      rfl
theorem rinv {Ls : List Lv} (h : OkL Ls) (C : Con Ls) : Rinv (El Ls) (mulL Ls) (zer Ls.length) := fun a ha => ⟨_, inv_El h ha, inv_mul h C ha⟩
theorem inv_is {Ls : List Lv} (h : OkL Ls) (C : Con Ls) {a b : List Int} (ha : El Ls a) (hb : El Ls b) (e : mulL Ls a b = zer Ls.length) : b = invL Ls a :=
  (Con.mon h C).inv_unique (rinv h C) ha hb (inv_El h ha) e (inv_mul h C ha)
theorem inv_lmul {Ls : List Lv} (h : OkL Ls) (C : Con Ls) {a : List Int} (ha : El Ls a) : mulL Ls (invL Ls a) a = zer Ls.length :=
  (Con.mon h C).linv (rinv h C) ha (inv_El h ha) (inv_mul h C ha)
theorem inv_prod {Ls : List Lv} (h : OkL Ls) (C : Con Ls) {a b : List Int} (ha : El Ls a) (hb : El Ls b) : invL Ls (mulL Ls a b) = mulL Ls (invL Ls b) (invL Ls a) := by
  have M := Con.mon h C
  have ia := inv_El h ha
  have ib := inv_El h hb
  refine (inv_is h C (M.op _ _ ha hb) (M.op _ _ ib ia) ?_).symm
  rw [M.assoc _ _ _ ha hb (M.op _ _ ib ia), ← M.assoc b _ _ hb ib ia, inv_mul h C hb, M.onel _ ia, inv_mul h C ha]
/-- A commutator in both forms. -/
theorem comm_eq {Ls : List Lv} (h : OkL Ls) (C : Con Ls) {x y : List Int} (hx : El Ls x) (hy : El Ls y) :
    mulL Ls (invL Ls x) (mulL Ls (mulL Ls (invL Ls y) x) y) = mulL Ls (invL Ls (mulL Ls y x)) (mulL Ls x y) := by
  have M := Con.mon h C
  have ix := inv_El h hx
  have iy := inv_El h hy
  rw [inv_prod h C hy hx, M.assoc _ _ _ iy hx hy, M.assoc _ _ _ ix iy (M.op _ _ hx hy)]
theorem conj_eq {Ls : List Lv} (h : OkL Ls) (C : Con Ls) {x y : List Int} (hx : El Ls x) (hy : El Ls y) :
    mulL Ls (mulL Ls (invL Ls y) x) y = mulL Ls (invL Ls y) (mulL Ls x y) := (Con.mon h C).assoc _ _ _ (inv_El h hy) hx hy

/-! ### The order of the group is an exponent -/
theorem pw_head {L : Lv} {Ls : List Lv} (h : OkL (L :: Ls)) {x : Int} {a : List Int} (x0 : 0 ≤ x) (x1 : x < L.o) (ha : El Ls a) : ∀ n : Nat, ∃ t, pw (mulL (L :: Ls)) (zer (L :: Ls).length) (x :: a) n = ((n : Int) * x % L.o) :: t ∧ El Ls t
  | 0 => ⟨zer Ls.length, by show zer (Ls.length + 1) = _; rw [zer_succ]; simp, zer_El h.2.2.2.2⟩
  | n + 1 => by
    obtain ⟨t, e, ht⟩ := pw_head h x0 x1 ha n
    have h2 := h.1
    have hc0 := Int.emod_nonneg ((n : Int) * x) (show L.o ≠ 0 by omega)
    have hc1 := Int.emod_lt_of_pos ((n : Int) * x) (show 0 < L.o by omega)
    have hk : ∀ u, El Ls u → El Ls (imgL L Ls u) := fun u _ => El.img h u
    have hr := El.mul h.2.2.2.2 (iter_keep hk x.toNat ht) ha
    have hm : ((n + 1 : Nat) : Int) * x % L.o = if L.o ≤ (n : Int) * x % L.o + x then (n : Int) * x % L.o + x - L.o else (n : Int) * x % L.o + x := by
      rw [show ((n + 1 : Nat) : Int) = (n : Int) + 1 by omega, Int.add_mul, Int.one_mul, Int.add_emod, Int.emod_eq_of_lt x0 x1]
      split
      · rw [← Int.sub_emod_right, Int.emod_eq_of_lt (by omega) (by omega)]
      · exact Int.emod_eq_of_lt (by omega) (by omega)
    rw [pw_succ, e, mulL_cons, hm]
    split
    · exact ⟨_, rfl, El.mul h.2.2.2.2 h.2.1 hr⟩
    · exact ⟨_, rfl, hr⟩
theorem pw_in0 {L : Lv} {Ls : List Lv} (h : OkL (L :: Ls)) (u : List Int) : ∀ n : Nat, pw (mulL (L :: Ls)) (zer (L :: Ls).length) (0 :: u) n = 0 :: pw (mulL Ls) (zer Ls.length) u n
  | 0 => rfl
  | n + 1 => by rw [pw_succ, pw_succ, pw_in0 h u n, mulL_zero _ _ _ _ _ (by have := h.1; omega)]
theorem pw_sz : ∀ {Ls : List Lv}, OkL Ls → Con Ls → ∀ {a : List Int}, El Ls a → pw (mulL Ls) (zer Ls.length) a (szL Ls).toNat = zer Ls.length
  | [], _, _, a, ha => rfl
  | L :: Ls, h, C, a, ⟨x, a', ea, x0, x1, ha⟩ => by
    subst ea
    have M := Con.mon h C
    have eA : El (L :: Ls) (x :: a') := ⟨x, a', rfl, x0, x1, ha⟩
    have h2 := h.1
    have hs := szL_pos h.2.2.2.2
    have e : (szL (L :: Ls)).toNat = L.o.toNat * (szL Ls).toNat := by
      show (L.o * szL Ls).toNat = _
      have : L.o * szL Ls = ((L.o.toNat * (szL Ls).toNat : Nat) : Int) := by rw [Int.natCast_mul, Int.toNat_of_nonneg (by omega), Int.toNat_of_nonneg (by omega)]
      rw [this, Int.toNat_natCast]
    obtain ⟨t, et, ht⟩ := pw_head h x0 x1 ha L.o.toNat
    rw [Int.toNat_of_nonneg (by omega), Int.mul_emod_right] at et
    rw [e, M.pw_mul eA, et, pw_in0 h, pw_sz h.2.2.2.2 C.2 ht]
    rfl
/-- A power with any exponent is the one with its residue. -/
theorem pw_res {Ls : List Lv} (h : OkL Ls) (C : Con Ls) {a : List Int} (ha : El Ls a) (k : Nat) : pw (mulL Ls) (zer Ls.length) a (k % (szL Ls).toNat) = pw (mulL Ls) (zer Ls.length) a k := (Con.mon h C).pw_mod ha (pw_sz h C ha) k
/-- The power with a negative exponent by the residue. -/
theorem pw_neg {Ls : List Lv} (h : OkL Ls) (C : Con Ls) {a : List Int} (ha : El Ls a) {j k : Nat} (hjk : (j + k) % (szL Ls).toNat = 0) : pw (mulL Ls) (zer Ls.length) a j = pw (mulL Ls) (zer Ls.length) (invL Ls a) k := by
  have M := Con.mon h C
  have ia := inv_El h ha
  have h1 : pw (mulL Ls) (zer Ls.length) a (k + j) = zer Ls.length := by rw [Nat.add_comm, ← pw_res h C ha, hjk]; rfl
  rw [M.pw_add ha] at h1
  exact M.inv_unique (rinv h C) (M.pw_P ha k) (M.pw_P ha j) (M.pw_P ia k) h1 (M.pw_inv (rinv h C) ha ia (inv_mul h C ha) k)
/-- The value of a power with any exponent. -/
def powZ (Ls : List Lv) (a : List Int) (k : Int) : List Int := if k < 0 then pw (mulL Ls) (zer Ls.length) (invL Ls a) (-k).toNat else pw (mulL Ls) (zer Ls.length) a k.toNat
theorem powZ_mod {Ls : List Lv} (h : OkL Ls) (C : Con Ls) {a : List Int} (ha : El Ls a) (k : Int) : pw (mulL Ls) (zer Ls.length) a (k % szL Ls).toNat = powZ Ls a k := by
  have hs := szL_pos h
  unfold powZ
  have e0 := Int.emod_nonneg k (show szL Ls ≠ 0 by omega)
  split
  · next hk =>
    apply pw_neg h C ha
    have : (((k % szL Ls).toNat + (-k).toNat : Nat) : Int) % ((szL Ls).toNat : Int) = 0 := by
      rw [Int.natCast_add, Int.toNat_of_nonneg e0, Int.toNat_of_nonneg (by omega), Int.toNat_of_nonneg (by omega), Int.emod_add_emod]
      rw [Int.add_right_neg]
      exact Int.zero_emod _
    omega
  · next hk =>
    rw [← pw_res h C ha k.toNat]
    congr 1
    have : (((k % szL Ls).toNat : Nat) : Int) = ((k.toNat % (szL Ls).toNat : Nat) : Int) := by
      rw [Int.natCast_emod, Int.toNat_of_nonneg e0, Int.toNat_of_nonneg (by omega), Int.toNat_of_nonneg (by omega)]
    omega
/-- Powers by squaring: what is still to be multiplied. -/
theorem sq_step {α : Type} {P : α → Prop} {m : α → α → α} {e : α} (M : Mon P m e) {p s : α} (hp : P p) (hs : P s) (r : Nat) :
    m p (pw m e s r) = if r % 2 = 1 then m (m p s) (pw m e (m s s) (r / 2)) else m p (pw m e (m s s) (r / 2)) := by
  split
  · next h =>
    have : r = 2 * (r / 2) + 1 := by omega
    conv => lhs; rw [this, M.pw_odd hs]
    rw [M.assoc _ _ _ hp hs (M.pw_P (M.op _ _ hs hs) _)]
  · next h =>
    have : r = 2 * (r / 2) := by omega
    conv => lhs; rw [this, M.pw_two hs]

/-! ### The way to the inverse: letter by letter -/
/-- At generator k, c letters put behind T: what is left is s. -/
structure InvS (Ls : List Lv) (a : List Int) (k : Nat) (T : List Int) (c : Int) (s : List Int) : Prop where
  lt : k < Ls.length
  len : T.length = k
  elT : El Ls (T ++ c :: zer (Ls.length - (k + 1)))
  elS : El (Ls.drop k) s
  hd : s.headD 0 = 0 ∨ c + 1 ≤ s.headD 0
  mul : mulL Ls a (T ++ c :: zer (Ls.length - (k + 1))) = zer k ++ s
theorem InvS.start {Ls : List Lv} {a : List Int} (h : OkL Ls) (C : Con Ls) (ha : El Ls a) (h0 : 0 < Ls.length) : InvS Ls a 0 [] 0 a := by
  have e : ([] : List Int) ++ 0 :: zer (Ls.length - (0 + 1)) = zer Ls.length := by
    rw [List.nil_append, ← zer_succ]; congr 1; omega
  refine ⟨h0, rfl, by rw [e]; exact zer_El h, ha, ?_, by rw [e, (Con.mon h C).oner _ ha]; rfl⟩
  match Ls, h0, ha with
  | L :: Ls, _, ⟨x, a', ea, x0, x1, _⟩ => subst ea; show x = 0 ∨ 0 + 1 ≤ x; omega
theorem InvS.step {Ls : List Lv} {a T s : List Int} {k : Nat} {c : Int} (h : OkL Ls) (C : Con Ls) (ha : El Ls a) (I : InvS Ls a k T c s) (hs : s.headD 0 ≠ 0) :
    InvS Ls a k T (c + 1) (mulL (Ls.drop k) s (genL (Ls.drop k))) ∧ numL Ls (T ++ (c + 1) :: zer (Ls.length - (k + 1))) = numL Ls (T ++ c :: zer (Ls.length - (k + 1))) + szL (Ls.drop (k + 1)) := by
  have M := Con.mon h C
  have hl := I.len
  have hlt := I.lt
  have hOd := OkL.drop k h
  have hCd := Con.drop k C
  obtain ⟨L, Ls', hd⟩ : ∃ L Ls', Ls.drop k = L :: Ls' := ⟨_, _, List.drop_eq_getElem_cons hlt⟩
  have hd1 : Ls.drop (k + 1) = Ls' := by rw [← List.drop_drop (i := 1) (j := k), hd]; rfl
  have hlen' : Ls'.length = Ls.length - (k + 1) := by rw [← hd1, List.length_drop]
  have eS := I.elS
  have eT := I.elT
  have eTd := El.drop k eT
  have hcut : (T ++ c :: zer (Ls.length - (k + 1))).drop k = c :: zer Ls'.length := by rw [List.drop_append_of_le_length (by omega), List.drop_of_length_le (by omega), List.nil_append, hlen']
  have htake : (T ++ c :: zer (Ls.length - (k + 1))).take k = T := by rw [List.take_append_of_le_length (by omega), List.take_of_length_le (by omega)]
  rw [hcut, hd] at eTd
  rw [hd] at eS
  obtain ⟨c', _, ec, c0, c1, _⟩ := eTd
  obtain ⟨rfl, rfl⟩ := List.cons.inj ec
  obtain ⟨y, s', rfl, y0, y1, hs'⟩ := eS
  have hy : y ≠ 0 := hs
  have hcy : c + 1 ≤ y := by
    rcases I.hd with h | h
    · exact absurd h hs
    · exact h
  have hOd' := hOd
  rw [hd] at hOd'
  have hCd' := hCd
  rw [hd] at hCd'
  have M' := Con.mon hOd'.2.2.2.2 hCd'.2
  have hg := genL_El hOd
  have hG : El Ls (zer k ++ genL (Ls.drop k)) := zer_put h k hg (by omega)
  have eU : mulL Ls (T ++ c :: zer (Ls.length - (k + 1))) (zer k ++ genL (Ls.drop k)) = T ++ (c + 1) :: zer (Ls.length - (k + 1)) := by
    rw [mul_cut k eT (by omega), hcut, htake, hd]
    congr 1
    show mulL (L :: Ls') (c :: zer Ls'.length) (1 :: zer Ls'.length) = _
    rw [mulL_cons, if_neg (by omega), iter_fix (img_zer L Ls'), M'.onel _ M'.one, hlen']
  have eT2 : El Ls (T ++ (c + 1) :: zer (Ls.length - (k + 1))) := by rw [← eU]; exact M.op _ _ eT hG
  have hz : El Ls (zer k ++ (y :: s')) := zer_put h k (by rw [hd]; exact ⟨y, s', rfl, y0, y1, hs'⟩) (by omega)
  refine ⟨⟨hlt, hl, eT2, El.mul hOd (by rw [hd]; exact ⟨y, s', rfl, y0, y1, hs'⟩) hg, ?_, ?_⟩, ?_⟩
  · rw [hd]
    show (mulL (L :: Ls') (y :: s') (1 :: zer Ls'.length)).headD 0 = 0 ∨ _ ≤ (mulL (L :: Ls') (y :: s') (1 :: zer Ls'.length)).headD 0
    rw [mulL_cons]
    split
    · left; show y + 1 - L.o = 0; omega
    · right; show c + 1 + 1 ≤ y + 1; omega
  · rw [← eU, ← M.assoc _ _ _ ha eT hG, I.mul, mul_cut k hz (by omega)]
    congr 1
    · rw [List.take_append_of_le_length (by simp)]; simp [zer]
    · rw [pad_drop]
  · have n1 := num_cut k (z := c :: zer (Ls.length - (k + 1))) eT (by omega)
    have n2 := num_cut k (z := (c + 1) :: zer (Ls.length - (k + 1))) eT (by omega)
    rw [htake] at n1 n2
    rw [n1, n2, hd, numL_cons, numL_cons, hd1, Int.add_mul]
    omega
/-- What is left has no letter of the generator. -/
theorem InvS.next {Ls : List Lv} {a T s : List Int} {k : Nat} {c : Int} (h : OkL Ls) (I : InvS Ls a k T c s) (hs : s.headD 0 = 0) (hk : k + 1 < Ls.length) :
    InvS Ls a (k + 1) (T ++ [c]) 0 s.tail ∧ numL (Ls.drop k) s = numL (Ls.drop (k + 1)) s.tail ∧ T ++ [c] ++ 0 :: zer (Ls.length - (k + 1 + 1)) = T ++ c :: zer (Ls.length - (k + 1)) := by
  have hlt := I.lt
  have hl := I.len
  obtain ⟨L, Ls', hd⟩ : ∃ L Ls', Ls.drop k = L :: Ls' := ⟨_, _, List.drop_eq_getElem_cons hlt⟩
  have hd1 : Ls.drop (k + 1) = Ls' := by rw [← List.drop_drop (i := 1) (j := k), hd]; rfl
  have eS := I.elS
  rw [hd] at eS
  obtain ⟨y, s', rfl, y0, y1, hs'⟩ := eS
  obtain rfl : y = 0 := hs
  have e : T ++ [c] ++ 0 :: zer (Ls.length - (k + 1 + 1)) = T ++ c :: zer (Ls.length - (k + 1)) := by
    rw [List.append_assoc, ← zer_succ, show Ls.length - (k + 1 + 1) + 1 = Ls.length - (k + 1) by omega]
    rfl
  refine ⟨⟨hk, by simp [hl], by rw [e]; exact I.elT, by rw [hd1]; exact hs', ?_, ?_⟩, ?_, e⟩
  · rw [← hd1] at hs'
    obtain ⟨L2, Ls2, hd2⟩ : ∃ L Ls', Ls.drop (k + 1) = L :: Ls' := ⟨_, _, List.drop_eq_getElem_cons hk⟩
    rw [hd2] at hs'
    obtain ⟨z, s2, es, z0, z1, _⟩ := hs'
    show s'.headD 0 = 0 ∨ _ ≤ s'.headD 0
    rw [es]
    show z = 0 ∨ 0 + 1 ≤ z
    omega
  · rw [e, I.mul]
    unfold zer
    rw [List.replicate_succ', List.append_assoc]
    rfl
  · rw [hd, numL_cons, hd1]
    show 0 * _ + _ = numL Ls' s'
    omega
theorem InvS.done {Ls : List Lv} {a T s : List Int} {k : Nat} {c : Int} (h : OkL Ls) (C : Con Ls) (ha : El Ls a) (I : InvS Ls a k T c s) (hs : s.headD 0 = 0) (hk : k + 1 = Ls.length) :
    T ++ c :: zer (Ls.length - (k + 1)) = invL Ls a := by
  have hlt := I.lt
  obtain ⟨L, Ls', hd⟩ : ∃ L Ls', Ls.drop k = L :: Ls' := ⟨_, _, List.drop_eq_getElem_cons hlt⟩
  have hn : Ls' = [] := by
    have : (Ls.drop k).length = Ls.length - k := List.length_drop
    rw [hd, List.length_cons] at this
    exact List.length_eq_zero_iff.mp (by omega)
  have eS := I.elS
  rw [hd, hn] at eS
  obtain ⟨y, s', rfl, y0, y1, hs'⟩ := eS
  obtain rfl : y = 0 := hs
  obtain rfl : s' = [] := hs'
  refine inv_is h C ha I.elT ?_
  rw [I.mul, ← hk]
  unfold zer
  rw [List.replicate_succ']
/-- What is left is smaller than the letter exactly if it has none. -/
theorem InvS.small {Ls : List Lv} {a T s : List Int} {k : Nat} {c : Int} (h : OkL Ls) (I : InvS Ls a k T c s) : (numL (Ls.drop k) s < szL (Ls.drop (k + 1)) ↔ s.headD 0 = 0) ∧ 0 ≤ numL (Ls.drop k) s ∧ numL (Ls.drop k) s < szL (Ls.drop k) := by
  have hlt := I.lt
  obtain ⟨L, Ls', hd⟩ : ∃ L Ls', Ls.drop k = L :: Ls' := ⟨_, _, List.drop_eq_getElem_cons hlt⟩
  have hd1 : Ls.drop (k + 1) = Ls' := by rw [← List.drop_drop (i := 1) (j := k), hd]; rfl
  have hO := OkL.drop k h
  obtain ⟨r0, r1⟩ := numL_rng hO I.elS
  refine ⟨?_, r0, r1⟩
  have eS := I.elS
  rw [hd] at eS hO ⊢
  rw [hd1]
  obtain ⟨y, s', rfl, y0, y1, hs'⟩ := eS
  obtain ⟨q0, q1⟩ := numL_rng hO.2.2.2.2 hs'
  have hp := szL_pos hO.2.2.2.2
  rw [numL_cons]
  show _ ↔ y = 0
  constructor
  · intro hh
    rcases Int.lt_or_le 0 y with h1 | h1
    · have : 1 * szL Ls' ≤ y * szL Ls' := Int.mul_le_mul_of_nonneg_right (by omega) (by omega)
      omega
    · omega
  · rintro rfl; omega
end Go.Proofs.Yteappjgdcbploaa.Num
namespace Go.Proofs.Yteappjgdcbploaa.Num

def Pr (p : Int) : Prop := 2 ≤ p ∧ ∀ x, 2 ≤ x → x < p → p % x ≠ 0

theorem cop_dvd {m a b : Int} (hg : Int.gcd a m = 1) (h : m ∣ a * b) : m ∣ b := by
  have h1 : m.natAbs ∣ a.natAbs * b.natAbs := by rw [← Int.natAbs_mul]; exact Int.natAbs_dvd_natAbs.mpr h
  have h2 : Nat.Coprime m.natAbs a.natAbs := by rw [Int.gcd_comm] at hg; exact hg
  exact Int.natAbs_dvd_natAbs.mp (h2.dvd_of_dvd_mul_left h1)
theorem cop_mul {m r x : Int} (hg : Int.gcd m r = 1) (h1 : m ∣ x) (h2 : r ∣ x) : m * r ∣ x := by
  apply Int.natAbs_dvd_natAbs.mp
  rw [Int.natAbs_mul]
  exact Nat.Coprime.mul_dvd_of_dvd_of_dvd hg (Int.natAbs_dvd_natAbs.mpr h1) (Int.natAbs_dvd_natAbs.mpr h2)
theorem cop_pow {d r : Int} (h : Int.gcd d r = 1) (e : Nat) : Int.gcd (d ^ e) r = 1 := by
  show Nat.gcd (d ^ e).natAbs r.natAbs = 1
  rw [Int.natAbs_pow]
  exact Nat.Coprime.pow_left e h
theorem pr_gcd {p a : Int} (hp : Pr p) (h : ¬ p ∣ a) : Int.gcd a p = 1 := by
  have h1 := Int.gcd_dvd_left a p
  have h2 := Int.gcd_dvd_right a p
  have hp2 := hp.1
  have hle := Int.le_of_dvd (by omega) h2
  have h0 : (Int.gcd a p : Int) ≠ 0 := by
    intro e
    have : Int.gcd a p = 0 := by omega
    rw [Int.gcd_eq_zero_iff] at this
    omega
  by_cases he : (Int.gcd a p : Int) = p
  · rw [he] at h1; exact absurd h1 h
  · by_cases h2' : 2 ≤ (Int.gcd a p : Int)
    · exact absurd (Int.emod_eq_zero_of_dvd h2) (hp.2 _ h2' (by omega))
    · omega
theorem pr_mul {p a b : Int} (hp : Pr p) (h : p ∣ a * b) : p ∣ a ∨ p ∣ b := by
  by_cases ha : p ∣ a
  · exact .inl ha
  · exact .inr (cop_dvd (pr_gcd hp ha) h)

/-! Fermat. -/
def prod (l : List Int) : Int := l.foldr (· * ·) 1
theorem prod_cons (a : Int) (l : List Int) : prod (a :: l) = a * prod l := rfl
theorem prod_erase (l : List Int) (a : Int) (h : a ∈ l) : prod l = a * prod (l.erase a) := by
  induction l with
  | nil => simp at h
  | cons b t ih =>
    by_cases hb : b = a
    · subst hb; simp [prod_cons]
    · have hm : a ∈ t := by
        rcases List.mem_cons.mp h with h | h
        · exact absurd h.symm hb
        · exact h
      rw [List.erase_cons_tail (by simpa using hb), prod_cons, prod_cons, ih hm, Int.mul_left_comm]
theorem prod_sub (l1 : List Int) : ∀ l2 : List Int, l1.Nodup → l1.length = l2.length → (∀ x ∈ l1, x ∈ l2) → prod l1 = prod l2 := by
  induction l1 with
  | nil => intro l2 _ hl _; cases l2 <;> simp_all
  | cons a t ih =>
    intro l2 hn hl hs
    have ha : a ∈ l2 := hs a (by simp)
    have hn' := List.nodup_cons.mp hn
    rw [prod_erase l2 a ha, prod_cons, ih (l2.erase a) hn'.2 ?_ ?_]
    · rw [List.length_erase_of_mem ha]; simp at hl; omega
    · intro x hx
      have hne : x ≠ a := by intro e; subst e; exact hn'.1 hx
      exact (List.mem_erase_of_ne hne).mpr (hs x (by simp [hx]))
def R1 (n : Nat) : List Int := (List.range n).map fun (i : Nat) => (i : Int) + 1
theorem mem_R1 {n : Nat} {x : Int} : x ∈ R1 n ↔ 1 ≤ x ∧ x ≤ n := by
  simp only [R1, List.mem_map, List.mem_range]
  constructor
  · rintro ⟨i, hi, rfl⟩; omega
  · rintro ⟨h1, h2⟩; exact ⟨(x - 1).toNat, by omega, by omega⟩
theorem nodup_map_of_inj {f : Int → Int} : ∀ (l : List Int), l.Nodup → (∀ x ∈ l, ∀ y ∈ l, f x = f y → x = y) → (l.map f).Nodup := by
  intro l
  induction l with
  | nil => intro _ _; simp
  | cons a t ih =>
    intro hn hi
    have hn' := List.nodup_cons.mp hn
    rw [List.map_cons, List.nodup_cons]
    refine ⟨?_, ih hn'.2 fun x hx y hy => hi x (by simp [hx]) y (by simp [hy])⟩
    intro hm
    obtain ⟨x, hx, he⟩ := List.mem_map.mp hm
    have := hi x (by simp [hx]) a (by simp) he
    subst this
    exact hn'.1 hx
theorem nodup_R1 (n : Nat) : (R1 n).Nodup := by
  induction n with
  | zero => simp [R1]
  | succ n ih =>
    have e : R1 (n + 1) = R1 n ++ [(n : Int) + 1] := by simp [R1, List.range_succ]
    rw [e, List.nodup_append]
    refine ⟨ih, by simp, ?_⟩
    intro a ha b hb hab
    have := mem_R1.mp ha
    simp at hb
    omega
theorem prod_map_mod (v p : Int) (l : List Int) : prod (l.map fun x => v * x % p) % p = v ^ l.length * prod l % p := by
  induction l with
  | nil => simp [prod]
  | cons a t ih =>
    rw [List.map_cons, prod_cons, prod_cons, List.length_cons, Int.pow_succ, mul_mod_left, ← mul_mod_right, ih, mul_mod_right]
    congr 1
    simp only [Int.mul_assoc, Int.mul_left_comm, Int.mul_comm]
theorem prod_R1_cop {p : Int} (hp : Pr p) : ∀ l : List Int, (∀ x ∈ l, 1 ≤ x ∧ x < p) → ¬ p ∣ prod l := by
  intro l
  induction l with
  | nil =>
    intro _ h
    have := Int.le_of_dvd (by decide) h
    have := hp.1
    simp [prod] at *
    omega
  | cons a t ih =>
    intro h hd
    rw [prod_cons] at hd
    rcases pr_mul hp hd with h1 | h1
    · have := h a (by simp)
      have := Int.le_of_dvd (by omega) h1
      omega
    · exact ih (fun x hx => h x (by simp [hx])) h1
theorem fermat {p v : Int} (hp : Pr p) (hv : ¬ p ∣ v) : p ∣ v ^ (p - 1).toNat - 1 := by
  have hp2 := hp.1
  have hlen : (R1 (p - 1).toNat).length = (p - 1).toNat := by simp [R1]
  have hmem : ∀ x ∈ R1 (p - 1).toNat, 1 ≤ x ∧ x < p := fun x hx => by have := mem_R1.mp hx; omega
  have hperm : prod ((R1 (p - 1).toNat).map fun x => v * x % p) = prod (R1 (p - 1).toNat) := by
    apply prod_sub
    · apply nodup_map_of_inj _ (nodup_R1 _)
      intro x hx y hy he
      have h1 := hmem x hx
      have h2 := hmem y hy
      have hd : p ∣ v * (x - y) := by
        rw [Int.mul_sub]
        apply Int.dvd_of_emod_eq_zero
        rw [← Int.emod_eq_emod_iff_emod_sub_eq_zero]
        exact he
      rcases pr_mul hp hd with h | h
      · exact absurd h hv
      · obtain ⟨c, hc⟩ := h
        have : c = 0 := by
          rcases Int.lt_trichotomy c 0 with h0 | h0 | h0
          · have : p * c ≤ p * (-1) := Int.mul_le_mul_of_nonneg_left (by omega) (by omega)
            omega
          · exact h0
          · have : p * 1 ≤ p * c := Int.mul_le_mul_of_nonneg_left (by omega) (by omega)
            omega
        subst this
        omega
    · simp
    · intro y hy
      obtain ⟨x, hx, rfl⟩ := List.mem_map.mp hy
      have h1 := hmem x hx
      have b := mod_bd (v * x) (m := p) (by omega)
      apply mem_R1.mpr
      have h0 : v * x % p ≠ 0 := by
        intro h
        rcases pr_mul hp (Int.dvd_of_emod_eq_zero h) with h | h
        · exact hv h
        · have := Int.le_of_dvd (by omega) h; omega
      omega
  have h1 := prod_map_mod v p (R1 (p - 1).toNat)
  rw [hperm, hlen] at h1
  have h2 : p ∣ prod (R1 (p - 1).toNat) * (v ^ (p - 1).toNat - 1) := by
    rw [Int.mul_sub, Int.mul_one, Int.mul_comm]
    apply Int.dvd_of_emod_eq_zero
    rw [← Int.emod_eq_emod_iff_emod_sub_eq_zero]
    exact h1.symm
  rcases pr_mul hp h2 with h | h
  · exact absurd h (prod_R1_cop hp _ hmem)
  · exact h

/-! From p to its powers. -/
def geo (a : Int) : Nat → Int
  | 0 => 0
  | n + 1 => geo a n * a + 1
theorem geo_mul (a : Int) (n : Nat) : (a - 1) * geo a n = a ^ n - 1 := by
  induction n with
  | zero => simp [geo]
  | succ n ih =>
    rw [geo, Int.mul_add, ← Int.mul_assoc, ih, Int.pow_succ, Int.sub_mul]
    omega
theorem geo_mod {a p : Int} (h : p ∣ a - 1) (n : Nat) : p ∣ geo a n - n := by
  induction n with
  | zero => simp [geo]
  | succ n ih =>
    have e : geo a (n + 1) - ((n + 1 : Nat) : Int) = geo a n * (a - 1) + (geo a n - n) := by
      rw [geo, Int.mul_sub]; omega
    rw [e]
    exact Int.dvd_add (Int.dvd_mul_of_dvd_right h) ih
theorem pow_one_dvd {m a : Int} (h : m ∣ a - 1) (k : Nat) : m ∣ a ^ k - 1 := by
  rw [← geo_mul]
  exact Int.dvd_mul_of_dvd_left h
theorem lift_pow {p a : Int} {k : Nat} (hp : 2 ≤ p) (h : p ^ (k + 1) ∣ a - 1) : p ^ (k + 2) ∣ a ^ p.toNat - 1 := by
  have h1 : p ∣ a - 1 := Int.dvd_trans (by rw [Int.pow_succ]; exact Int.dvd_mul_left _ _) h
  have h2 := geo_mod h1 p.toNat
  have h3 : p ∣ geo a p.toNat := by
    have : geo a p.toNat = (geo a p.toNat - (p.toNat : Int)) + p := by omega
    rw [this]
    exact Int.dvd_add h2 (Int.dvd_refl _)
  rw [← geo_mul, Int.pow_succ]
  exact Int.mul_dvd_mul h h3
theorem euler_pow {p v : Int} (hp : Pr p) (hv : ¬ p ∣ v) (k : Nat) : p ^ (k + 1) ∣ v ^ (p.toNat ^ k * (p - 1).toNat) - 1 := by
  induction k with
  | zero =>
    have h := fermat hp hv
    rw [Int.pow_succ, Int.pow_zero, Int.one_mul, Nat.pow_zero, Nat.one_mul]
    exact h
  | succ k ih =>
    have := lift_pow hp.1 ih
    rw [← Int.pow_mul] at this
    have e : p.toNat ^ k * (p - 1).toNat * p.toNat = p.toNat ^ (k + 1) * (p - 1).toNat := by
      rw [Nat.pow_succ, Nat.mul_assoc, Nat.mul_comm _ p.toNat, ← Nat.mul_assoc]
    rwa [e] at this

/-! Trial division finds primes. -/
def NoDiv (d n : Int) : Prop := ∀ x, 2 ≤ x → x < d → n % x ≠ 0
theorem noDiv_start (n : Int) : NoDiv 2 n := fun x h1 h2 => by omega
theorem noDiv_skip {d n : Int} (h : NoDiv d n) (hm : n % d ≠ 0) : NoDiv (d + 1) n := fun x h1 h2 => by
  by_cases hx : x = d
  · subst hx; exact hm
  · exact h x h1 (by omega)
theorem vr_dvd {d n : Int} (hd : 2 ≤ d) (hn : 1 ≤ n) : vr d n ∣ n := by
  have := pp_mul hd hn
  exact ⟨pp d n, by rw [Int.mul_comm]; exact this⟩
theorem noDiv_vr {d n : Int} (hd : 2 ≤ d) (hn : 1 ≤ n) (h : NoDiv d n) : NoDiv (d + 1) (vr d n) := fun x h1 h2 hx => by
  by_cases hxd : x = d
  · subst hxd; exact (v_all hd n.toNat n (Nat.le_refl _) hn).2.2 hx
  · exact h x h1 (by omega) (Int.emod_eq_zero_of_dvd (Int.dvd_trans (Int.dvd_of_emod_eq_zero hx) (vr_dvd hd hn)))
theorem pr_div {d n : Int} (hd : 2 ≤ d) (h : NoDiv d n) (hm : n % d = 0) : Pr d := ⟨hd, fun x h1 h2 hx =>
  h x h1 h2 (Int.emod_eq_zero_of_dvd (Int.dvd_trans (Int.dvd_of_emod_eq_zero hx) (Int.dvd_of_emod_eq_zero hm)))⟩
theorem pr_last {d n : Int} (hd : 2 ≤ d) (h : NoDiv d n) (hs : n < d * d) (hn : 1 < n) : Pr n := ⟨by omega, fun x h1 h2 hx => by
  obtain ⟨y, hy⟩ := Int.dvd_of_emod_eq_zero hx
  have hy2 : 2 ≤ y := by
    rcases Int.lt_or_le y 2 with h0 | h0
    · exfalso
      have : x * y ≤ x * 1 := Int.mul_le_mul_of_nonneg_left (by omega) (by omega)
      omega
    · exact h0
  by_cases hxd : x < d
  · exact h x h1 hxd hx
  · by_cases hyd : y < d
    · exact h y hy2 hyd (Int.emod_eq_zero_of_dvd ⟨x, by rw [Int.mul_comm]; exact hy⟩)
    · have : d * d ≤ x * y := Int.mul_le_mul (by omega) (by omega) (by omega) (by omega)
      omega⟩

/-- The product of the prime powers, and the number of units. -/
def prodL (l : List (Int × Int)) : Int := l.foldr (fun x a => x.1 ^ x.2.toNat * a) 1
def phiL (l : List (Int × Int)) : Int := l.foldr (fun x a => x.1 ^ (x.2 - 1).toNat * (x.1 - 1) * a) 1
theorem prodL_cons (x : Int × Int) (l : List (Int × Int)) : prodL (x :: l) = x.1 ^ x.2.toNat * prodL l := rfl
theorem phiL_cons (x : Int × Int) (l : List (Int × Int)) : phiL (x :: l) = x.1 ^ (x.2 - 1).toNat * (x.1 - 1) * phiL l := rfl
/-- All that holds of the list. -/
structure FacOk (n : Int) (l : List (Int × Int)) : Prop where
  pr : ∀ x ∈ l, Pr x.1 ∧ 1 ≤ x.2
  mul : prodL l = n
  phi : 1 ≤ phiL l
  euler : ∀ v, Int.gcd v n = 1 → n ∣ v ^ (phiL l).toNat - 1
theorem gcd_of_dvd {v n d : Int} (h : Int.gcd v n = 1) (hd : d ∣ n) : Int.gcd v d = 1 := by
  have h1 : Int.gcd v d ∣ Int.gcd v n := Int.dvd_gcd (Int.gcd_dvd_left v d) (Int.dvd_trans (Int.gcd_dvd_right v d) hd)
  rw [h] at h1
  exact Nat.dvd_one.mp h1
theorem not_dvd_of_gcd {v p : Int} (hp : Pr p) (h : Int.gcd v p = 1) : ¬ p ∣ v := fun hd => by
  have h1 : p.natAbs ∣ Int.gcd v p := Int.dvd_gcd (by rwa [Int.natAbs_dvd]) (by rw [Int.natAbs_dvd]; exact Int.dvd_refl _)
  rw [h] at h1
  have := Nat.dvd_one.mp h1
  have := hp.1
  omega
theorem facOk_one : FacOk 1 [] := ⟨by simp, rfl, by decide, fun v _ => Int.one_dvd _⟩
theorem facOk_cons {p e r : Int} {l : List (Int × Int)} (hp : Pr p) (he : 1 ≤ e) (hpr : ¬ p ∣ r) (h : FacOk r l) : FacOk (p ^ e.toNat * r) ((p, e) :: l) := by
  have hp2 := hp.1
  have hpow : 0 < p ^ (e - 1).toNat := Int.pow_pos (by omega)
  have hpp : 0 < p ^ (e - 1).toNat * (p - 1) := Int.mul_pos hpow (by omega)
  have hphi := h.phi
  refine ⟨?_, ?_, ?_, ?_⟩
  · intro x hx
    rcases List.mem_cons.mp hx with rfl | hx
    · exact ⟨hp, he⟩
    · exact h.pr x hx
  · rw [prodL_cons, h.mul]
  · rw [phiL_cons]
    have : 0 < p ^ (e - 1).toNat * (p - 1) * phiL l := Int.mul_pos hpp (by omega)
    exact this
  · intro v hv
    rw [phiL_cons]
    have hee : e.toNat = (e - 1).toNat + 1 := by omega
    have hcop : Int.gcd (p ^ e.toNat) r = 1 := cop_pow (by rw [Int.gcd_comm]; exact pr_gcd hp hpr) _
    have hvp : Int.gcd v p = 1 := gcd_of_dvd hv (Int.dvd_mul_of_dvd_left (by rw [hee, Int.pow_succ]; exact Int.dvd_mul_left _ _))
    have hvr : Int.gcd v r = 1 := gcd_of_dvd hv (Int.dvd_mul_left _ _)
    have hN : (p ^ (e - 1).toNat * (p - 1) * phiL l).toNat = (p.toNat ^ (e - 1).toNat * (p - 1).toNat) * (phiL l).toNat := by
      have e1 : p ^ (e - 1).toNat * (p - 1) * phiL l = (((p.toNat ^ (e - 1).toNat * (p - 1).toNat) * (phiL l).toNat : Nat) : Int) := by
        rw [Int.natCast_mul, Int.natCast_mul, Int.natCast_pow, Int.toNat_of_nonneg (by omega), Int.toNat_of_nonneg (by omega), Int.toNat_of_nonneg (by omega)]
      rw [e1, Int.toNat_natCast]
    rw [hN]
    apply cop_mul hcop
    · rw [Int.pow_mul]
      apply pow_one_dvd
      rw [hee]
      exact euler_pow hp (not_dvd_of_gcd hp hvp) _
    · rw [Nat.mul_comm, Int.pow_mul]
      exact pow_one_dvd (h.euler v hvr) _
theorem facOk_last {p : Int} (hp : Pr p) : FacOk p [(p, 1)] := by
  have h := facOk_cons (r := 1) (e := 1) hp (by omega) (fun hdv => by have := Int.le_of_dvd (by omega) hdv; have := hp.1; omega) facOk_one
  have e : p ^ (1 : Int).toNat * 1 = p := by
    show p ^ 1 * 1 = p
    rw [Int.pow_succ, Int.pow_zero]; omega
  rwa [e] at h
theorem facOk (k : Nat) : ∀ d n : Int, (n - d).toNat ≤ k → 2 ≤ d → 1 ≤ n → NoDiv d n → FacOk n (facL d n) := by
  induction k with
  | zero =>
    intro d n hk hd hn h
    by_cases hs : d * d ≤ n
    · have := sq_big hd hs; omega
    · by_cases h1 : 1 < n
      · rw [facL_last (by omega) h1]
        exact facOk_last (pr_last hd h (by omega) h1)
      · obtain rfl : n = 1 := by omega
        rw [facL_one hd]; exact facOk_one
  | succ k ih =>
    intro d n hk hd hn h
    by_cases hs : d * d ≤ n
    · have hlt := sq_big hd hs
      by_cases hm : n % d = 0
      · rw [facL_div hd hs hm]
        have hv := vr_bd (p := d) hd hn
        have hr := ih (d + 1) (vr d n) (by omega) (by omega) hv.1 (noDiv_vr hd hn h)
        have hpos := ve_pos hd hn hm
        have hnd : ¬ d ∣ vr d n := fun hdv => (v_all hd n.toNat n (Nat.le_refl _) hn).2.2 (Int.emod_eq_zero_of_dvd hdv)
        have := facOk_cons (e := ve d n) (pr_div hd h hm) (by omega) hnd hr
        have e : d ^ (ve d n).toNat * vr d n = n := (pp_mul hd hn).symm
        rwa [e] at this
      · rw [facL_skip hd hs hm]
        exact ih (d + 1) n (by omega) (by omega) hn (noDiv_skip h hm)
    · by_cases h1 : 1 < n
      · rw [facL_last (by omega) h1]
        exact facOk_last (pr_last hd h (by omega) h1)
      · obtain rfl : n = 1 := by omega
        rw [facL_one hd]; exact facOk_one
theorem fac_ok {n : Int} (hn : 1 ≤ n) : FacOk n (facL 2 n) := facOk _ 2 n (Nat.le_refl _) (by omega) hn (noDiv_start n)
end Go.Proofs.Yteappjgdcbploaa.Num
namespace Go.Proofs.Yteappjgdcbploaa.Num

/-- The least exponent of at least 1 with the power 1. -/
def IsOrd (v m k : Int) : Prop := 1 ≤ k ∧ v ^ k.toNat % m = 1 % m ∧ ∀ j, 1 ≤ j → j < k → v ^ j.toNat % m ≠ 1 % m
noncomputable def ordM (v m : Int) : Int := Classical.epsilon (IsOrd v m)
theorem isOrd_unique {v m a b : Int} (h : IsOrd v m a) (k : IsOrd v m b) : a = b := by
  rcases Int.lt_trichotomy a b with h1 | h1 | h1
  · exact absurd h.2.1 (k.2.2 a h.1 h1)
  · exact h1
  · exact absurd k.2.1 (h.2.2 b k.1 h1)
theorem isOrd_ex {v m : Int} (n : Nat) : ∀ k : Int, k.toNat ≤ n → 1 ≤ k → v ^ k.toNat % m = 1 % m → ∃ o, IsOrd v m o ∧ o ≤ k := by
  induction n with
  | zero => intro k h1 h2; omega
  | succ n ih =>
    intro k h1 h2 h3
    by_cases h : ∀ j, 1 ≤ j → j < k → v ^ j.toNat % m ≠ 1 % m
    · exact ⟨k, ⟨h2, h3, h⟩, Int.le_refl _⟩
    · have h : ∃ j, 1 ≤ j ∧ j < k ∧ v ^ j.toNat % m = 1 % m := by
        apply Classical.byContradiction
        intro hn
        apply h
        intro j j1 j2 j3
        exact hn ⟨j, j1, j2, j3⟩
      obtain ⟨j, j1, j2, j3⟩ := h
      obtain ⟨o, ho, hle⟩ := ih j (by omega) j1 j3
      exact ⟨o, ho, by omega⟩
theorem pow_one_mod {v m : Int} {a : Nat} (h : v ^ a % m = 1 % m) (b : Nat) : v ^ (a * b) % m = 1 % m := by
  rw [Int.pow_mul, ← pow_mod, h, pow_mod]
  congr 1
  induction b with
  | zero => simp
  | succ b ih => rw [Int.pow_succ, ih]; simp
theorem isOrd_dvd {v m o : Int} (h : IsOrd v m o) {k : Int} (hk : 0 ≤ k) (hv : v ^ k.toNat % m = 1 % m) : o ∣ k := by
  have ho := h.1
  have b := mod_bd k (m := o) (by omega)
  by_cases h0 : k % o = 0
  · exact Int.dvd_of_emod_eq_zero h0
  · exfalso
    apply h.2.2 (k % o) (by omega) (by omega)
    have hq : 0 ≤ k / o := Int.ediv_nonneg hk (by omega)
    have e : k.toNat = o.toNat * (k / o).toNat + (k % o).toNat := by
      have h1 : k = ((o.toNat * (k / o).toNat + (k % o).toNat : Nat) : Int) := by
        rw [Int.natCast_add, Int.natCast_mul, Int.toNat_of_nonneg (by omega), Int.toNat_of_nonneg hq, Int.toNat_of_nonneg b.1]
        have := Int.emod_add_mul_ediv k o
        omega
      have h2 := congrArg Int.toNat h1
      rwa [Int.toNat_natCast] at h2
    rw [e, Int.pow_add, ← mul_mod_left, pow_one_mod h.2.1, mul_mod_left, Int.one_mul] at hv
    exact hv

def phi (m : Int) : Int := phiL (facL 2 m)
theorem pow_phi {v m : Int} (hm : 1 ≤ m) (hg : Int.gcd v m = 1) : v ^ (phi m).toNat % m = 1 % m := by
  rw [Int.emod_eq_emod_iff_emod_sub_eq_zero]
  exact Int.emod_eq_zero_of_dvd ((fac_ok hm).euler v hg)
theorem phi_pos {m : Int} (hm : 1 ≤ m) : 1 ≤ phi m := (fac_ok hm).phi
theorem ord_spec {v m : Int} (hm : 1 ≤ m) (hg : Int.gcd v m = 1) : IsOrd v m (ordM v m) ∧ ordM v m ≤ phi m := by
  obtain ⟨o, ho, hle⟩ := isOrd_ex (phi m).toNat (phi m) (Nat.le_refl _) (phi_pos hm) (pow_phi hm hg)
  have h := Classical.epsilon_spec (p := IsOrd v m) ⟨o, ho⟩
  have e : ordM v m = o := isOrd_unique h ho
  rw [e]
  exact ⟨ho, hle⟩
theorem ord_is {v m k : Int} (h : IsOrd v m k) : ordM v m = k := isOrd_unique (Classical.epsilon_spec (p := IsOrd v m) ⟨k, h⟩) h

/-! The number of units, counted prime by prime. -/
theorem phiL_append (a b : List (Int × Int)) : phiL (a ++ b) = phiL a * phiL b := by
  induction a with
  | nil => simp [phiL]
  | cons x t ih => rw [List.cons_append, phiL_cons, phiL_cons, ih]; simp only [Int.mul_assoc]
def CuInv (m u : Int) (j : Nat) : Prop := 1 ≤ u ∧ u ≤ m ∧ u = phiL ((facL 2 m).take j) * prodL ((facL 2 m).drop j)
theorem cuInv_start {m : Int} (hm : 1 ≤ m) : CuInv m m 0 := ⟨hm, Int.le_refl _, by
  have h := (fac_ok hm).mul
  simp only [List.take_zero, List.drop_zero]
  rw [h]; simp [phiL]⟩
theorem cuInv_end {m u : Int} {j : Nat} (h : CuInv m u j) (hj : (facP 2 m).length ≤ j) : u = phi m ∧ 1 ≤ phi m ∧ phi m ≤ m := by
  obtain ⟨h1, h2, h3⟩ := h
  have hl : (facL 2 m).length ≤ j := by simpa [facP] using hj
  rw [List.take_of_length_le hl, List.drop_eq_nil_of_le hl] at h3
  have : u = phi m := by rw [h3]; simp [prodL, phi]
  omega
theorem cuInv_step {m u : Int} {j : Nat} (hm : 1 ≤ m) (h : CuInv m u j) (hj : j < (facP 2 m).length) :
    2 ≤ (facP 2 m).getD j 0 ∧ (facP 2 m).getD j 0 ≤ m ∧ 0 ≤ u / (facP 2 m).getD j 0 ∧ u / (facP 2 m).getD j 0 ≤ m ∧ CuInv m (u / (facP 2 m).getD j 0 * ((facP 2 m).getD j 0 - 1)) (j + 1) := by
  obtain ⟨h1, h2, h3⟩ := h
  have hl : j < (facL 2 m).length := by simpa [facP] using hj
  have hx : (facP 2 m).getD j 0 = ((facL 2 m)[j]).1 := by simp [facP, hl]
  rw [hx]
  obtain ⟨hp, he⟩ := (fac_ok hm).pr (facL 2 m)[j] (List.getElem_mem hl)
  have hp2 := hp.1
  rw [List.drop_eq_getElem_cons hl, prodL_cons] at h3
  generalize hxx : (facL 2 m)[j] = x at *
  have hee : x.2.toNat = (x.2 - 1).toNat + 1 := by omega
  have e1 : u = x.1 * (phiL ((facL 2 m).take j) * (x.1 ^ (x.2 - 1).toNat * prodL ((facL 2 m).drop (j + 1)))) := by
    rw [h3, hee, Int.pow_succ]
    simp only [Int.mul_assoc, Int.mul_left_comm, Int.mul_comm]
  have e2 : u / x.1 = phiL ((facL 2 m).take j) * (x.1 ^ (x.2 - 1).toNat * prodL ((facL 2 m).drop (j + 1))) := by
    conv => lhs; rw [e1]
    exact Int.mul_ediv_cancel_left _ (by omega)
  have e3 : u = x.1 * (u / x.1) := by rw [e2]; exact e1
  have hq : 1 ≤ u / x.1 := by
    rcases Int.lt_or_le (u / x.1) 1 with h0 | h0
    · exfalso
      have : x.1 * (u / x.1) ≤ x.1 * 0 := Int.mul_le_mul_of_nonneg_left (by omega) (by omega)
      omega
    · exact h0
  have hq2 : 1 * (u / x.1) ≤ x.1 * (u / x.1) := Int.mul_le_mul_of_nonneg_right (by omega) (by omega)
  have hq3 : u / x.1 * 1 ≤ u / x.1 * (x.1 - 1) := Int.mul_le_mul_of_nonneg_left (by omega) (by omega)
  have hq4 : u / x.1 * (x.1 - 1) ≤ u := by rw [Int.mul_sub, Int.mul_comm, ← e3]; omega
  have hq5 : x.1 * 1 ≤ x.1 * (u / x.1) := Int.mul_le_mul_of_nonneg_left hq (by omega)
  refine ⟨hp2, by omega, by omega, by omega, by omega, by omega, ?_⟩
  rw [e2, List.take_succ_eq_append_getElem hl, phiL_append, hxx, phiL_cons]
  have : phiL [] = 1 := rfl
  rw [this, Int.mul_one]
  simp only [Int.mul_assoc, Int.mul_left_comm, Int.mul_comm]

theorem cuInv_run {m : Int} (hm : 1 ≤ m) (j : Nat) (hj : j ≤ (facP 2 m).length) : ∃ u, CuInv m u j := by
  induction j with
  | zero => exact ⟨m, cuInv_start hm⟩
  | succ j ih =>
    obtain ⟨u, hu⟩ := ih (by omega)
    exact ⟨_, (cuInv_step hm hu (by omega)).2.2.2.2⟩
theorem phi_bd {m : Int} (hm : 1 ≤ m) : 1 ≤ phi m ∧ phi m ≤ m := by
  obtain ⟨u, hu⟩ := cuInv_run hm _ (Nat.le_refl _)
  exact (cuInv_end hu (Nat.le_refl _)).2

/-! The order, by taking away primes. -/
theorem cop_prodL {q : Int} (l : List (Int × Int)) (h : ∀ x ∈ l, Pr x.1 ∧ 1 ≤ x.2) (hq : ∀ x ∈ l, ¬ x.1 ∣ q) : Int.gcd (prodL l) q = 1 := by
  induction l with
  | nil => simp [prodL]
  | cons x t ih =>
    rw [prodL_cons]
    have h1 : Int.gcd (x.1 ^ x.2.toNat) q = 1 := cop_pow (by rw [Int.gcd_comm]; exact pr_gcd (h x (by simp)).1 (hq x (by simp))) _
    have h2 := ih (fun y hy => h y (by simp [hy])) (fun y hy => hq y (by simp [hy]))
    show Nat.gcd _ _ = 1
    rw [Int.natAbs_mul]
    exact Nat.Coprime.mul_left h1 h2
theorem some_prime {N q : Int} (hN : 1 ≤ N) (hq : q ∣ N) (h1 : 1 < q) : ∃ p ∈ facP 2 N, Pr p ∧ p ∣ q := by
  apply Classical.byContradiction
  intro hn
  have hk := fac_ok hN
  have h : Int.gcd (prodL (facL 2 N)) q = 1 := cop_prodL _ hk.pr fun x hx hd => hn ⟨x.1, by simp only [facP, List.mem_map]; exact ⟨x, hx, rfl⟩, (hk.pr x hx).1, hd⟩
  rw [hk.mul] at h
  have h2 : q ∣ N * 1 := Int.dvd_mul_of_dvd_left hq
  have h3 := cop_dvd h h2
  have := Int.le_of_dvd (by omega) h3
  omega
/-- The state of the search: the primes before index j can't be taken away. -/
def OrInv (v m N c : Int) (j : Nat) : Prop :=
  1 ≤ c ∧ c ∣ N ∧ v ^ c.toNat % m = 1 % m ∧ ∀ i, i < j → ¬ (c % (facP 2 N).getD i 0 = 0 ∧ v ^ (c / (facP 2 N).getD i 0).toNat % m = 1 % m)
theorem orInv_start {v m N : Int} (hN : 1 ≤ N) (h : v ^ N.toNat % m = 1 % m) : OrInv v m N N 0 := ⟨hN, Int.dvd_refl _, h, fun i hi => by omega⟩
theorem facP_pr {N : Int} (hN : 1 ≤ N) {j : Nat} (hj : j < (facP 2 N).length) : Pr ((facP 2 N).getD j 0) := by
  have hl : j < (facL 2 N).length := by simpa [facP] using hj
  have hx : (facP 2 N).getD j 0 = ((facL 2 N)[j]).1 := by simp [facP, hl]
  rw [hx]
  exact ((fac_ok hN).pr _ (List.getElem_mem hl)).1
theorem facP_le {N : Int} (hN : 1 ≤ N) {j : Nat} (hj : j < (facP 2 N).length) : (facP 2 N).getD j 0 ≤ N := by
  obtain ⟨u, hu⟩ := cuInv_run hN j (by omega)
  exact (cuInv_step hN hu hj).2.1
theorem orInv_bd {v m N c : Int} {j : Nat} (hN : 1 ≤ N) (h : OrInv v m N c j) : 1 ≤ c ∧ c ≤ N := ⟨h.1, Int.le_of_dvd (by omega) h.2.1⟩
theorem orInv_take {v m N c p : Int} {j : Nat} (hN : 1 ≤ N) (h : OrInv v m N c j) (hj : j ≤ (facP 2 N).length) (hp : 2 ≤ p) (hd : c % p = 0) (hv : v ^ (c / p).toNat % m = 1 % m) : OrInv v m N (c / p) j ∧ c / p < c := by
  obtain ⟨h1, h2, h3, h4⟩ := h
  obtain ⟨b1, b2, b3⟩ := div_bd hp h1 hd
  refine ⟨⟨b1, Int.dvd_trans ⟨p, by rw [Int.mul_comm]; exact b3⟩ h2, hv, fun i hi hc => ?_⟩, b2⟩
  apply h4 i hi
  have hr := (facP_pr hN (j := i) (by omega)).1
  generalize (facP 2 N).getD i 0 = r at *
  obtain ⟨c1, c2⟩ := hc
  obtain ⟨y, hy⟩ := Int.dvd_of_emod_eq_zero c1
  have e1 : c = r * (p * y) := by rw [Int.mul_left_comm, ← hy]; exact b3
  have hy0 : 0 ≤ y := by
    rcases Int.lt_or_le y 0 with h0 | h0
    · exfalso
      have : r * y ≤ r * 0 := Int.mul_le_mul_of_nonneg_left (by omega) (by omega)
      omega
    · exact h0
  refine ⟨by rw [e1]; exact Int.mul_emod_right _ _, ?_⟩
  have e2 : c / r = p * y := by rw [e1]; exact Int.mul_ediv_cancel_left _ (by omega)
  have e3 : c / p / r = y := by rw [hy]; exact Int.mul_ediv_cancel_left _ (by omega)
  rw [e3] at c2
  have e4 : (c / r).toNat = y.toNat * p.toNat := by
    rw [e2, Int.mul_comm]
    have : y * p = ((y.toNat * p.toNat : Nat) : Int) := by rw [Int.natCast_mul, Int.toNat_of_nonneg hy0, Int.toNat_of_nonneg (by omega)]
    rw [this, Int.toNat_natCast]
  rw [e4]
  exact pow_one_mod c2 _
theorem orInv_next {v m N c : Int} {j : Nat} (h : OrInv v m N c j) (hn : ¬ (c % (facP 2 N).getD j 0 = 0 ∧ v ^ (c / (facP 2 N).getD j 0).toNat % m = 1 % m)) : OrInv v m N c (j + 1) := by
  obtain ⟨h1, h2, h3, h4⟩ := h
  refine ⟨h1, h2, h3, fun i hi => ?_⟩
  by_cases e : i = j
  · rw [e]; exact hn
  · exact h4 i (by omega)
theorem orInv_end {v m N c : Int} {j : Nat} (hN : 1 ≤ N) (hm : 1 ≤ m) (hg : Int.gcd v m = 1) (h : OrInv v m N c j) (hj : (facP 2 N).length ≤ j) : c = ordM v m := by
  obtain ⟨h1, h2, h3, h4⟩ := h
  obtain ⟨ho, hle⟩ := ord_spec hm hg
  obtain ⟨q, hq⟩ := isOrd_dvd ho (by omega) h3
  have ho1 := ho.1
  by_cases h5 : 1 < q
  · exfalso
    obtain ⟨p, hp, hpr, ⟨y, hy⟩⟩ := some_prime hN (Int.dvd_trans ⟨ordM v m, by rw [Int.mul_comm]; exact hq⟩ h2) h5
    obtain ⟨i, hi, he⟩ := List.mem_iff_getElem.mp hp
    have hp2 := hpr.1
    have hgd : (facP 2 N).getD i 0 = p := by rw [List.getD_eq_getElem?_getD, List.getElem?_eq_getElem hi, he]; rfl
    apply h4 i (by omega)
    rw [hgd]
    have e1 : c = p * (ordM v m * y) := by rw [hq, hy, Int.mul_left_comm]
    have hy0 : 0 ≤ y := by
      rcases Int.lt_or_le y 0 with h0 | h0
      · exfalso
        have : p * y ≤ p * 0 := Int.mul_le_mul_of_nonneg_left (by omega) (by omega)
        omega
      · exact h0
    refine ⟨by rw [e1]; exact Int.mul_emod_right _ _, ?_⟩
    have e2 : c / p = ordM v m * y := by rw [e1]; exact Int.mul_ediv_cancel_left _ (by omega)
    have e4 : (c / p).toNat = (ordM v m).toNat * y.toNat := by
      rw [e2]
      have : ordM v m * y = (((ordM v m).toNat * y.toNat : Nat) : Int) := by rw [Int.natCast_mul, Int.toNat_of_nonneg hy0, Int.toNat_of_nonneg (by omega)]
      rw [this, Int.toNat_natCast]
    rw [e4]
    exact pow_one_mod ho.2.1 _
  · have hq1 : q = 1 := by
      rcases Int.lt_or_le q 1 with h0 | h0
      · exfalso
        have : ordM v m * q ≤ ordM v m * 0 := Int.mul_le_mul_of_nonneg_left (by omega) (by omega)
        omega
      · omega
    rw [hq1] at hq
    omega
end Go.Proofs.Yteappjgdcbploaa.Num
namespace Go.Proofs.Yteappjgdcbploaa.Num
set_option linter.unusedVariables false
set_option linter.unusedSimpArgs false

section
variable {α : Type} {P : α → Prop} {m : α → α → α} {e : α}
/-- The least exponent of at least 1 with which a power is the identity. -/
def IsPer (m : α → α → α) (e x : α) (k : Int) : Prop := 1 ≤ k ∧ pw m e x k.toNat = e ∧ ∀ j : Int, 1 ≤ j → j < k → pw m e x j.toNat ≠ e
theorem isPer_unique {x : α} {a b : Int} (h : IsPer m e x a) (k : IsPer m e x b) : a = b := by
  rcases Int.lt_trichotomy a b with h1 | h1 | h1
  · exact absurd h.2.1 (k.2.2 a h.1 h1)
  · exact h1
  · exact absurd k.2.1 (h.2.2 b k.1 h1)
theorem isPer_ex {x : α} : ∀ (n : Nat) (k : Int), k.toNat ≤ n → 1 ≤ k → pw m e x k.toNat = e → ∃ o, IsPer m e x o
  | 0, k, h, h1, _ => by omega
  | n + 1, k, h, h1, hk => by
    by_cases hj : ∃ j : Int, 1 ≤ j ∧ j < k ∧ pw m e x j.toNat = e
    · obtain ⟨j, j1, j2, hj⟩ := hj
      exact isPer_ex n j (by omega) j1 hj
    · exact ⟨k, h1, hk, fun j j1 j2 hj' => hj ⟨j, j1, j2, hj'⟩⟩
theorem Mon.per_dvd (M : Mon P m e) {x : α} (hx : P x) {o : Int} (h : IsPer m e x o) (k : Nat) : pw m e x k = e ↔ o ∣ (k : Int) := by
  obtain ⟨o1, ho, hm⟩ := h
  constructor
  · intro hk
    have h1 := M.pw_mod hx ho k
    rw [hk] at h1
    by_cases hz : k % o.toNat = 0
    · have : o = (o.toNat : Int) := by omega
      rw [this]
      exact Int.natCast_dvd_natCast.mpr (Nat.dvd_of_mod_eq_zero hz)
    · exfalso
      have hlt := Nat.mod_lt k (show 0 < o.toNat by omega)
      exact hm ((k % o.toNat : Nat) : Int) (by omega) (by omega) (by rw [Int.toNat_natCast]; exact h1)
  · rintro ⟨q, hq⟩
    have hq0 : 0 ≤ q := by
      rcases Int.lt_or_le q 0 with h0 | h0
      · exfalso
        have : o * q < 0 := Int.mul_neg_of_pos_of_neg (by omega) h0
        omega
      · exact h0
    have : k = o.toNat * q.toNat := by
      have : ((o.toNat * q.toNat : Nat) : Int) = k := by rw [Int.natCast_mul, Int.toNat_of_nonneg (by omega), Int.toNat_of_nonneg hq0, hq]
      omega
    rw [this, M.pw_mul hx, ho, M.pw_one]
end
noncomputable def perL (Ls : List Lv) (x : List Int) : Int := Classical.epsilon (IsPer (mulL Ls) (zer Ls.length) x)
theorem perL_spec {Ls : List Lv} (h : OkL Ls) (C : Con Ls) {x : List Int} (hx : El Ls x) : IsPer (mulL Ls) (zer Ls.length) x (perL Ls x) :=
  Classical.epsilon_spec (p := IsPer (mulL Ls) (zer Ls.length) x) (isPer_ex _ _ (Nat.le_refl _) (szL_pos h) (pw_sz h C hx))
theorem perL_is {Ls : List Lv} {x : List Int} {k : Int} (h : IsPer (mulL Ls) (zer Ls.length) x k) : perL Ls x = k := isPer_unique (Classical.epsilon_spec (p := IsPer (mulL Ls) (zer Ls.length) x) ⟨k, h⟩) h
theorem perL_dvd {Ls : List Lv} (h : OkL Ls) (C : Con Ls) {x : List Int} (hx : El Ls x) {k : Int} (hk : 0 ≤ k) : pw (mulL Ls) (zer Ls.length) x k.toNat = zer Ls.length ↔ perL Ls x ∣ k := by
  rw [(Con.mon h C).per_dvd hx (perL_spec h C hx), Int.toNat_of_nonneg hk]
theorem perL_sz {Ls : List Lv} (h : OkL Ls) (C : Con Ls) {x : List Int} (hx : El Ls x) : 1 ≤ perL Ls x ∧ perL Ls x ∣ szL Ls := by
  have hs := szL_pos h
  exact ⟨(perL_spec h C hx).1, (perL_dvd h C hx (by omega)).mp (pw_sz h C hx)⟩
theorem perL_le {Ls : List Lv} (h : OkL Ls) (C : Con Ls) {x : List Int} (hx : El Ls x) : perL Ls x ≤ szL Ls := by
  have hs := szL_pos h
  exact Int.le_of_dvd (by omega) (perL_sz h C hx).2

/-! ### The exponent -/
noncomputable def expN (Ls : List Lv) : Nat → Int
  | 0 => 1
  | n + 1 => (Int.lcm (expN Ls n) (perL Ls (decL Ls (n : Int))) : Nat)
theorem lcm_way {a b : Int} (ha : 1 ≤ a) (hb : 1 ≤ b) : a / (Int.gcd a b : Int) * b = (Int.lcm a b : Nat) := by
  have h := Int.gcd_mul_lcm a b
  have hg : (Int.gcd a b : Int) ∣ a := Int.gcd_dvd_left ..
  have hg1 : 1 ≤ Int.gcd a b := Int.gcd_pos_of_ne_zero_left _ (by omega)
  obtain ⟨t, ht⟩ := hg
  have h2 : ((Int.gcd a b * Int.lcm a b : Nat) : Int) = a * b := by rw [h, Int.natCast_mul, Int.natAbs_of_nonneg (by omega), Int.natAbs_of_nonneg (by omega)]
  generalize Int.gcd a b = g at *
  generalize Int.lcm a b = l at *
  rw [Int.natCast_mul] at h2
  have e1 : a / (g : Int) = t := by rw [ht]; exact Int.mul_ediv_cancel_left _ (by omega)
  rw [e1]
  rw [ht, Int.mul_assoc] at h2
  exact (Int.eq_of_mul_eq_mul_left (by omega) h2).symm
theorem expN_ok {Ls : List Lv} (h : OkL Ls) (C : Con Ls) : ∀ n : Nat, (n : Int) ≤ szL Ls → 1 ≤ expN Ls n ∧ expN Ls n ∣ szL Ls ∧ ∀ k, expN Ls n ∣ k ↔ ∀ i : Nat, i < n → perL Ls (decL Ls (i : Int)) ∣ k
  | 0, _ => ⟨by show (1 : Int) ≤ 1; omega, Int.one_dvd _, fun k => ⟨fun _ i hi => by omega, fun _ => Int.one_dvd _⟩⟩
  | n + 1, hn => by
    obtain ⟨h1, h2, h3⟩ := expN_ok h C n (by omega)
    have he := (decL_El h (x := (n : Int)) (by omega) (by omega)).1
    have hp := perL_sz h C he
    have hk : ∀ k, expN Ls (n + 1) ∣ k ↔ expN Ls n ∣ k ∧ perL Ls (decL Ls (n : Int)) ∣ k := fun k => Int.coe_lcm_dvd_iff
    refine ⟨?_, (hk _).mpr ⟨h2, hp.2⟩, fun k => ?_⟩
    · have : 0 < Int.lcm (expN Ls n) (perL Ls (decL Ls (n : Int))) := Int.lcm_pos (by omega) (by omega)
      show 1 ≤ ((Int.lcm _ _ : Nat) : Int)
      omega
    · rw [hk, h3]
      constructor
      · rintro ⟨a, b⟩ i hi
        by_cases e : i = n
        · rw [e]; exact b
        · exact a i (by omega)
      · intro a
        exact ⟨fun i hi => a i (by omega), a n (by omega)⟩
theorem expN_le {Ls : List Lv} (h : OkL Ls) (C : Con Ls) {n : Nat} (hn : (n : Int) ≤ szL Ls) : expN Ls n ≤ szL Ls := by
  have hs := szL_pos h
  exact Int.le_of_dvd (by omega) (expN_ok h C n hn).2.1

/-! ### The least exponent: primes are taken away -/
def LeInv (D N c : Int) (j : Nat) : Prop := 1 ≤ c ∧ c ∣ N ∧ D ∣ c ∧ ∀ i, i < j → ¬ D * (facP 2 N).getD i 0 ∣ c
theorem leInv_start {D N : Int} (hN : 1 ≤ N) (h : D ∣ N) : LeInv D N N 0 := ⟨hN, Int.dvd_refl _, h, fun i hi => by omega⟩
theorem leInv_bd {D N c : Int} {j : Nat} (hN : 1 ≤ N) (h : LeInv D N c j) : 1 ≤ c ∧ c ≤ N := ⟨h.1, Int.le_of_dvd (by omega) h.2.1⟩
theorem leInv_take {D N c p : Int} {j : Nat} (hN : 1 ≤ N) (h : LeInv D N c j) (hp : 2 ≤ p) (hd : c % p = 0) (hv : D ∣ c / p) : LeInv D N (c / p) j ∧ c / p < c := by
  obtain ⟨h1, h2, h3, h4⟩ := h
  obtain ⟨b1, b2, b3⟩ := div_bd hp h1 hd
  have hdv : c / p ∣ c := ⟨p, by rw [Int.mul_comm]; exact b3⟩
  exact ⟨⟨b1, Int.dvd_trans hdv h2, hv, fun i hi hc => h4 i hi (Int.dvd_trans hc hdv)⟩, b2⟩
theorem leInv_next {D N c : Int} {j : Nat} (h : LeInv D N c j) (hp : 2 ≤ (facP 2 N).getD j 0) (hn : ¬ (c % (facP 2 N).getD j 0 = 0 ∧ D ∣ c / (facP 2 N).getD j 0)) : LeInv D N c (j + 1) := by
  obtain ⟨h1, h2, h3, h4⟩ := h
  refine ⟨h1, h2, h3, fun i hi hc => ?_⟩
  by_cases e : i = j
  · subst e
    obtain ⟨q, hq⟩ := hc
    have e1 : c = (facP 2 N).getD i 0 * (D * q) := by rw [hq, Int.mul_comm D, Int.mul_assoc]
    refine hn ⟨by rw [e1]; exact Int.mul_emod_right _ _, ?_⟩
    have e2 : c / (facP 2 N).getD i 0 = D * q := by
      conv => lhs; rw [e1]
      exact Int.mul_ediv_cancel_left _ (by omega)
    rw [e2]
    exact ⟨q, rfl⟩
  · exact h4 i (by omega) hc
theorem leInv_end {D N c : Int} {j : Nat} (hN : 1 ≤ N) (hD : 1 ≤ D) (h : LeInv D N c j) (hj : (facP 2 N).length ≤ j) : c = D := by
  obtain ⟨h1, h2, h3, h4⟩ := h
  obtain ⟨q, hq⟩ := h3
  by_cases h5 : 1 < q
  · exfalso
    obtain ⟨p, hp, hpr, hpq⟩ := some_prime hN (Int.dvd_trans ⟨D, by rw [Int.mul_comm]; exact hq⟩ h2) h5
    obtain ⟨i, hi, he⟩ := List.mem_iff_getElem.mp hp
    have hgd : (facP 2 N).getD i 0 = p := by rw [List.getD_eq_getElem?_getD, List.getElem?_eq_getElem hi, he]; rfl
    apply h4 i (by omega)
    rw [hgd, hq]
    exact Int.mul_dvd_mul (Int.dvd_refl _) hpq
  · have hq1 : q = 1 := by
      rcases Int.lt_or_le q 1 with h0 | h0
      · have : D * q ≤ 0 := Int.mul_nonpos_of_nonneg_of_nonpos (by omega) (by omega)
        omega
      · omega
    rw [hq, hq1, Int.mul_one]
end Go.Proofs.Yteappjgdcbploaa.Num
namespace Go.Proofs.Yteappjgdcbploaa
open Go.RowKit
set_option linter.unusedVariables false
set_option linter.unusedSimpArgs false

/-- A presentation without a fault is a group. -/
theorem Num.Con.of_flt {O : List Int} {W : List (List Int)} {J : List (List (List Int))} (V : Num.Val O W J) : ∀ m, m ≤ O.length → (Num.fltF O W J m).k = 0 → Num.Con (Num.tlL O W J m) → Num.Con (Num.tlL O W J 0)
  | 0, _, _, C => C
  | m + 1, hm, h, C => by
    rw [Num.fltF_step] at h
    by_cases hk : (Num.fltA O W J m).k = 0
    · rw [if_pos hk] at h
      exact Num.Con.of_flt V m (by omega) h (Num.Con.step V (by omega) hk C)
    · rw [if_neg hk] at h
      exact absurd h hk
abbrev Pres.L (p : Pres) : List Num.Lv := Num.tlL p.O p.W p.J 0
def Pres.el (p : Pres) (x : List Int) : Bool := Num.fitB p.O x 0
theorem Pres.con_ok {p : Pres} (h : p.con = true) : p.ok = true ∧ (Num.fltP p.O p.W p.J).k = 0 := by
  unfold Pres.con at h
  simpa using h
theorem Pres.con_Con {p : Pres} (h : p.con = true) : Num.Val p.O p.W p.J ∧ Num.Con p.L := by
  obtain ⟨h1, h2⟩ := Pres.con_ok h
  have V := Num.Val.of h1
  exact ⟨V, Num.Con.of_flt V _ (Nat.le_refl _) h2 Num.Con.end_⟩
theorem Pres.L_len (p : Pres) : p.L.length = p.O.length := by rw [Num.tlL_len]; rfl
theorem Pres.el_out {p : Pres} {x : List Int} (h : p.el x = true) : x.length = p.O.length ∧ Num.El p.L x := ⟨(Num.fitB_out h).1, Num.El.fit (i := 0) h⟩
def rIsElement (p : Pres) (x : List Int) : Bool := p.con && p.el x
def Pres.two (p : Pres) (x y : List Int) : Bool := p.con && (p.el x && p.el y)
theorem Pres.el_con {p : Pres} {x : List Int} (h : rIsElement p x = true) : p.con = true ∧ p.el x = true := by unfold rIsElement at h; simpa using h
theorem Pres.two_out {p : Pres} {x y : List Int} (h : p.two x y = true) : p.con = true ∧ p.el x = true ∧ p.el y = true := by unfold Pres.two at h; simpa using h
def rMultiply (p : Pres) (x y : List Int) : List Int := if p.two x y = true then Num.mulL p.L x y else []
def cMultiply (p : Pres) (x y : List Int) : Int := if p.two x y = true then 0 else 1
def rConjugate (p : Pres) (x y : List Int) : List Int := if p.two x y = true then Num.mulL p.L (Num.invL p.L y) (Num.mulL p.L x y) else []
def cConjugate (p : Pres) (x y : List Int) : Int := if p.two x y = true then 0 else 1
def rCommutator (p : Pres) (x y : List Int) : List Int := if p.two x y = true then Num.mulL p.L (Num.invL p.L (Num.mulL p.L y x)) (Num.mulL p.L x y) else []
def cCommutator (p : Pres) (x y : List Int) : Int := if p.two x y = true then 0 else 1
def rInverse (p : Pres) (x : List Int) : List Int := if rIsElement p x = true then Num.invL p.L x else []
def cInverse (p : Pres) (x : List Int) : Int := if rIsElement p x = true then 0 else 1
def rPower (p : Pres) (x : List Int) (k : Int) : List Int := if rIsElement p x = true then (if -1000000 ≤ k ∧ k ≤ 1000000 then Num.powZ p.L x k else []) else []
def cPower (p : Pres) (x : List Int) (k : Int) : Int := if rIsElement p x = true then (if -1000000 ≤ k ∧ k ≤ 1000000 then 0 else 2) else 1
noncomputable def rElementOrder (p : Pres) (x : List Int) : Int := if rIsElement p x = true then Num.perL p.L x else 0
def cElementOrder (p : Pres) (x : List Int) : Int := if rIsElement p x = true then 0 else 1
def rElementNumber (p : Pres) (x : List Int) : Int := if rIsElement p x = true then Num.numL p.L x else 0
def cElementNumber (p : Pres) (x : List Int) : Int := if rIsElement p x = true then 0 else 1
def rElementAt (p : Pres) (k : Int) : List Int := if p.con = true then (if 0 ≤ k ∧ k < Num.szL p.L then Num.decL p.L k else []) else []
def cElementAt (p : Pres) (k : Int) : Int := if p.con = true then (if 0 ≤ k ∧ k < Num.szL p.L then 0 else 2) else 1
/-- The value of a word, from a first value on. -/
def Num.evW (Ls : List Num.Lv) (imgs : List (List Int)) : List Int → List Int → List Int
  | out, [] => out
  | out, z :: w => Num.evW Ls imgs (Num.mulL Ls out (if 0 < z then imgs.getD (z - 1).toNat [] else Num.invL Ls (imgs.getD (-z - 1).toNat []))) w
def Pres.els (p : Pres) (xs : List (List Int)) : Bool := xs.all p.el
def Pres.evs (p : Pres) (w : List Int) (imgs : List (List Int)) : Bool := p.con && (decide (imgs.length ≤ 6) && (p.els imgs && Num.isWB imgs.length w))
def rEvaluateWord (p : Pres) (w : List Int) (imgs : List (List Int)) : List Int := if p.evs w imgs = true then Num.evW p.L imgs (Num.zer p.O.length) w else []
def cEvaluateWord (p : Pres) (w : List Int) (imgs : List (List Int)) : Int := if p.evs w imgs = true then 0 else 1
noncomputable def rGroupExponent (p : Pres) : Int := if p.con = true then (if Num.szL p.L ≤ 128 then Num.expN p.L (Num.szL p.L).toNat else 0) else 0
noncomputable def cGroupExponent (p : Pres) : Int := if p.con = true then (if Num.szL p.L ≤ 128 then 0 else 3) else 1
theorem Pres.els_at {p : Pres} {xs : List (List Int)} (h : p.els xs = true) {j : Nat} (hj : j < xs.length) : p.el (xs.getD j []) = true := by
  unfold Pres.els at h
  rw [List.all_eq_true] at h
  refine h _ ?_
  rw [List.getD_eq_getElem?_getD, List.getElem?_eq_getElem hj]
  exact List.getElem_mem hj
theorem Num.evW_El {Ls : List Num.Lv} (h : Num.OkL Ls) {imgs : List (List Int)} : ∀ (w : List Int) {out : List Int}, Num.El Ls out → (∀ z ∈ w, z ≠ 0 ∧ -(imgs.length : Int) ≤ z ∧ z ≤ imgs.length) → (∀ j, j < imgs.length → Num.El Ls (imgs.getD j [])) → Num.El Ls (Num.evW Ls imgs out w)
  | [], out, ho, _, _ => ho
  | z :: w, out, ho, hw, hi => by
    obtain ⟨z0, z1, z2⟩ := hw z (by simp)
    refine Num.evW_El h w (Num.El.mul h ho ?_) (fun y hy => hw y (by simp [hy])) hi
    split
    · exact hi _ (by omega)
    · exact Num.inv_El h (hi _ (by omega))
end Go.Proofs.Yteappjgdcbploaa
namespace Go.Proofs.Yteappjgdcbploaa
open Go.RowKit
set_option linter.unusedVariables false
set_option linter.unusedSimpArgs false

theorem Num.fltA_kind (O : List Int) (W : List (List Int)) (J : List (List (List Int))) (i : Nat) : ((Num.fltA O W J i).k = 0 → Num.fltA O W J i = ⟨0, 0, 0, 0⟩) ∧ ((Num.fltA O W J i).k ≠ 0 → (Num.fltA O W J i).l = i) := by
  unfold Num.fltA Num.fltL
  repeat' split
  all_goals simp
/-- The level at which the tower stops. -/
def Num.levP (O : List Int) (W : List (List Int)) (J : List (List (List Int))) : Int := if (Num.fltP O W J).k = 0 then 0 else (Num.fltP O W J).l + 1
/-- A block of faults is none of a tower's. -/
theorem TwS.notFault {O : List Int} {W : List (List Int)} {J : List (List (List Int))} {t : Tw} {gP : Nat} {ps : List RelV} {w0 : World} {l bd : Nat} {w : World} (h : TwS O W J t gP ps w0 l bd w) {b : Nat} {vs : List Value} (B : Blk w b vs 132) : b ≠ t.tb ∧ b ≠ gP ∧ b ≠ t.bo := by
  obtain ⟨cur, hg⟩ := h.prdHeap
  have hb := h.box
  obtain ⟨Do, _, ⟨es, ck, hm, _⟩⟩ := h.map
  unfold Blk at hb B
  refine ⟨fun e => ?_, fun e => ?_, fun e => ?_⟩
  · rw [e, hb] at B; simp at B
  · rw [e, hg] at B; simp at B
  · rw [e, hm] at B; simp at B
/-- A fault stored into its block. -/
theorem TwS.fault {O : List Int} {W : List (List Int)} {J : List (List (List Int))} {t : Tw} {gP : Nat} {ps : List RelV} {w0 : World} {l bd : Nat} {w : World} (h : TwS O W J t gP ps w0 l bd w) {b : Nat} {p q r v : Value} (B : Blk w b [p, q, r, v] 132) (hb0 : w0.heap.size ≤ b) (x y z u : Value) :
    ∃ w9, (((w.setCell ⟨b, 0, none⟩ x).setCell ⟨b, 1, none⟩ y).setCell ⟨b, 2, none⟩ z).setCell ⟨b, 3, none⟩ u = w9 ∧ Blk w9 b [x, y, z, u] 132 ∧ TwS O W J t gP ps w0 l bd w9 ∧ ChgS (fun k => k = b) w w9 := by
  have hc : ChgS (fun k => k = b) w ((((w.setCell ⟨b, 0, none⟩ x).setCell ⟨b, 1, none⟩ y).setCell ⟨b, 2, none⟩ z).setCell ⟨b, 3, none⟩ u) :=
    (((ChgS.set w ⟨b, 0, none⟩ x).trans (ChgS.set _ ⟨b, 1, none⟩ y)).trans (ChgS.set _ ⟨b, 2, none⟩ z)).trans (ChgS.set _ ⟨b, 3, none⟩ u)
  have hB := B
  unfold Blk at hB
  refine ⟨_, rfl, (((B.set 0 x).set 1 y).set 2 z).set 3 u, h.tag hB hc hb0 (h.notFault B).2.2 (fun _ _ e => by simp at e) (fun _ _ e => by simp at e) (fun _ _ e => by simp at e) (fun _ _ e => by simp at e), hc⟩
/-- The tower is read while older memory is changed. -/
theorem TwS.toR_low {O : List Int} {W : List (List Int)} {J : List (List (List Int))} {t : Tw} {gP : Nat} {ps : List RelV} {w0 : World} {l bd : Nat} {w w' : World} (h : TwS O W J t gP ps w0 l bd w)
    (hc : ChgS (fun k => k < w0.heap.size) w w') (hP : RdP t.A0 t.A1 t.A2 O W J w') : TwR O W J t l w' := by
  have ho : ∀ {e : TypeId} {n size : Nat} {v : Value} {xs : List Value}, w.ownsRow w0.heap.size e size v n xs → w'.ownsRow w0.heap.size e size v n xs := fun h => ownsRow_keep h fun k e => by
    obtain ⟨h1, h2⟩ := World.ownsRow.lt h k e
    exact hc.block k h2 (by omega)
  refine ⟨h.box.chg hc (by have := h.tb0; omega), hP, own_read (ho h.szs), fun j h1 h2 => ?_⟩
  obtain ⟨vals, hv, ht⟩ := h.prd
  have hv' := ho hv
  obtain ⟨gT, c, e, hT⟩ := ht j h1 h2
  have hlt := World.ownsRow.lt hv' gP rfl
  refine ⟨gP, _, c, h.ap, hlt.2, ?_, own_read (ho hT)⟩
  rw [World.ownsRow.cellAt hv' j (by omega), e]
theorem chg_four (w : World) (b : Nat) (x y z u : Value) : ChgS (fun k => k = b) w ((((w.setCell ⟨b, 0, none⟩ x).setCell ⟨b, 1, none⟩ y).setCell ⟨b, 2, none⟩ z).setCell ⟨b, 3, none⟩ u) :=
  (((ChgS.set w ⟨b, 0, none⟩ x).trans (ChgS.set _ ⟨b, 1, none⟩ y)).trans (ChgS.set _ ⟨b, 2, none⟩ z)).trans (ChgS.set _ ⟨b, 3, none⟩ u)
/-- What holds at the head of the loop. -/
structure TopS (O : List Int) (W : List (List Int)) (J : List (List (List Int))) (t : Tw) (gP : Nat) (ps : List RelV) (W0 : World) (b3 b5 m : Nat) (f : Num.Flt) (wr : World) : Prop where
  st : TwS O W J t gP ps W0 m 0 wr
  con : Num.Con (Num.tlL O W J m)
  le : m ≤ O.length
  flt : (f.k = 0 ∧ f = ⟨0, 0, 0, 0⟩ ∧ Num.fltF O W J m = Num.fltP O W J) ∨ (f.k ≠ 0 ∧ f = Num.fltP O W J ∧ f.l + 1 = m)
  box : Blk wr b5 [.int .i64 f.k, .int .i64 f.l, .int .i64 f.f, .int .i64 f.s] 132
  res : Blk wr b3 [.int .i64 0, .int .i64 0, .int .i64 0, .int .i64 0] 132
  hb : W0.heap.size ≤ b5
  h3 : b3 < W0.heap.size
set_option maxRecDepth 100000 in
set_option maxHeartbeats 4000000 in
theorem tower2_any {A0 A1 A2 : Option Addr} {c0 c1 c2 : Nat} {O : List Int} {W : List (List Int)} {J : List (List (List Int))} (V : Num.Val O W J) (w : World) (hP : RdP A0 A1 A2 O W J w) :
    Calls Try.prog 118 #[prV A0 A1 A2 c0 c1 c2 O] w fun e w' => ∃ t : Tw, e = .returned (.tuple #[.pointer (some ⟨t.tb, 0, none⟩), fltV (Num.fltP O W J)]) ∧ Below w.heap.size w w' ∧ w'.cell? ⟨t.tb, 6, none⟩ = some (.int .i64 (Num.levP O W J)) ∧ ((Num.fltP O W J).k = 0 → Num.Con (Num.tlL O W J 0) ∧ ∀ w'', ChgS (fun k => k < w.heap.size) w' w'' → RdP A0 A1 A2 O W J w'' → TwR O W J t 0 w'') := by
  have n6 := V.n6
  have HV := Lib.hid V
  obtain ⟨W0, hW0⟩ : ∃ X, (w.alloc (.cells #[.slice A0 O.length c0, .slice A1 O.length c1, .slice A2 O.length c2] 29)).alloc (.cells #[.int .i64 0, .int .i64 0, .int .i64 0, .int .i64 0] 132) = X := ⟨_, rfl⟩
  have hz0 : W0.heap.size = w.heap.size + 2 := by rw [← hW0]; simp
  have b0 : Below w.heap.size w W0 := by rw [← hW0]; go_grown
  have BP : Blk W0 w.heap.size [.slice A0 O.length c0, .slice A1 O.length c1, .slice A2 O.length c2] 29 := by rw [← hW0]; exact (Blk.new w [.slice A0 O.length c0, .slice A1 O.length c1, .slice A2 O.length c2] 29).alloc _
  have BF : Blk W0 (w.heap.size + 1) [.int .i64 0, .int .i64 0, .int .i64 0, .int .i64 0] 132 := by
    rw [← hW0]
    have := Blk.new (w.alloc (.cells #[.slice A0 O.length c0, .slice A1 O.length c1, .slice A2 O.length c2] 29)) [.int .i64 0, .int .i64 0, .int .i64 0, .int .i64 0] 132
    simpa using this
  have HT := Lib.hid (trivial_any (c0 := c0) (c1 := c1) (c2 := c2) V W0 ⟨hP.1.below' b0, hP.2.1.below' b0, hP.2.2.below' b0⟩)
  obtain ⟨bl, x0, x1, x2⟩ := BP.c3
  have HPP := Lib.hid hP
  clear BP hP V
  go_enter Try.func118, Try.ntmps118
  go_wp2_with (fail)
  refine HT.out.mono ?_; rintro e w1 ⟨t, gP, ps, rfl, hps, TS, hA0, hA1, hA2⟩
  have HAA := Lib.hid (And.intro hA0 (And.intro hA1 hA2))
  clear hA0 hA1 hA2
  have BF1 := BF.below TS.bel
  have hz1 := TS.bel.size
  have bA : Below w1.heap.size w1 (w1.alloc (.cells #[.int .i64 0, .int .i64 0, .int .i64 0, .int .i64 0] 132)) := by go_grown
  have TS1 := TS.below bA
  have BN := Blk.new w1 [.int .i64 0, .int .i64 0, .int .i64 0, .int .i64 0] 132
  have HTOP : Hid (TopS O W J t gP ps W0 (w.heap.size + 1) w1.heap.size O.length ⟨0, 0, 0, 0⟩ (w1.alloc (.cells #[.int .i64 0, .int .i64 0, .int .i64 0, .int .i64 0] 132))) := Lib.hid ⟨TS1, Num.Con.end_, Nat.le_refl _, .inl ⟨rfl, rfl, rfl⟩, BN, BF1.below bA, hz1, by omega⟩
  obtain ⟨nl, n0, n1, n2, n3⟩ := BN.c4
  have g0 := BN.free 0
  have g1 := BN.free 1
  have g2 := BN.free 2
  have g3 := BN.free 3
  have HPS := Lib.hid hps
  have hlen : ps.length ≤ 100 := by
    have h := Num.rels_len (Num.shapeB_ok HV.out.lw HV.out.lj (fun i hi => HV.out.lr i (by have := HV.out.lj; omega))) n6
    rw [← hps, List.length_map] at h
    exact h
  clear TS TS1 BN bA BF1 BF hps HT
  go_wp2_with (fail)
  clear n0 n1 n2 n3 g0 g1 g2 g3 nl
  go_loopw [] (fun wr => ∃ (m : Nat) (f : Num.Flt), Hid (TopS O W J t gP ps W0 (w.heap.size + 1) w1.heap.size m f wr)) (fun wr => (intOf ((wr.cell? ⟨t.tb, 6, none⟩).getD undef)).toNat + (if intOf ((wr.cell? ⟨w1.heap.size, 0, none⟩).getD undef) = 0 then 1 else 0))
  case atStart => exact ⟨_, _, HTOP⟩
  case round =>
    obtain ⟨m, f, hT⟩ := hrel
    clear HTOP
    obtain ⟨tl, t0, t1, t2, t3, t4, t5, t6, t7⟩ := hT.out.st.box.c8
    obtain ⟨fk, fl, ff, fs⟩ := f
    obtain ⟨ul, u0, u1, u2, u3⟩ := hT.out.box.c4
    by_cases hgo : 0 < m ∧ fk = 0
    · obtain ⟨hm0, rfl⟩ := hgo
      obtain ⟨i, rfl⟩ : ∃ i, m = i + 1 := ⟨m - 1, by omega⟩
      have i0 : (0 : Int) < ((i + 1 : Nat) : Int) := by omega
      have hle := hT.out.le
      have HCL := Lib.hid (climb_any HV.out i (by omega) hT.out.con t gP ps W0 wr HPS.out hlen hT.out.st)
      have HA := Lib.hid (Num.fltA_kind O W J i)
      have hst := Num.fltF_step (O := O) (W := W) (J := J) (i := i)
      have hfp : Num.fltF O W J (i + 1) = Num.fltP O W J := by
        rcases hT.out.flt with h | h
        · exact h.2.2
        · exact absurd rfl h.1
      rw [hfp] at hst
      have HST := Lib.hid hst
      have HCS : Hid ((Num.fltA O W J i).k = 0 → Num.Con (Num.tlL O W J i)) := Lib.hid fun h => Num.Con.step HV.out (by omega) h hT.out.con
      clear hst hfp
      generalize Num.fltA O W J i = g at *
      obtain ⟨gk, gl, gf, gs⟩ := g
      unfold fltV at HCL
      generalize hmi : ((i + 1 : Nat) : Int) = mi at *
      go_wp2_with (fail)
      refine HCL.out.mono ?_; rintro e w2 ⟨rfl, T2, C2⟩
      have hne := hT.out.st.notFault hT.out.box
      have hne3 := hT.out.st.notFault hT.out.res
      have B2 := hT.out.box.chg C2 (by rintro (h | h | h); exact hne.1 h; exact hne.2.1 h; exact hne.2.2 h)
      have R2 := hT.out.res.chg C2 (by rintro (h | h | h); exact hne3.1 h; exact hne3.2.1 h; exact hne3.2.2 h)
      obtain ⟨w9, e9, B9, T9, C9⟩ := T2.fault B2 hT.out.hb (.int .i64 gk) (.int .i64 gl) (.int .i64 gf) (.int .i64 gs)
      have R9 := R2.chg C9 (fun e => by have := hT.out.hb; have := hT.out.h3; omega)
      have NEW : ∃ (m' : Nat) (f' : Num.Flt), Hid (TopS O W J t gP ps W0 (w.heap.size + 1) w1.heap.size m' f' w9) ∧ m' + (if f'.k = 0 then 1 else 0) < i + 1 + 1 := by
        by_cases hgk : gk = 0
        · have hg0 := HA.out.1 hgk
          rw [if_pos hgk] at T9
          refine ⟨i, ⟨gk, gl, gf, gs⟩, Lib.hid ⟨T9, HCS.out hgk, by omega, .inl ⟨hgk, hg0, ?_⟩, B9, R9, hT.out.hb, hT.out.h3⟩, by split <;> omega⟩
          rw [HST.out, if_pos hgk]
        · have hl := HA.out.2 hgk
          rw [if_neg hgk] at T9
          refine ⟨i + 1, ⟨gk, gl, gf, gs⟩, Lib.hid ⟨T9, hT.out.con, by omega, .inr ⟨hgk, ?_, ?_⟩, B9, R9, hT.out.hb, hT.out.h3⟩, ?_⟩
          · rw [HST.out, if_neg hgk]
          · show gl + 1 = _
            have : gl = (i : Int) := hl
            omega
          · rw [if_neg hgk]
            omega
      have HNEW := Lib.hid NEW
      obtain ⟨vl, v0, v1, v2, v3⟩ := B2.c4
      have g0 := B2.free 0
      have g1 := B2.free 1
      have g2 := B2.free 2
      have g3 := B2.free 3
      clear NEW T9 T2 C2 C9 B9 R9 B2 R2 hne hne3 HCL
      go_wp2_with (fail)
      obtain ⟨m', f', hT', hme⟩ := HNEW.out
      refine ⟨⟨m', f', hT'⟩, ?_⟩
      obtain ⟨-, -, -, -, -, -, -, t6', -⟩ := hT'.out.st.box.c8
      obtain ⟨-, u0', -⟩ := hT'.out.box.c4
      rw [t6', u0', t6, u0]
      by_cases hz : f'.k = 0
      · rw [if_pos hz] at hme
        simp [intOf, hz]
        omega
      · rw [if_neg hz] at hme
        simp [intOf, hz]
        omega
    · have HEX : Hid ((⟨fk, fl, ff, fs⟩ : Num.Flt) = Num.fltP O W J ∧ (m : Int) = Num.levP O W J) := Lib.hid (by
        unfold Num.levP
        rcases hT.out.flt with ⟨h1, h2, h3⟩ | ⟨h1, h2, h3⟩
        · have hm : m = 0 := by
            have h1' : fk = 0 := h1
            omega
          subst hm
          have e : (⟨fk, fl, ff, fs⟩ : Num.Flt) = Num.fltP O W J := by rw [h2, ← h3]; rfl
          refine ⟨e, ?_⟩
          rw [← e, if_pos h1]
          rfl
        · refine ⟨h2, ?_⟩
          rw [← h2, if_neg h1, h3])
      have HCN : Hid ((⟨fk, fl, ff, fs⟩ : Num.Flt).k = 0 → m = 0 ∧ Num.Con (Num.tlL O W J 0)) := Lib.hid fun h1 => by
        have h1' : fk = 0 := h1
        have hm : m = 0 := by omega
        exact ⟨hm, by rw [← hm]; exact hT.out.con⟩
      have STD := hT.out.st
      have L : Below w.heap.size w wr := b0.trans (STD.bel.mono b0.size)
      have BFr := hT.out.res
      have hex : ¬ (0 : Int) < (m : Int) ∨ ((0 : Int) < (m : Int) ∧ ¬ fk = 0) := by omega
      have HEX1 := HEX
      clear hT hgo
      generalize hmi : (m : Int) = mi at *
      rcases hex with hm | ⟨hm, hk⟩
      all_goals
        go_wp2_with (fail)
        obtain ⟨w9, e9, B9, L9⟩ := flt_store BFr (.int .i64 fk) (.int .i64 fl) (.int .i64 ff) (.int .i64 fs) (by omega : w.heap.size ≤ w.heap.size + 1) L
        have c9 : w9.cell? ⟨t.tb, 6, none⟩ = some (.int .i64 mi) := by
          have hc := chg_four wr (w.heap.size + 1) (.int .i64 fk) (.int .i64 fl) (.int .i64 ff) (.int .i64 fs)
          rw [e9] at hc
          rw [← hmi]
          exact (STD.box.chg hc (fun e => (STD.notFault BFr).1 e.symm)).cell 6 (by simp)
        have HTR : Hid ((⟨fk, fl, ff, fs⟩ : Num.Flt).k = 0 → Num.Con (Num.tlL O W J 0) ∧ ∀ w'', ChgS (fun k => k < w.heap.size) w9.drew w'' → RdP A0 A1 A2 O W J w'' → TwR O W J t 0 w'') := Lib.hid fun h1 => by
          obtain ⟨hm0, hC⟩ := HCN.out h1
          refine ⟨hC, fun w'' hc2 hP2 => ?_⟩
          rw [hm0] at STD
          have hc := chg_four wr (w.heap.size + 1) (.int .i64 fk) (.int .i64 fl) (.int .i64 ff) (.int .i64 fs)
          rw [e9] at hc
          have hc3 : ChgS (fun k => k < W0.heap.size) wr w'' := by
            refine (hc.mono fun k hk => ?_).trans (((⟨hc2.os, hc2.tape, hc2.output, hc2.size, hc2.block⟩ : ChgS (fun k => k < w.heap.size) w9 w'')).mono fun k hk => ?_) <;> omega
          exact STD.toR_low hc3 (by rw [HAA.out.1, HAA.out.2.1, HAA.out.2.2]; exact hP2)
        obtain ⟨bl9, f0, f1, f2, f3⟩ := BFr.c4
        obtain ⟨bl9', r0, r1, r2, r3⟩ := B9.c4
        have g0 := BFr.free 0
        have g1 := BFr.free 1
        have g2 := BFr.free 2
        have g3 := BFr.free 3
        have HC9 := Lib.hid c9
        have HL9 := Lib.hid L9
        clear B9 BFr STD L L9 c9
        go_region
        all_goals go_wp2_with (fail)
        refine bodyPost_ret (v := .tuple #[.pointer (some ⟨t.tb, 0, none⟩), .agg #[.int .i64 fk, .int .i64 fl, .int .i64 ff, .int .i64 fs]]) (by simp [results, Try.results118, go_sem, bl9', r0, r1, r2, r3]) rfl ?_
        exact ⟨t, by rw [← HEX.out.1]; rfl, HL9.out.drew, by rw [← HEX.out.2]; exact HC9.out, fun h => HTR.out (by have h' := h; rw [← HEX.out.1] at h'; exact h')⟩
theorem tower_any {A0 A1 A2 : Option Addr} {c0 c1 c2 : Nat} {O : List Int} {W : List (List Int)} {J : List (List (List Int))} (V : Num.Val O W J) (w : World) (hP : RdP A0 A1 A2 O W J w) :
    Calls Try.prog 118 #[prV A0 A1 A2 c0 c1 c2 O] w fun e w' => ∃ tb, e = .returned (.tuple #[.pointer (some ⟨tb, 0, none⟩), fltV (Num.fltP O W J)]) ∧ Below w.heap.size w w' ∧ w'.cell? ⟨tb, 6, none⟩ = some (.int .i64 (Num.levP O W J)) :=
  (tower2_any V w hP).mono fun e w' ⟨t, h1, h2, h3, _⟩ => ⟨t.tb, h1, h2, h3⟩
end Go.Proofs.Yteappjgdcbploaa
namespace Go.Proofs.Yteappjgdcbploaa
open Go.RowKit
set_option linter.unusedVariables false
set_option linter.unusedSimpArgs false

/-- An element as a value, a group as a value. -/
abbrev elV (tb : Nat) (n : Int) : Value := .agg #[.pointer (some ⟨tb, 0, none⟩), .int .i64 n]
abbrev grV (tb : Nat) : Value := .agg #[.pointer (some ⟨tb, 0, none⟩)]
/-- The tower of a group, as it is read. -/
structure Gr (O : List Int) (W : List (List Int)) (J : List (List (List Int))) (t : Tw) (w : World) : Prop where
  V : Num.Val O W J
  C : Num.Con (Num.tlL O W J 0)
  T : TwR O W J t 0 w
section
variable {O : List Int} {W : List (List Int)} {J : List (List (List Int))} {t : Tw} {w w' : World}
theorem Gr.below (h : Gr O W J t w) (hb : Below w.heap.size w w') : Gr O W J t w' := ⟨h.V, h.C, h.T.below hb⟩
theorem Gr.ok (h : Gr O W J t w) : Num.OkL (Num.tlL O W J 0) := h.V.ok 0
end
def RetE (tb : Nat) (n : Int) (w : World) (e : Ending) (w' : World) : Prop := e = .returned (elV tb n) ∧ Below w.heap.size w w'
set_option maxHeartbeats 1000000 in
theorem order_any {O : List Int} {W : List (List Int)} {J : List (List (List Int))} {t : Tw} {w : World} (G : Gr O W J t w) :
    Calls Try.prog 85 #[grV t.tb] w fun e w' => e = .returned (.int .i64 (Num.szL (Num.tlL O W J 0))) ∧ Below w.heap.size w w' := by
  have b0 : Below w.heap.size w (w.alloc (.cells #[.pointer (some ⟨t.tb, 0, none⟩)] 65)) := by go_grown
  have T := G.T.below b0
  obtain ⟨tl, t0, t1, t2, t3, t4, t5, t6, t7⟩ := T.box.c8
  obtain ⟨g, o, e, hg, hc⟩ := T.sz 0 (by rw [Num.szsL_len]; omega)
  simp only [Option.some.injEq, Addr.mk.injEq, and_true] at e
  obtain ⟨rfl, rfl⟩ := e
  rw [Num.szsL_at (by omega), Nat.zero_add] at hc
  have hz : (0 : Int) < ((O.length + 1 : Nat) : Int) := by omega
  generalize ((O.length + 1 : Nat) : Int) = nn at *
  generalize Num.szL (Num.tlL O W J 0) = s at *
  clear T G
  go_enter Try.func85, Try.ntmps85
  go_wp2_with (fail)
  go_ret
  exact ⟨rfl, b0⟩
set_option maxHeartbeats 1000000 in
theorem identity_any (tb : Nat) (w : World) : Calls Try.prog 110 #[grV tb] w (RetE tb 0 w) := by
  unfold RetE
  go_enter Try.func110, Try.ntmps110
  go_wp2_with (fail)
  refine bodyPost_ret (v := elV tb 0) (by simp [results, Try.results110, go_sem]) rfl ⟨rfl, ?_⟩
  go_grown
set_option maxHeartbeats 1000000 in
theorem isIdentity_any (tb : Nat) (n : Int) (w : World) : Calls Try.prog 141 #[elV tb n] w (RetB (decide (n = 0)) w) := by
  have b0 : Below w.heap.size w (w.alloc (.cells #[.pointer (some ⟨tb, 0, none⟩), .int .i64 n] 75)) := by go_grown
  have hd : (n == 0) = decide (n = 0) := by by_cases h : n = 0 <;> simp [h]
  go_enter Try.func141, Try.ntmps141
  go_wp2_with (fail)
  go_ret
  exact ⟨ret_b hd, b0⟩
set_option maxRecDepth 100000 in
set_option maxHeartbeats 2000000 in
theorem elTimes_any {O : List Int} {W : List (List Int)} {J : List (List (List Int))} {t : Tw} {w : World} (G : Gr O W J t w) (a b : List Int) (ha : Num.El (Num.tlL O W J 0) a) (hb : Num.El (Num.tlL O W J 0) b) :
    Calls Try.prog 66 #[elV t.tb (Num.numL (Num.tlL O W J 0) a), elV t.tb (Num.numL (Num.tlL O W J 0) b)] w (RetE t.tb (Num.numL (Num.tlL O W J 0) (Num.mulL (Num.tlL O W J 0) a b)) w) := by
  have HT : Hid (∀ W', Below w.heap.size w W' → Calls Try.prog 108 #[.pointer (some ⟨t.tb, 0, none⟩), .int .i64 (Num.numL (Num.tlL O W J 0) a), .int .i64 (Num.numL (Num.tlL O W J 0) b)] W' fun e w' => e = .returned (.int .i64 (Num.numL (Num.tlL O W J 0) (Num.mulL (Num.tlL O W J 0) a b))) ∧ W' = w') := Lib.hid fun W' h => times_any G.V (G.T.below h) (Nat.zero_le _) G.C a b ha hb
  generalize Num.numL (Num.tlL O W J 0) (Num.mulL (Num.tlL O W J 0) a b) = z at *
  generalize Num.numL (Num.tlL O W J 0) a = x at *
  generalize Num.numL (Num.tlL O W J 0) b = y at *
  clear G ha hb
  have b0 : Below w.heap.size w (((w.alloc (.cells #[.pointer (some ⟨t.tb, 0, none⟩), .int .i64 x] 75)).alloc (.cells #[.pointer (some ⟨t.tb, 0, none⟩), .int .i64 y] 75)).alloc (.cells #[.pointer none, .int .i64 0] 75)) := by go_grown
  have BX := ((Blk.new w [.pointer (some ⟨t.tb, 0, none⟩), .int .i64 x] 75).alloc (.cells #[.pointer (some ⟨t.tb, 0, none⟩), .int .i64 y] 75)).alloc (.cells #[.pointer none, .int .i64 0] 75)
  have BY : Blk (((w.alloc (.cells #[.pointer (some ⟨t.tb, 0, none⟩), .int .i64 x] 75)).alloc (.cells #[.pointer (some ⟨t.tb, 0, none⟩), .int .i64 y] 75)).alloc (.cells #[.pointer none, .int .i64 0] 75)) (w.heap.size + 1) [.pointer (some ⟨t.tb, 0, none⟩), .int .i64 y] 75 := by
    have := (Blk.new (w.alloc (.cells #[.pointer (some ⟨t.tb, 0, none⟩), .int .i64 x] 75)) [.pointer (some ⟨t.tb, 0, none⟩), .int .i64 y] 75).alloc (.cells #[.pointer none, .int .i64 0] 75)
    simpa using this
  have BR : Blk (((w.alloc (.cells #[.pointer (some ⟨t.tb, 0, none⟩), .int .i64 x] 75)).alloc (.cells #[.pointer (some ⟨t.tb, 0, none⟩), .int .i64 y] 75)).alloc (.cells #[.pointer none, .int .i64 0] 75)) (w.heap.size + 1 + 1) [.pointer none, .int .i64 0] 75 := by
    have := Blk.new ((w.alloc (.cells #[.pointer (some ⟨t.tb, 0, none⟩), .int .i64 x] 75)).alloc (.cells #[.pointer (some ⟨t.tb, 0, none⟩), .int .i64 y] 75)) [.pointer none, .int .i64 0] 75
    simpa using this
  generalize hW0 : (((w.alloc (.cells #[.pointer (some ⟨t.tb, 0, none⟩), .int .i64 x] 75)).alloc (.cells #[.pointer (some ⟨t.tb, 0, none⟩), .int .i64 y] 75)).alloc (.cells #[.pointer none, .int .i64 0] 75)) = W0 at *
  have HC := Lib.hid (HT.out W0.drew b0.drew)
  obtain ⟨xl, x0, x1⟩ := BX.c2
  obtain ⟨yl, y0, y1⟩ := BY.c2
  obtain ⟨rl, r0, r1⟩ := BR.c2
  obtain ⟨f0, f1, -⟩ := BR.f3
  have SM : ((W0.setCell ⟨w.heap.size + 1 + 1, 0, none⟩ (.pointer (some ⟨t.tb, 0, none⟩))).setCell ⟨w.heap.size + 1 + 1, 1, none⟩ (.int .i64 z)).cell? ⟨w.heap.size, 0, none⟩ = some (.pointer (some ⟨t.tb, 0, none⟩)) ∧ ((W0.setCell ⟨w.heap.size + 1 + 1, 0, none⟩ (.pointer (some ⟨t.tb, 0, none⟩))).setCell ⟨w.heap.size + 1 + 1, 1, none⟩ (.int .i64 z)).cell? ⟨w.heap.size, 1, none⟩ = some (.int .i64 x) ∧ ((W0.setCell ⟨w.heap.size + 1 + 1, 0, none⟩ (.pointer (some ⟨t.tb, 0, none⟩))).setCell ⟨w.heap.size + 1 + 1, 1, none⟩ (.int .i64 z)).cell? ⟨w.heap.size + 1, 1, none⟩ = some (.int .i64 y) := by
    have h1 := (BX.other (p := ⟨w.heap.size + 1 + 1, 0, none⟩) (by show w.heap.size ≠ w.heap.size + 1 + 1; omega) (.pointer (some ⟨t.tb, 0, none⟩))).other (p := ⟨w.heap.size + 1 + 1, 1, none⟩) (by show w.heap.size ≠ w.heap.size + 1 + 1; omega) (.int .i64 z)
    have h2 := (BY.other (p := ⟨w.heap.size + 1 + 1, 0, none⟩) (by show w.heap.size + 1 ≠ w.heap.size + 1 + 1; omega) (.pointer (some ⟨t.tb, 0, none⟩))).other (p := ⟨w.heap.size + 1 + 1, 1, none⟩) (by show w.heap.size + 1 ≠ w.heap.size + 1 + 1; omega) (.int .i64 z)
    exact ⟨h1.c2.2.1, h1.c2.2.2, h2.c2.2.2⟩
  unfold RetE
  go_enter Try.func66, Try.ntmps66
  go_wp2_with (fail)
  clear hW0
  go_region_held3 (fun wx => wx.cell? ⟨w.heap.size, 0, none⟩ = some (.pointer (some ⟨t.tb, 0, none⟩)) ∧ wx.cell? ⟨w.heap.size, 1, none⟩ = some (.int .i64 x) ∧ wx.cell? ⟨w.heap.size + 1, 1, none⟩ = some (.int .i64 y)) (first | go_keep | assumption) (first
    | (go_at_call 108; (with_reducible refine HC.out.mono ?_); rintro e w5 ⟨rfl, rfl⟩))
  all_goals
    go_wp2_with (fail)
    refine bodyPost_ret (v := elV t.tb z) (by simp [results, Try.results66, go_sem, rl, r0, r1]) rfl ⟨rfl, ?_⟩
    exact (b0.drew.setCell (p := ⟨w.heap.size + 1 + 1, 0, none⟩) (by show w.heap.size ≤ w.heap.size + 1 + 1; omega) _).setCell (p := ⟨w.heap.size + 1 + 1, 1, none⟩) (by show w.heap.size ≤ w.heap.size + 1 + 1; omega) _
end Go.Proofs.Yteappjgdcbploaa
namespace Go.Proofs.Yteappjgdcbploaa
open Go.RowKit
set_option linter.unusedVariables false
set_option linter.unusedSimpArgs false

set_option maxRecDepth 100000 in
set_option maxHeartbeats 4000000 in
theorem vector_any {O : List Int} {W : List (List Int)} {J : List (List (List Int))} {t : Tw} {w : World} (G : Gr O W J t w) (a : List Int) (ha : Num.El (Num.tlL O W J 0) a) :
    Calls Try.prog 70 #[elV t.tb (Num.numL (Num.tlL O W J 0) a)] w fun e w' => ∃ u, e = .returned u ∧ OwnI w' w.heap.size u a ∧ Below w.heap.size w w' := by
  obtain ⟨iT, hiT, hz0, hz1, hz2⟩ := info_parts infoI
  have n6 := G.V.n6
  have hal : a.length = O.length := by have := ha.len; rw [Num.tlL_len] at this; omega
  obtain ⟨X, hX⟩ : ∃ X, X = Num.numL (Num.tlL O W J 0) a := ⟨_, rfl⟩
  rw [← hX]
  have b0 : Below w.heap.size w (w.alloc (.cells #[.pointer (some ⟨t.tb, 0, none⟩), .int .i64 X] 75)) := by go_grown
  have BX := Blk.new w [.pointer (some ⟨t.tb, 0, none⟩), .int .i64 X] 75
  have hz0' : (w.alloc (.cells #[.pointer (some ⟨t.tb, 0, none⟩), .int .i64 X] 75)).heap.size = w.heap.size + 1 := by simp
  generalize hW0 : w.alloc (.cells #[.pointer (some ⟨t.tb, 0, none⟩), .int .i64 X] 75) = W0 at *
  have HG := Lib.hid (G.below b0)
  have HA := Lib.hid ha
  have HAL := Lib.hid hal
  have HX := Lib.hid hX
  have HB := Lib.hid (szL_bd G.V)
  have hz1' : w.heap.size ≤ W0.heap.size := b0.size
  obtain ⟨xl, x0, x1⟩ := BX.c2
  obtain ⟨tl, t0, t1, t2, t3, t4, t5, t6, t7⟩ := HG.out.T.box.c8
  clear G ha hX hal hz0'
  go_enter Try.func70, Try.ntmps70
  go_wp2_with (fail)
  clear hW0 t0 t1 t2 t3 t4 t5 t6 t7
  go_loopw [3, 4, 15] (fun s3 s4 s15 wr => ∃ i : Nat, i ≤ O.length ∧ s15 = .int .i64 (i : Int) ∧ s4 = .int .i64 (Num.numL (Num.tlL O W J i) (a.drop i)) ∧ Hid (OwnI wr W0.heap.size s3 (a.take i)) ∧ Below W0.heap.size W0 wr) (fun _ _ s15 _ => O.length - (intOf s15).toNat)
  case atStart => exact ⟨0, by omega, rfl, by rw [HX.out]; rfl, Lib.hid (World.ownsRow_nil _ _ _ _), Below.refl _ _⟩
  case round =>
    obtain ⟨i, hi, rfl, rfl, own, bel⟩ := hrel
    have Z := bel.size
    have y0 : wr.cell? ⟨w.heap.size, 0, none⟩ = some (.pointer (some ⟨t.tb, 0, none⟩)) := by rw [bel.cell xl]; exact x0
    by_cases hlt : i < O.length
    · have i0 : (0 : Int) ≤ (i : Int) := by omega
      have i1 : (i : Int) < (O.length : Int) := by omega
      have HGW : Hid (∀ W', Below W0.heap.size W0 W' → Calls Try.prog 111 #[.pointer (some ⟨t.tb, 0, none⟩), .int .i64 (i : Int)] W' fun e w' => e = .returned (.int .i64 (Num.szL (Num.tlL O W J (i + 1)))) ∧ W' = w') := Lib.hid fun W' hb => gen_any HG.out.V (HG.out.T.below hb) i hlt
      have HC := Lib.hid (HGW.out wr bel)
      have hE := Num.El.drop i HA.out
      rw [Num.tlL_drop, Nat.zero_add, Num.tlL_step hlt] at hE
      obtain ⟨y, v', ea, yy0, yy1, hv'⟩ := hE
      have yy1' : y < O.getD i 0 := yy1
      have hd := Num.drop_at (l := a) (i := i) (by rw [HAL.out]; exact hlt)
      rw [ea] at hd
      obtain ⟨hy, hv⟩ := List.cons.inj hd
      have e1 : Num.numL (Num.tlL O W J i) (a.drop i) = y * Num.szL (Num.tlL O W J (i + 1)) + Num.numL (Num.tlL O W J (i + 1)) v' := by rw [ea, Num.tlL_step hlt]; rfl
      have hr1 := Num.numL_rng (HG.out.V.ok (i + 1)) hv'
      have hb1 := HB.out (i + 1)
      have ho := HG.out.V.ob i hlt
      have hp0 : 0 ≤ y * Num.szL (Num.tlL O W J (i + 1)) := Int.mul_nonneg yy0 (by omega)
      have hq : (y * Num.szL (Num.tlL O W J (i + 1)) + Num.numL (Num.tlL O W J (i + 1)) v').tdiv (Num.szL (Num.tlL O W J (i + 1))) = y := by
        rw [Int.tdiv_eq_ediv_of_nonneg (by omega), Int.add_comm, Int.add_mul_ediv_right _ _ (by omega), Int.ediv_eq_zero_of_lt hr1.1 hr1.2, Int.zero_add]
      have hmo : (y * Num.szL (Num.tlL O W J (i + 1)) + Num.numL (Num.tlL O W J (i + 1)) v').tmod (Num.szL (Num.tlL O W J (i + 1))) = Num.numL (Num.tlL O W J (i + 1)) v' := by
        rw [Int.tmod_eq_emod_of_nonneg (by omega), Int.add_comm, Int.add_mul_emod_self_right, Int.emod_eq_of_lt hr1.1 hr1.2]
      have hwy : IntKind.i64.wrap y = y := IntWalk.i64_in _ (by omega)
      have hwn : IntKind.i64.wrap (Num.numL (Num.tlL O W J (i + 1)) v') = Num.numL (Num.tlL O W J (i + 1)) v' := IntWalk.i64_in _ (by omega)
      have hs0 : Num.szL (Num.tlL O W J (i + 1)) ≠ 0 := by omega
      have HTK : Hid (a.take (i + 1) = a.take i ++ [y]) := Lib.hid (by rw [List.take_succ_eq_append_getElem (by rw [HAL.out]; exact hlt), hy, List.getD_eq_getElem?_getD, List.getElem?_eq_getElem (by rw [HAL.out]; exact hlt)]; rfl)
      have HN : Hid (Num.numL (Num.tlL O W J (i + 1)) (a.drop (i + 1)) = Num.numL (Num.tlL O W J (i + 1)) v') := Lib.hid (by rw [← hv])
      rw [e1]
      clear e1 ea hd hy hv hv' hr1 yy1 yy1' hp0 hb1
      have ow := own.out
      have hol : (a.take i).length ≤ 1000 := by rw [List.length_take]; omega
      clear own
      generalize Num.szL (Num.tlL O W J (i + 1)) = s1 at *
      generalize hm1 : Num.numL (Num.tlL O W J (i + 1)) v' = m1 at *
      generalize a.take i = os at *
      clear hm1
      go_wp2_with (fail)
      refine HC.out.mono ?_; rintro e w1 ⟨rfl, rfl⟩
      go_wp2_with (first | (at_builtin; refine wpList_append_own_at _ rfl (.tmp 18) (.tmp 26) 22 rfl W0.heap.size 2 iT (.int .i64 0) 1 8 Try.underlying22 hiT hz0 hz1 hz2 rfl (by decide) _ _ _ rfl (ow.alloc _) ⟨_, 0, none⟩ 1 1 [.int .i64 y] rfl rfl (cell_one_new _ _ _) (by simp [Value.oneCell']) (by unfold maxLen; omega) (by omega) (by go_size) ?_; intro v1 w1 hown1 hgrow1 _ hat1; obtain ⟨p1, p2⟩ := push_post ow bel hown1 hgrow1; have y1 : w1.cell? ⟨w.heap.size, 0, none⟩ = some (.pointer (some ⟨t.tb, 0, none⟩)) := (by rw [p2.cell xl]; exact x0)))
      have HC2 := Lib.hid (HGW.out w1 p2)
      have P1 : Hid (OwnI w1 W0.heap.size v1 (a.take (i + 1))) := Lib.hid (by rw [HTK.out]; exact p1)
      clear HC HGW ow bel hown1 hgrow1 hat1 p1 y0
      refine HC2.out.mono ?_; rintro e w2 ⟨rfl, rfl⟩
      go_wp2_with (fail)
      exact ⟨⟨i + 1, by omega, by go_num, by rw [HN.out], P1, p2⟩, by simp [intOf]; omega⟩
    · have hge : ¬ ((i : Int) < (O.length : Int)) := by omega
      obtain rfl : i = O.length := by omega
      have O1 : Hid (OwnI wr W0.heap.size u3 a) := Lib.hid (by have := own.out; rwa [List.take_of_length_le (by rw [HAL.out]; omega)] at this)
      clear own
      go_wp2_with (fail)
      go_ret
      exact ⟨_, rfl, O1.out.base_ b0.size, bstep b0 b0.size bel⟩
/-- The state at generator i. -/
def InvP (O : List Int) (W : List (List Int)) (J : List (List (List Int))) (a : List Int) (i : Nat) (num rest : Int) : Prop :=
  (∃ T s, i < O.length ∧ Num.InvS (Num.tlL O W J 0) a i T 0 s ∧ rest = Num.numL (Num.tlL O W J i) s ∧ num = Num.numL (Num.tlL O W J 0) (T ++ 0 :: Num.zer (O.length - (i + 1)))) ∨ (i = O.length ∧ num = Num.numL (Num.tlL O W J 0) (Num.invL (Num.tlL O W J 0) a))
theorem InvP.start {O : List Int} {W : List (List Int)} {J : List (List (List Int))} (V : Num.Val O W J) (C : Num.Con (Num.tlL O W J 0)) {a : List Int} (ha : Num.El (Num.tlL O W J 0) a) : InvP O W J a 0 0 (Num.numL (Num.tlL O W J 0) a) := by
  by_cases h : 0 < O.length
  · left
    refine ⟨[], a, h, Num.InvS.start (V.ok 0) C ha (by rw [Num.tlL_len]; omega), rfl, ?_⟩
    have := Num.numL_zer (Num.tlL O W J 0)
    rw [Num.tlL_len] at this
    rw [List.nil_append, ← Num.zer_succ, show O.length - (0 + 1) + 1 = O.length - 0 by omega, this]
  · right
    refine ⟨by omega, ?_⟩
    rw [Num.tlL_end (by omega)]
    rfl
theorem num_bd {O : List Int} {W : List (List Int)} {J : List (List (List Int))} (V : Num.Val O W J) {u : List Int} (h : Num.El (Num.tlL O W J 0) u) : 0 ≤ Num.numL (Num.tlL O W J 0) u ∧ Num.numL (Num.tlL O W J 0) u < 117649 := by
  have h1 := Num.numL_rng (V.ok 0) h
  have h2 := szL_bd V 0
  omega
set_option maxRecDepth 100000 in
set_option maxHeartbeats 4000000 in
theorem inverse_any {O : List Int} {W : List (List Int)} {J : List (List (List Int))} {t : Tw} {w : World} (G : Gr O W J t w) (a : List Int) (ha : Num.El (Num.tlL O W J 0) a) :
    Calls Try.prog 69 #[elV t.tb (Num.numL (Num.tlL O W J 0) a)] w (RetE t.tb (Num.numL (Num.tlL O W J 0) (Num.invL (Num.tlL O W J 0) a)) w) := by
  have n6 := G.V.n6
  have HST := Lib.hid (InvP.start G.V G.C ha)
  have HNB := Lib.hid (num_bd G.V ha)
  obtain ⟨X, hX⟩ : ∃ X, X = Num.numL (Num.tlL O W J 0) a := ⟨_, rfl⟩
  rw [← hX] at HST HNB ⊢
  have b0 : Below w.heap.size w ((w.alloc (.cells #[.pointer (some ⟨t.tb, 0, none⟩), .int .i64 X] 75)).alloc (.cells #[.pointer none, .int .i64 0] 75)) := by go_grown
  have BX := (Blk.new w [.pointer (some ⟨t.tb, 0, none⟩), .int .i64 X] 75).alloc (.cells #[.pointer none, .int .i64 0] 75)
  have BR : Blk ((w.alloc (.cells #[.pointer (some ⟨t.tb, 0, none⟩), .int .i64 X] 75)).alloc (.cells #[.pointer none, .int .i64 0] 75)) (w.heap.size + 1) [.pointer none, .int .i64 0] 75 := by
    have := Blk.new (w.alloc (.cells #[.pointer (some ⟨t.tb, 0, none⟩), .int .i64 X] 75)) [.pointer none, .int .i64 0] 75
    simpa using this
  have hzz : w.heap.size + 2 ≤ ((w.alloc (.cells #[.pointer (some ⟨t.tb, 0, none⟩), .int .i64 X] 75)).alloc (.cells #[.pointer none, .int .i64 0] 75)).heap.size := by simp
  generalize hW0 : (w.alloc (.cells #[.pointer (some ⟨t.tb, 0, none⟩), .int .i64 X] 75)).alloc (.cells #[.pointer none, .int .i64 0] 75) = W0 at *
  have HG := Lib.hid (G.below b0)
  have HA := Lib.hid ha
  obtain ⟨xl, x0, x1⟩ := BX.c2
  have HBR := Lib.hid BR
  clear G ha hX BX BR
  unfold RetE
  go_enter Try.func69, Try.ntmps69
  go_wp2_with (fail)
  clear hW0
  go_cut [3, 4] from 8 to 12 (fun s3 s4 wx => ∃ b, s3 = .pointer (some ⟨b, 0, none⟩) ∧ s4 = .int .i64 X ∧ Hid (Blk wx b [.pointer (some ⟨t.tb, 0, none⟩), .int .i64 0] 75) ∧ W0.heap.size ≤ b ∧ Below W0.heap.size W0 wx)
  case first =>
    go_region_law (first
      | (go_simp; go_at_call 110; refine (identity_any t.tb _).mono ?_; rintro e w5 ⟨rfl, hb5⟩; have B5 : Below W0.heap.size W0 w5 := bstep (by go_grown) (by go_size) hb5; have SM5 : w5.cell? ⟨w.heap.size, 1, none⟩ = some (.int .i64 X) := (by rw [B5.cell xl]; exact x1); have t5 : w.heap.size < w5.heap.size := Nat.lt_of_lt_of_le xl B5.size; (try (have BK5 := (Blk.new _ [.pointer none, .int .i64 0] 75).below hb5; obtain ⟨kl, k0, k1⟩ := BK5.c2; obtain ⟨g0, g1, -⟩ := BK5.f3)); try (have BK5 := (Blk.new _ [.pointer none, .int .i64 0] 75).drew.below hb5; obtain ⟨kl, k0, k1⟩ := BK5.c2; obtain ⟨g0, g1, -⟩ := BK5.f3)))
    all_goals go_wp2_with (fail)
    all_goals go_meet
    all_goals first
      | exact ⟨_, rfl, rfl, Lib.hid (Blk.new w5 _ _), B5.size, B5.alloc B5.size _⟩
      | exact ⟨_, rfl, rfl, Lib.hid ((BK5.set 0 _).set 1 _), Nat.le_refl _, (B5.setCell (p := ⟨_, 0, none⟩) (Nat.le_refl _) _).setCell (p := ⟨_, 1, none⟩) (Nat.le_refl _) _⟩
  case rest =>
    obtain ⟨b, rfl, rfl, HBK, hb, bel⟩ := hcut
    obtain ⟨tl, t0, t1, t2, t3, t4, t5, t6, t7⟩ := (HG.out.T.below bel).box.c8
    have y0 : wc.cell? ⟨w.heap.size, 0, none⟩ = some (.pointer (some ⟨t.tb, 0, none⟩)) := by rw [bel.cell xl]; exact x0
    go_wp2_with (fail)
    clear t0 t1 t2 t3 t4 t5 t6 t7 y0 tl
    go_loopw [4, 5, 6, 7, 20] (fun s4 _ _ _ s20 wr => ∃ (i : Nat) (num rest : Int), s20 = .int .i64 (i : Int) ∧ s4 = .int .i64 rest ∧ i ≤ O.length ∧ Hid (InvP O W J a i num rest) ∧ Hid (Blk wr b [.pointer (some ⟨t.tb, 0, none⟩), .int .i64 num] 75) ∧ Below W0.heap.size W0 wr) (fun _ _ _ _ s20 _ => O.length - (intOf s20).toNat)
    case atStart => exact ⟨0, 0, X, rfl, rfl, by omega, HST, HBK, bel⟩
    case round =>
      clear HST HBK bel
      obtain ⟨i, num, rest, rfl, rfl, hi, HP, HBK, bel⟩ := hrel
      have Z := bel.size
      have y0 : wr.cell? ⟨w.heap.size, 0, none⟩ = some (.pointer (some ⟨t.tb, 0, none⟩)) := by rw [bel.cell xl]; exact x0
      by_cases hlt : i < O.length
      · have i0 : (0 : Int) ≤ (i : Int) := by omega
        have i1 : (i : Int) < (O.length : Int) := by omega
        have HC := Lib.hid (gen_any HG.out.V (HG.out.T.below bel) i hlt)
        have HTB := Lib.hid ((HG.out.T).tabs i (Nat.zero_le _) hlt)
        obtain ⟨gP, B, cT, hAP, hgP, hcT, hRT⟩ := HTB.out
        have hcT' : wr.cell? ⟨gP, i, none⟩ = some (.slice B (Num.tabL (Num.tlL O W J i)).length cT) := by rw [bel.cell hgP]; exact hcT
        have HRT := Lib.hid hRT
        obtain ⟨T, s, I, er, en⟩ : ∃ T s, Num.InvS (Num.tlL O W J 0) a i T 0 s ∧ rest = Num.numL (Num.tlL O W J i) s ∧ num = Num.numL (Num.tlL O W J 0) (T ++ 0 :: Num.zer (O.length - (i + 1))) := by
          rcases HP.out with ⟨T, s, -, h1, h2, h3⟩ | ⟨h1, -⟩
          · exact ⟨T, s, h1, h2, h3⟩
          · omega
        have HI := Lib.hid I
        have HEN := Lib.hid en
        have hs1 := HG.out.V
        have hb1 := szL_bd HG.out.V (i + 1)
        have HTL : Hid (((Num.tabL (Num.tlL O W J i)).length : Int) = Num.szL (Num.tlL O W J i)) := Lib.hid (Num.tabL_len (HG.out.V.ok i))
        subst er
        clear HTB hcT hRT I en HP hs1
        generalize hs1 : Num.szL (Num.tlL O W J (i + 1)) = s1 at *
        have HS1 := Lib.hid hs1
        obtain ⟨tabn, htabn⟩ : ∃ n, n = (Num.tabL (Num.tlL O W J i)).length := ⟨_, rfl⟩
        rw [← htabn] at hcT' HTL
        have HTN := Lib.hid htabn
        clear hs1 htabn
        go_wp2_with (fail)
        refine HC.out.mono ?_; rintro e w1 ⟨rfl, rfl⟩
        clear HC
        go_wp2_with (fail)
        clear hcT' y0
        generalize hWR : wr = W1 at *
        clear hWR
        go_loopw [4] (fun s4' wr => ∃ (c : Int) (s : List Int) (num : Int), s4' = .int .i64 (Num.numL (Num.tlL O W J i) s) ∧ Hid (Num.InvS (Num.tlL O W J 0) a i T c s) ∧ Hid (num = Num.numL (Num.tlL O W J 0) (T ++ c :: Num.zer (O.length - (i + 1)))) ∧ Hid (Blk wr b [.pointer (some ⟨t.tb, 0, none⟩), .int .i64 num] 75) ∧ Below W0.heap.size W0 wr) (fun _ wr => (117649 - intOf ((wr.cell? ⟨b, 1, none⟩).getD undef)).toNat)
        case atStart => exact ⟨0, s, num, rfl, HI, HEN, HBK, bel⟩
        case round =>
          clear HI HEN HBK bel Z
          obtain ⟨c, s, num, rfl, HI, HEN, HBK, bel⟩ := hrel
          obtain ⟨hsm, hr0, hr1⟩ := HI.out.small (HG.out.V.ok 0)
          rw [Num.tlL_drop, Num.tlL_drop, Nat.zero_add, Nat.zero_add] at hsm
          rw [Num.tlL_drop, Nat.zero_add] at hr0 hr1
          rw [HS1.out] at hsm
          have hnb := num_bd HG.out.V HI.out.elT
          rw [Num.tlL_len, Nat.sub_zero, ← HEN.out] at hnb
          obtain ⟨bl, z0, z1⟩ := HBK.out.c2
          obtain ⟨g0, g1, -⟩ := HBK.out.f3
          by_cases hs : s.headD 0 = 0
          · have hlt1 : Num.numL (Num.tlL O W J i) s < s1 := hsm.mpr hs
            have HP2 : Hid (InvP O W J a (i + 1) num (Num.numL (Num.tlL O W J i) s)) := Lib.hid (by
              by_cases hk : i + 1 < O.length
              · left
                obtain ⟨n1, n2, n3⟩ := HI.out.next (HG.out.V.ok 0) hs (by rw [Num.tlL_len]; omega)
                rw [Num.tlL_drop, Num.tlL_drop, Nat.zero_add, Nat.zero_add] at n2
                rw [Num.tlL_len, Nat.sub_zero] at n3
                exact ⟨_, _, hk, n1, n2, by rw [n3]; exact HEN.out⟩
              · right
                have n1 := HI.out.done (HG.out.V.ok 0) HG.out.C HA.out hs (by rw [Num.tlL_len]; omega)
                rw [Num.tlL_len, Nat.sub_zero] at n1
                exact ⟨by omega, by rw [HEN.out, n1]⟩)
            generalize Num.numL (Num.tlL O W J i) s = m at *
            have hge : ¬ s1 ≤ m := by omega
            clear hsm hs HI HEN
            go_wp2_with (fail)
            exact ⟨⟨_, _, _, _, .int .i64 ((i + 1 : Nat) : Int), ⟨i + 1, rfl, num, m, rfl, by omega, HP2, HBK⟩, rfl, rfl, rfl, rfl, by go_num⟩, by simp [intOf]; omega⟩
          · have hge1 : s1 ≤ Num.numL (Num.tlL O W J i) s := by
              rcases Int.lt_or_le (Num.numL (Num.tlL O W J i) s) s1 with h | h
              · exact absurd (hsm.mp h) hs
              · exact h
            obtain ⟨n1, n2⟩ := HI.out.step (HG.out.V.ok 0) HG.out.C HA.out hs
            rw [Num.tlL_len, Nat.sub_zero, Num.tlL_drop, Nat.zero_add, HS1.out, ← HEN.out] at n2
            rw [Num.tlL_drop, Nat.zero_add] at n1
            have hnb2 := num_bd HG.out.V n1.elT
            rw [Num.tlL_len, Nat.sub_zero, n2] at hnb2
            have HI2 := Lib.hid n1
            have HN2 := Lib.hid n2.symm
            have hES := HI.out.elS
            rw [Num.tlL_drop, Nat.zero_add] at hES
            have htab := Num.tabL_at (HG.out.V.ok i) hES
            obtain ⟨gT, oT, rfl, hgT, hcV⟩ := HRT.out (Num.numL (Num.tlL O W J i) s).toNat (by have := HTL.out; rw [← HTN.out]; omega)
            rw [htab] at hcV
            have hcV' := (bel.cell hgT).trans hcV
            have hix : Num.numL (Num.tlL O W J i) s < (tabn : Int) := by rw [HTL.out]; exact hr1
            have hwr : IntKind.i64.wrap (num + s1) = num + s1 := IntWalk.i64_in _ (by omega)
            have hgb : gT ≠ b := by omega
            clear n1 n2 hES htab hcV hsm hs HI HEN
            generalize Num.mulL (Num.tlL O W J i) s (Num.genL (Num.tlL O W J i)) = s2 at *
            generalize Num.numL (Num.tlL O W J i) s = m at *
            have HB2 := Lib.hid (HBK.out.set 1 (.int .i64 (num + s1)))
            have L2 := bel.setCell (p := ⟨b, 1, none⟩) hb (.int .i64 (num + s1))
            clear HBK
            go_wp2_with (fail)
            refine ⟨⟨c + 1, s2, num + s1, rfl, HI2, HN2, HB2, L2⟩, ?_⟩
            have z1' := HB2.out.c2.2.2
            rw [z1', z1]
            simp [intOf]
            omega
      · have hge : ¬ ((i : Int) < (O.length : Int)) := by omega
        have HR : Hid (num = Num.numL (Num.tlL O W J 0) (Num.invL (Num.tlL O W J 0) a)) := Lib.hid (by
          rcases HP.out with ⟨T, s, h0, -⟩ | ⟨-, h1⟩
          · omega
          · exact h1)
        obtain ⟨bl, z0, z1⟩ := HBK.out.c2
        have BR := HBR.out.below bel
        obtain ⟨rl, r0, r1⟩ := BR.c2
        obtain ⟨f0, f1, -⟩ := BR.f3
        clear HP
        go_wp2_with (fail)
        refine bodyPost_ret (v := elV t.tb num) (by simp [results, Try.results69, go_sem, rl, r0, r1]) rfl ⟨by rw [HR.out], ?_⟩
        exact ((bstep b0 b0.size bel).setCell (p := ⟨w.heap.size + 1, 0, none⟩) (by show w.heap.size ≤ w.heap.size + 1; omega) _).setCell (p := ⟨w.heap.size + 1, 1, none⟩) (by show w.heap.size ≤ w.heap.size + 1; omega) _
end Go.Proofs.Yteappjgdcbploaa
namespace Go.Proofs.Yteappjgdcbploaa
open Go.RowKit
set_option linter.unusedVariables false
set_option linter.unusedSimpArgs false

theorem field_value (a m : Int) (w : World) : (Instr.field 125 (.agg #[.int .i64 a, .int .i64 m]) 0).run Try.prog w = .ok (.int .i64 a) w := by kernel_rfl

theorem removePrime_any (n p : Int) (w : World) (hp1 : 2 ≤ p) (hp2 : p ≤ 1000000) (hn1 : 1 ≤ n) (hn2 : n ≤ 1000000) :
    Calls Try.prog 140 #[.int .i64 n, .int .i64 p] w fun e w' => e = .returned (.tuple #[.int .i64 (Num.ve p n), .int .i64 (Num.vr p n)]) ∧ w = w' := by
  go_enter Try.func140, Try.ntmps140
  go_wp2
  go_loop [0, 6] (fun s0 s6 => ∃ c k : Int, s0 = .int .i64 c ∧ s6 = .int .i64 k ∧ Num.RemInv p n c k) (fun s0 _ => (intOf s0).toNat)
  case atStart => exact ⟨n, 0, rfl, rfl, Num.remInv_start hn1⟩
  case round =>
    obtain ⟨c, k, rfl, rfl, hi⟩ := hrel
    obtain ⟨b1, b2, b3⟩ := Num.remInv_bd hi
    by_cases hd : c % p = 0
    · obtain ⟨d1, d2, d3⟩ := Num.div_bd hp1 b1 hd
      have hs := Num.remInv_step hp1 hi hd
      have ht : (c % p == 0) = true := by simp [hd]
      clear d3 hd
      go_wp2
      exact ⟨⟨_, _, rfl, rfl, hs⟩, by simp [intOf]; omega⟩
    · have ht : (c % p == 0) = false := by simp [hd]
      obtain ⟨h1, h2⟩ := Num.remInv_end hp1 hi hd
      have H1 := Lib.hid h1
      have H2 := Lib.hid h2
      clear h1 h2
      go_wp2
      go_ret2
      exact ⟨ret_int2 H1.out H2.out, rfl⟩

/-! ### ModPower -/
def MpBad (x m : Int) : Prop := (m < 1 ∨ 1000000 < m) ∨ x < 0 ∨ 1000000 < x
/-! ### ModInverse, UnitOrder's ends, RationalMod, Bezout -/
end Go.Proofs.Yteappjgdcbploaa
namespace Go.Proofs.Yteappjgdcbploaa
open Go.RowKit
set_option linter.unusedVariables false
set_option linter.unusedSimpArgs false

set_option maxRecDepth 100000 in
set_option maxHeartbeats 4000000 in
theorem elPower_any {O : List Int} {W : List (List Int)} {J : List (List (List Int))} {t : Tw} {w : World} (G : Gr O W J t w) (a : List Int) (ha : Num.El (Num.tlL O W J 0) a) (k : Int) :
    Calls Try.prog 74 #[elV t.tb (Num.numL (Num.tlL O W J 0) a), .int .i64 k] w (RetE t.tb (Num.numL (Num.tlL O W J 0) (Num.powZ (Num.tlL O W J 0) a k)) w) := by
  have n6 := G.V.n6
  have M := Num.Con.mon' G.V G.C
  rw [Nat.sub_zero] at M
  have HM := Lib.hid M
  have hbd := szL_bd G.V 0
  have HR : Hid (Num.pw (Num.mulL (Num.tlL O W J 0)) (Num.zer O.length) a (k % Num.szL (Num.tlL O W J 0)).toNat = Num.powZ (Num.tlL O W J 0) a k) := Lib.hid (by
    have := Num.powZ_mod (G.V.ok 0) G.C ha k
    rwa [Num.tlL_len, Nat.sub_zero] at this)
  have e0 : Num.numL (Num.tlL O W J 0) (Num.zer O.length) = 0 := by
    have := Num.numL_zer (Num.tlL O W J 0)
    rwa [Num.tlL_len, Nat.sub_zero] at this
  have E0 := Lib.hid e0
  obtain ⟨X, hX⟩ : ∃ X, X = Num.numL (Num.tlL O W J 0) a := ⟨_, rfl⟩
  have HX := Lib.hid hX
  rw [← hX]
  have b0 : Below w.heap.size w ((w.alloc (.cells #[.pointer (some ⟨t.tb, 0, none⟩), .int .i64 X] 75)).alloc (.cells #[.pointer none, .int .i64 0] 75)) := by go_grown
  have BX := (Blk.new w [.pointer (some ⟨t.tb, 0, none⟩), .int .i64 X] 75).alloc (.cells #[.pointer none, .int .i64 0] 75)
  have BR : Blk ((w.alloc (.cells #[.pointer (some ⟨t.tb, 0, none⟩), .int .i64 X] 75)).alloc (.cells #[.pointer none, .int .i64 0] 75)) (w.heap.size + 1) [.pointer none, .int .i64 0] 75 := by
    have := Blk.new (w.alloc (.cells #[.pointer (some ⟨t.tb, 0, none⟩), .int .i64 X] 75)) [.pointer none, .int .i64 0] 75
    simpa using this
  generalize hW0 : (w.alloc (.cells #[.pointer (some ⟨t.tb, 0, none⟩), .int .i64 X] 75)).alloc (.cells #[.pointer none, .int .i64 0] 75) = W0 at *
  have HG := Lib.hid (G.below b0)
  have HA := Lib.hid ha
  obtain ⟨xl, x0, x1⟩ := BX.c2
  have HBR := Lib.hid BR
  have HBX := Lib.hid BX
  have HI := Lib.hid (identity_any t.tb W0)
  clear G ha hX BX BR M e0
  unfold RetE at HI ⊢
  go_enter Try.func74, Try.ntmps74
  go_wp2_with (fail)
  clear hW0
  refine HI.out.mono ?_; rintro e w1 ⟨rfl, hb1⟩
  have bA : Below w1.heap.size w1 ((w1.alloc (.cells #[.pointer (some ⟨t.tb, 0, none⟩), .int .i64 0] 75)).alloc (.cells #[.pointer (some ⟨t.tb, 0, none⟩), .int .i64 X] 75)) := by go_grown
  have B5 := (Blk.new w1 [.pointer (some ⟨t.tb, 0, none⟩), .int .i64 0] 75).alloc (.cells #[.pointer (some ⟨t.tb, 0, none⟩), .int .i64 X] 75)
  have B6 : Blk ((w1.alloc (.cells #[.pointer (some ⟨t.tb, 0, none⟩), .int .i64 0] 75)).alloc (.cells #[.pointer (some ⟨t.tb, 0, none⟩), .int .i64 X] 75)) (w1.heap.size + 1) [.pointer (some ⟨t.tb, 0, none⟩), .int .i64 X] 75 := by
    have := Blk.new (w1.alloc (.cells #[.pointer (some ⟨t.tb, 0, none⟩), .int .i64 0] 75)) [.pointer (some ⟨t.tb, 0, none⟩), .int .i64 X] 75
    simpa using this
  have hz1 : W0.heap.size ≤ w1.heap.size := hb1.size
  have t1 : w.heap.size < w1.heap.size := Nat.lt_of_lt_of_le xl hz1
  have y0 : w1.cell? ⟨w.heap.size, 0, none⟩ = some (.pointer (some ⟨t.tb, 0, none⟩)) := by rw [hb1.cell xl]; exact x0
  have y1 : w1.cell? ⟨w.heap.size, 1, none⟩ = some (.int .i64 X) := by rw [hb1.cell xl]; exact x1
  have L2 := bstep hb1 hb1.size bA
  have HORD := Lib.hid (order_any (HG.out.below L2))
  generalize hs : Num.szL (Num.tlL O W J 0) = sz at *
  have HRES : Hid (∀ W', Calls Try.prog 113 #[.int .i64 k, .int .i64 sz] W' fun e w' => e = .returned (.agg #[.int .i64 (k % sz), .int .i64 sz]) ∧ Below W'.heap.size W' w') := Lib.hid fun W' => residueOf_any k sz W' hbd.1 (by omega)
  have hr0 := Int.emod_nonneg k (show sz ≠ 0 by omega)
  have hr1 := Int.emod_lt_of_pos k (show 0 < sz by omega)
  have hfv := field_value (k % sz) sz
  go_wp2_with (fail)
  refine HORD.out.mono ?_; rintro e w2 ⟨rfl, hb2⟩
  go_wp2_with (fail)
  refine (HRES.out _).mono ?_; rintro e w3 ⟨rfl, hb3⟩
  have L3 := bstep (bstep L2 L2.size hb2) (by have := L2.size; have := hb2.size; omega) hb3
  have HB5 := Lib.hid ((B5.below hb2).below hb3)
  have HB6 := Lib.hid ((B6.below hb2).below hb3)
  clear HORD HRES B5 B6 bA hb1 hb2 hb3 L2 y0 y1 t1
  generalize hr : k % sz = r at *
  generalize hb5 : w1.heap.size = b5 at *
  have hb5W : W0.heap.size ≤ b5 := by omega
  clear hb5 x0 x1
  go_wp2_with (fail)
  clear hfv
  go_loopw [7] (fun s7 wr => ∃ (x : Int) (p s : List Int), s7 = .int .i64 x ∧ 0 ≤ x ∧ x ≤ 117649 ∧ Hid (Num.El (Num.tlL O W J 0) p) ∧ Hid (Num.El (Num.tlL O W J 0) s) ∧ Hid (Num.mulL (Num.tlL O W J 0) p (Num.pw (Num.mulL (Num.tlL O W J 0)) (Num.zer O.length) s x.toNat) = Num.powZ (Num.tlL O W J 0) a k) ∧ Hid (Blk wr b5 [.pointer (some ⟨t.tb, 0, none⟩), .int .i64 (Num.numL (Num.tlL O W J 0) p)] 75) ∧ Hid (Blk wr (b5 + 1) [.pointer (some ⟨t.tb, 0, none⟩), .int .i64 (Num.numL (Num.tlL O W J 0) s)] 75) ∧ Below W0.heap.size W0 wr) (fun s7 _ => (intOf s7).toNat)
  case atStart => exact ⟨r, Num.zer O.length, a, rfl, hr0, by omega, Lib.hid HM.out.one, HA, Lib.hid (by rw [← HR.out]; exact HM.out.onel _ (HM.out.pw_P HA.out _)), by rw [E0.out]; exact HB5, by rw [← HX.out]; exact HB6, L3⟩
  case round =>
    clear HB5 HB6 L3 HR hr0 hr1 hr
    obtain ⟨x, p, s, rfl, hx0, hx1, HP, HS, HT, HB5, HB6, bel⟩ := hrel
    have HGr := Lib.hid (HG.out.below bel)
    have Z := bel.size
    obtain ⟨l5, c50, c51⟩ := HB5.out.c2
    obtain ⟨l6, c60, c61⟩ := HB6.out.c2
    by_cases hpos : 0 < x
    · have hm : x.tmod 2 = x % 2 := Int.tmod_eq_emod_of_nonneg (by omega)
      have hd : x.tdiv 2 = x / 2 := Int.tdiv_eq_ediv_of_nonneg (by omega)
      have hw : IntKind.i64.wrap (x / 2) = x / 2 := IntWalk.i64_in _ (by omega)
      have hw' : IntKind.i64.wrap (x % 2) = x % 2 := IntWalk.i64_in _ (by omega)
      have hst := Num.sq_step HM.out HP.out HS.out x.toNat
      have hx2 : (x / 2).toNat = x.toNat / 2 := by omega
      have HSS := Lib.hid (HM.out.op _ _ HS.out HS.out)
      have HTS : Hid (∀ W', Below W0.heap.size W0 W' → _) := Lib.hid fun W' hb => elTimes_any (HG.out.below hb) s s HS.out HS.out
      unfold RetE at HTS
      by_cases ho : x % 2 = 1
      · have HPS := Lib.hid (HM.out.op _ _ HP.out HS.out)
        have HT2 : Hid (Num.mulL (Num.tlL O W J 0) (Num.mulL (Num.tlL O W J 0) p s) (Num.pw (Num.mulL (Num.tlL O W J 0)) (Num.zer O.length) (Num.mulL (Num.tlL O W J 0) s s) (x / 2).toNat) = Num.powZ (Num.tlL O W J 0) a k) := Lib.hid (by
          rw [if_pos (by omega)] at hst
          rw [hx2, ← hst, HT.out])
        have HTP := Lib.hid (elTimes_any HGr.out p s HP.out HS.out)
        unfold RetE at HTP
        clear hst HT
        generalize Num.mulL (Num.tlL O W J 0) p s = p2 at *
        generalize Num.mulL (Num.tlL O W J 0) s s = s2 at *
        go_wp2_with (fail)
        refine HTP.out.mono ?_; rintro e w5 ⟨rfl, hb5⟩
        have L5 := bstep bel Z hb5
        have D5 := HB5.out.below hb5
        have D6 := HB6.out.below hb5
        obtain ⟨m5, d50, d51⟩ := D5.c2
        obtain ⟨g50, g51, -⟩ := D5.f3
        obtain ⟨wA, hA⟩ : ∃ wA, (w5.setCell ⟨b5, 0, none⟩ (.pointer (some ⟨t.tb, 0, none⟩))).setCell ⟨b5, 1, none⟩ (.int .i64 (Num.numL (Num.tlL O W J 0) p2)) = wA := ⟨_, rfl⟩
        have E5 : Blk wA b5 [.pointer (some ⟨t.tb, 0, none⟩), .int .i64 (Num.numL (Num.tlL O W J 0) p2)] 75 := by rw [← hA]; exact (D5.set 0 _).set 1 _
        have E6 : Blk wA (b5 + 1) [.pointer (some ⟨t.tb, 0, none⟩), .int .i64 (Num.numL (Num.tlL O W J 0) s)] 75 := by rw [← hA]; exact (D6.other (p := ⟨b5, 0, none⟩) (by show b5 + 1 ≠ b5; omega) _).other (p := ⟨b5, 1, none⟩) (by show b5 + 1 ≠ b5; omega) _
        have LA : Below W0.heap.size W0 wA := by rw [← hA]; exact (L5.setCell (p := ⟨b5, 0, none⟩) hb5W _).setCell (p := ⟨b5, 1, none⟩) hb5W _
        obtain ⟨n6', e60, e61⟩ := E6.c2
        have HC2 := Lib.hid (HTS.out wA LA)
        clear HTP hb5 HTS c50 c51 c60 c61 D6 L5 HB5 HB6 l5 l6
        go_wp2_with (fail)
        refine HC2.out.mono ?_; rintro e w6 ⟨rfl, hb6⟩
        have F5 := E5.below hb6
        have F6 := E6.below hb6
        obtain ⟨q6, f60, f61⟩ := F6.c2
        obtain ⟨g60, g61, -⟩ := F6.f3
        have L6 := bstep LA LA.size hb6
        have X5 := Lib.hid ((F5.other (p := ⟨b5 + 1, 0, none⟩) (by show b5 ≠ b5 + 1; omega) (.pointer (some ⟨t.tb, 0, none⟩))).other (p := ⟨b5 + 1, 1, none⟩) (by show b5 ≠ b5 + 1; omega) (.int .i64 (Num.numL (Num.tlL O W J 0) s2)))
        have X6 := Lib.hid ((F6.set 0 (.pointer (some ⟨t.tb, 0, none⟩))).set 1 (.int .i64 (Num.numL (Num.tlL O W J 0) s2)))
        have LX := (L6.setCell (p := ⟨b5 + 1, 0, none⟩) (by show _ ≤ b5 + 1; omega) (.pointer (some ⟨t.tb, 0, none⟩))).setCell (p := ⟨b5 + 1, 1, none⟩) (by show _ ≤ b5 + 1; omega) (.int .i64 (Num.numL (Num.tlL O W J 0) s2))
        clear HC2 hb6 E5 E6 F5 F6 L6 hA e60 e61 d50 d51 g50 g51
        go_wp2_with (fail)
        exact ⟨⟨x / 2, p2, s2, rfl, by omega, by omega, HPS, HSS, HT2, X5, X6, LX⟩, by simp [intOf]; omega⟩
      · have hob : (x % 2 == 1) = false := by simp [ho]
        have HT2 : Hid (Num.mulL (Num.tlL O W J 0) p (Num.pw (Num.mulL (Num.tlL O W J 0)) (Num.zer O.length) (Num.mulL (Num.tlL O W J 0) s s) (x / 2).toNat) = Num.powZ (Num.tlL O W J 0) a k) := Lib.hid (by
          rw [if_neg (by omega)] at hst
          rw [hx2, ← hst, HT.out])
        have HC2 := Lib.hid (HTS.out wr bel)
        clear hst HT HTS
        generalize Num.mulL (Num.tlL O W J 0) s s = s2 at *
        go_wp2_with (fail)
        refine HC2.out.mono ?_; rintro e w6 ⟨rfl, hb6⟩
        have F5 := HB5.out.below hb6
        have F6 := HB6.out.below hb6
        obtain ⟨q6, f60, f61⟩ := F6.c2
        obtain ⟨g60, g61, -⟩ := F6.f3
        have L6 := bstep bel bel.size hb6
        have X5 := Lib.hid ((F5.other (p := ⟨b5 + 1, 0, none⟩) (by show b5 ≠ b5 + 1; omega) (.pointer (some ⟨t.tb, 0, none⟩))).other (p := ⟨b5 + 1, 1, none⟩) (by show b5 ≠ b5 + 1; omega) (.int .i64 (Num.numL (Num.tlL O W J 0) s2)))
        have X6 := Lib.hid ((F6.set 0 (.pointer (some ⟨t.tb, 0, none⟩))).set 1 (.int .i64 (Num.numL (Num.tlL O W J 0) s2)))
        have LX := (L6.setCell (p := ⟨b5 + 1, 0, none⟩) (by show _ ≤ b5 + 1; omega) (.pointer (some ⟨t.tb, 0, none⟩))).setCell (p := ⟨b5 + 1, 1, none⟩) (by show _ ≤ b5 + 1; omega) (.int .i64 (Num.numL (Num.tlL O W J 0) s2))
        clear HC2 hb6 F5 F6 L6 c50 c51 c60 c61
        go_wp2_with (fail)
        exact ⟨⟨x / 2, p, s2, rfl, by omega, by omega, HP, HSS, HT2, X5, X6, LX⟩, by simp [intOf]; omega⟩
    · obtain rfl : x = 0 := by omega
      have HF : Hid (Num.numL (Num.tlL O W J 0) p = Num.numL (Num.tlL O W J 0) (Num.powZ (Num.tlL O W J 0) a k)) := Lib.hid (by
        rw [← HT.out]
        congr 1
        exact (HM.out.oner _ HP.out).symm)
      have BR := HBR.out.below bel
      obtain ⟨rl, r0, r1⟩ := BR.c2
      obtain ⟨f0, f1, -⟩ := BR.f3
      clear HT
      generalize Num.numL (Num.tlL O W J 0) p = np at *
      go_wp2_with (fail)
      refine bodyPost_ret (v := elV t.tb np) (by simp [results, Try.results74, go_sem, rl, r0, r1]) rfl ⟨by rw [HF.out], ?_⟩
      exact ((bstep b0 b0.size bel).setCell (p := ⟨w.heap.size + 1, 0, none⟩) (by show w.heap.size ≤ w.heap.size + 1; omega) _).setCell (p := ⟨w.heap.size + 1, 1, none⟩) (by show w.heap.size ≤ w.heap.size + 1; omega) _
end Go.Proofs.Yteappjgdcbploaa
namespace Go.Proofs.Yteappjgdcbploaa
open Go.RowKit
set_option linter.unusedVariables false
set_option linter.unusedSimpArgs false

set_option maxRecDepth 100000 in
set_option maxHeartbeats 4000000 in
theorem elConj_any {O : List Int} {W : List (List Int)} {J : List (List (List Int))} {t : Tw} {w : World} (G : Gr O W J t w) (a b : List Int) (ha : Num.El (Num.tlL O W J 0) a) (hb : Num.El (Num.tlL O W J 0) b) :
    Calls Try.prog 76 #[elV t.tb (Num.numL (Num.tlL O W J 0) a), elV t.tb (Num.numL (Num.tlL O W J 0) b)] w (RetE t.tb (Num.numL (Num.tlL O W J 0) (Num.mulL (Num.tlL O W J 0) (Num.mulL (Num.tlL O W J 0) (Num.invL (Num.tlL O W J 0) b) a) b)) w) := by
  have iy := Num.inv_El G.ok hb
  have ix := Num.inv_El G.ok ha
  have b0' : ∀ x y : Int, Below w.heap.size w (((w.alloc (.cells #[.pointer (some ⟨t.tb, 0, none⟩), .int .i64 x] 75)).alloc (.cells #[.pointer (some ⟨t.tb, 0, none⟩), .int .i64 y] 75)).alloc (.cells #[.pointer none, .int .i64 0] 75)) := fun x y => by go_grown
  have H1 : Hid (∀ W', Below w.heap.size w W' → _) := Lib.hid fun W' h => inverse_any (G.below h) b hb
  have H2 : Hid (∀ W', Below w.heap.size w W' → _) := Lib.hid fun W' h => elTimes_any (G.below h) (Num.invL (Num.tlL O W J 0) b) a iy ha
  have H3 : Hid (∀ W', Below w.heap.size w W' → _) := Lib.hid fun W' h => elTimes_any (G.below h) (Num.mulL (Num.tlL O W J 0) (Num.invL (Num.tlL O W J 0) b) a) b (Num.El.mul G.ok iy ha) hb
  unfold RetE at H1 H2 H3 ⊢
  generalize Num.numL (Num.tlL O W J 0) (Num.mulL (Num.tlL O W J 0) (Num.mulL (Num.tlL O W J 0) (Num.invL (Num.tlL O W J 0) b) a) b) = z at *
  generalize Num.numL (Num.tlL O W J 0) (Num.mulL (Num.tlL O W J 0) (Num.invL (Num.tlL O W J 0) b) a) = z10 at *
  generalize Num.numL (Num.tlL O W J 0) (Num.invL (Num.tlL O W J 0) b) = z11 at *
  generalize Num.numL (Num.tlL O W J 0) a = x at *
  generalize Num.numL (Num.tlL O W J 0) b = y at *
  have b0 := b0' x y
  clear b0'
  have BX := ((Blk.new w [.pointer (some ⟨t.tb, 0, none⟩), .int .i64 x] 75).alloc (.cells #[.pointer (some ⟨t.tb, 0, none⟩), .int .i64 y] 75)).alloc (.cells #[.pointer none, .int .i64 0] 75)
  have BY : Blk (((w.alloc (.cells #[.pointer (some ⟨t.tb, 0, none⟩), .int .i64 x] 75)).alloc (.cells #[.pointer (some ⟨t.tb, 0, none⟩), .int .i64 y] 75)).alloc (.cells #[.pointer none, .int .i64 0] 75)) (w.heap.size + 1) [.pointer (some ⟨t.tb, 0, none⟩), .int .i64 y] 75 := by
    have := (Blk.new (w.alloc (.cells #[.pointer (some ⟨t.tb, 0, none⟩), .int .i64 x] 75)) [.pointer (some ⟨t.tb, 0, none⟩), .int .i64 y] 75).alloc (.cells #[.pointer none, .int .i64 0] 75)
    simpa using this
  have BR : Blk (((w.alloc (.cells #[.pointer (some ⟨t.tb, 0, none⟩), .int .i64 x] 75)).alloc (.cells #[.pointer (some ⟨t.tb, 0, none⟩), .int .i64 y] 75)).alloc (.cells #[.pointer none, .int .i64 0] 75)) (w.heap.size + 1 + 1) [.pointer none, .int .i64 0] 75 := by
    have := Blk.new ((w.alloc (.cells #[.pointer (some ⟨t.tb, 0, none⟩), .int .i64 x] 75)).alloc (.cells #[.pointer (some ⟨t.tb, 0, none⟩), .int .i64 y] 75)) [.pointer none, .int .i64 0] 75
    simpa using this
  generalize hW0 : (((w.alloc (.cells #[.pointer (some ⟨t.tb, 0, none⟩), .int .i64 x] 75)).alloc (.cells #[.pointer (some ⟨t.tb, 0, none⟩), .int .i64 y] 75)).alloc (.cells #[.pointer none, .int .i64 0] 75)) = W0 at *
  have KX : ∀ {W'}, Below W0.heap.size W0 W' → W'.cell? ⟨w.heap.size, 0, none⟩ = some (.pointer (some ⟨t.tb, 0, none⟩)) ∧ W'.cell? ⟨w.heap.size, 1, none⟩ = some (.int .i64 x) ∧ W'.cell? ⟨w.heap.size + 1, 0, none⟩ = some (.pointer (some ⟨t.tb, 0, none⟩)) ∧ W'.cell? ⟨w.heap.size + 1, 1, none⟩ = some (.int .i64 y) := fun hb => by
    obtain ⟨-, a0, a1⟩ := (BX.below hb).c2
    obtain ⟨-, c0, c1⟩ := (BY.below hb).c2
    exact ⟨a0, a1, c0, c1⟩
  have KS : ∀ {W'}, Below W0.heap.size W0 W' → ((W'.setCell ⟨w.heap.size + 1 + 1, 0, none⟩ (.pointer (some ⟨t.tb, 0, none⟩))).setCell ⟨w.heap.size + 1 + 1, 1, none⟩ (.int .i64 z)).cell? ⟨w.heap.size, 0, none⟩ = some (.pointer (some ⟨t.tb, 0, none⟩)) ∧ ((W'.setCell ⟨w.heap.size + 1 + 1, 0, none⟩ (.pointer (some ⟨t.tb, 0, none⟩))).setCell ⟨w.heap.size + 1 + 1, 1, none⟩ (.int .i64 z)).cell? ⟨w.heap.size, 1, none⟩ = some (.int .i64 x) ∧ ((W'.setCell ⟨w.heap.size + 1 + 1, 0, none⟩ (.pointer (some ⟨t.tb, 0, none⟩))).setCell ⟨w.heap.size + 1 + 1, 1, none⟩ (.int .i64 z)).cell? ⟨w.heap.size + 1, 0, none⟩ = some (.pointer (some ⟨t.tb, 0, none⟩)) ∧ ((W'.setCell ⟨w.heap.size + 1 + 1, 0, none⟩ (.pointer (some ⟨t.tb, 0, none⟩))).setCell ⟨w.heap.size + 1 + 1, 1, none⟩ (.int .i64 z)).cell? ⟨w.heap.size + 1, 1, none⟩ = some (.int .i64 y) := fun {W'} hb => by
    obtain ⟨-, a0, a1⟩ := (((BX.below hb).other (p := ⟨w.heap.size + 1 + 1, 0, none⟩) (by show w.heap.size ≠ w.heap.size + 1 + 1; omega) (.pointer (some ⟨t.tb, 0, none⟩))).other (p := ⟨w.heap.size + 1 + 1, 1, none⟩) (by show w.heap.size ≠ w.heap.size + 1 + 1; omega) (.int .i64 z)).c2
    obtain ⟨-, c0, c1⟩ := (((BY.below hb).other (p := ⟨w.heap.size + 1 + 1, 0, none⟩) (by show w.heap.size + 1 ≠ w.heap.size + 1 + 1; omega) (.pointer (some ⟨t.tb, 0, none⟩))).other (p := ⟨w.heap.size + 1 + 1, 1, none⟩) (by show w.heap.size + 1 ≠ w.heap.size + 1 + 1; omega) (.int .i64 z)).c2
    exact ⟨a0, a1, c0, c1⟩
  have HC1 := Lib.hid (H1.out W0.drew b0.drew)
  obtain ⟨x0, x1, y0, y1⟩ := KX (Below.refl _ _)
  clear G ha hb iy ix
  go_enter Try.func76, Try.ntmps76
  go_wp2_with (fail)
  clear hW0
  go_region_held3 (fun wx => wx.cell? ⟨w.heap.size, 0, none⟩ = some (.pointer (some ⟨t.tb, 0, none⟩)) ∧ wx.cell? ⟨w.heap.size, 1, none⟩ = some (.int .i64 x) ∧ wx.cell? ⟨w.heap.size + 1, 0, none⟩ = some (.pointer (some ⟨t.tb, 0, none⟩)) ∧ wx.cell? ⟨w.heap.size + 1, 1, none⟩ = some (.int .i64 y)) (first | assumption | go_keep) (first
    | (go_at_call 66; (with_reducible refine HC3'.out.mono ?_); rintro e w7 ⟨rfl, hb7⟩; have L7 := bstep L6 L6.size hb7; have SM7 := KX L7; have BR7 := BR.below L7; obtain ⟨rl, r0, r1⟩ := BR7.c2; obtain ⟨f0, f1, -⟩ := BR7.f3; have SM8 := KS L7)
    | (go_at_call 66; (with_reducible refine HC2'.out.mono ?_); rintro e w6 ⟨rfl, hb6⟩; have L6 := bstep L5 L5.size hb6; have SM6 := KX L6; have HC3' := Lib.hid (H3.out w6 (bstep b0 b0.size L6)))
    | (go_at_call 69; (with_reducible refine HC1.out.mono ?_); rintro e w5 ⟨rfl, hb5⟩; have L5 : Below W0.heap.size W0 w5 := (Below.refl _ _).drew.trans hb5; have SM5 := KX L5; have HC2' := Lib.hid (H2.out w5 (bstep b0 b0.size L5))))
  all_goals
    go_wp2_with (fail)
    refine bodyPost_ret (v := elV t.tb z) (by simp [results, Try.results76, go_sem, rl, r0, r1]) rfl ⟨rfl, ?_⟩
    exact ((bstep b0 b0.size L7).setCell (p := ⟨w.heap.size + 1 + 1, 0, none⟩) (by show w.heap.size ≤ w.heap.size + 1 + 1; omega) _).setCell (p := ⟨w.heap.size + 1 + 1, 1, none⟩) (by show w.heap.size ≤ w.heap.size + 1 + 1; omega) _
set_option maxRecDepth 100000 in
set_option maxHeartbeats 4000000 in
theorem elComm_any {O : List Int} {W : List (List Int)} {J : List (List (List Int))} {t : Tw} {w : World} (G : Gr O W J t w) (a b : List Int) (ha : Num.El (Num.tlL O W J 0) a) (hb : Num.El (Num.tlL O W J 0) b) :
    Calls Try.prog 78 #[elV t.tb (Num.numL (Num.tlL O W J 0) a), elV t.tb (Num.numL (Num.tlL O W J 0) b)] w (RetE t.tb (Num.numL (Num.tlL O W J 0) (Num.mulL (Num.tlL O W J 0) (Num.invL (Num.tlL O W J 0) a) (Num.mulL (Num.tlL O W J 0) (Num.mulL (Num.tlL O W J 0) (Num.invL (Num.tlL O W J 0) b) a) b))) w) := by
  have iy := Num.inv_El G.ok hb
  have ix := Num.inv_El G.ok ha
  have b0' : ∀ x y : Int, Below w.heap.size w (((w.alloc (.cells #[.pointer (some ⟨t.tb, 0, none⟩), .int .i64 x] 75)).alloc (.cells #[.pointer (some ⟨t.tb, 0, none⟩), .int .i64 y] 75)).alloc (.cells #[.pointer none, .int .i64 0] 75)) := fun x y => by go_grown
  have H1 : Hid (∀ W', Below w.heap.size w W' → _) := Lib.hid fun W' h => inverse_any (G.below h) a ha
  have H2 : Hid (∀ W', Below w.heap.size w W' → _) := Lib.hid fun W' h => elConj_any (G.below h) a b ha hb
  have H3 : Hid (∀ W', Below w.heap.size w W' → _) := Lib.hid fun W' h => elTimes_any (G.below h) (Num.invL (Num.tlL O W J 0) a) (Num.mulL (Num.tlL O W J 0) (Num.mulL (Num.tlL O W J 0) (Num.invL (Num.tlL O W J 0) b) a) b) ix (Num.El.mul G.ok (Num.El.mul G.ok iy ha) hb)
  unfold RetE at H1 H2 H3 ⊢
  generalize Num.numL (Num.tlL O W J 0) (Num.mulL (Num.tlL O W J 0) (Num.invL (Num.tlL O W J 0) a) (Num.mulL (Num.tlL O W J 0) (Num.mulL (Num.tlL O W J 0) (Num.invL (Num.tlL O W J 0) b) a) b)) = z at *
  generalize Num.numL (Num.tlL O W J 0) (Num.mulL (Num.tlL O W J 0) (Num.mulL (Num.tlL O W J 0) (Num.invL (Num.tlL O W J 0) b) a) b) = z10 at *
  generalize Num.numL (Num.tlL O W J 0) (Num.invL (Num.tlL O W J 0) a) = z11 at *
  generalize Num.numL (Num.tlL O W J 0) a = x at *
  generalize Num.numL (Num.tlL O W J 0) b = y at *
  have b0 := b0' x y
  clear b0'
  have BX := ((Blk.new w [.pointer (some ⟨t.tb, 0, none⟩), .int .i64 x] 75).alloc (.cells #[.pointer (some ⟨t.tb, 0, none⟩), .int .i64 y] 75)).alloc (.cells #[.pointer none, .int .i64 0] 75)
  have BY : Blk (((w.alloc (.cells #[.pointer (some ⟨t.tb, 0, none⟩), .int .i64 x] 75)).alloc (.cells #[.pointer (some ⟨t.tb, 0, none⟩), .int .i64 y] 75)).alloc (.cells #[.pointer none, .int .i64 0] 75)) (w.heap.size + 1) [.pointer (some ⟨t.tb, 0, none⟩), .int .i64 y] 75 := by
    have := (Blk.new (w.alloc (.cells #[.pointer (some ⟨t.tb, 0, none⟩), .int .i64 x] 75)) [.pointer (some ⟨t.tb, 0, none⟩), .int .i64 y] 75).alloc (.cells #[.pointer none, .int .i64 0] 75)
    simpa using this
  have BR : Blk (((w.alloc (.cells #[.pointer (some ⟨t.tb, 0, none⟩), .int .i64 x] 75)).alloc (.cells #[.pointer (some ⟨t.tb, 0, none⟩), .int .i64 y] 75)).alloc (.cells #[.pointer none, .int .i64 0] 75)) (w.heap.size + 1 + 1) [.pointer none, .int .i64 0] 75 := by
    have := Blk.new ((w.alloc (.cells #[.pointer (some ⟨t.tb, 0, none⟩), .int .i64 x] 75)).alloc (.cells #[.pointer (some ⟨t.tb, 0, none⟩), .int .i64 y] 75)) [.pointer none, .int .i64 0] 75
    simpa using this
  generalize hW0 : (((w.alloc (.cells #[.pointer (some ⟨t.tb, 0, none⟩), .int .i64 x] 75)).alloc (.cells #[.pointer (some ⟨t.tb, 0, none⟩), .int .i64 y] 75)).alloc (.cells #[.pointer none, .int .i64 0] 75)) = W0 at *
  have KX : ∀ {W'}, Below W0.heap.size W0 W' → W'.cell? ⟨w.heap.size, 0, none⟩ = some (.pointer (some ⟨t.tb, 0, none⟩)) ∧ W'.cell? ⟨w.heap.size, 1, none⟩ = some (.int .i64 x) ∧ W'.cell? ⟨w.heap.size + 1, 0, none⟩ = some (.pointer (some ⟨t.tb, 0, none⟩)) ∧ W'.cell? ⟨w.heap.size + 1, 1, none⟩ = some (.int .i64 y) := fun hb => by
    obtain ⟨-, a0, a1⟩ := (BX.below hb).c2
    obtain ⟨-, c0, c1⟩ := (BY.below hb).c2
    exact ⟨a0, a1, c0, c1⟩
  have KS : ∀ {W'}, Below W0.heap.size W0 W' → ((W'.setCell ⟨w.heap.size + 1 + 1, 0, none⟩ (.pointer (some ⟨t.tb, 0, none⟩))).setCell ⟨w.heap.size + 1 + 1, 1, none⟩ (.int .i64 z)).cell? ⟨w.heap.size, 0, none⟩ = some (.pointer (some ⟨t.tb, 0, none⟩)) ∧ ((W'.setCell ⟨w.heap.size + 1 + 1, 0, none⟩ (.pointer (some ⟨t.tb, 0, none⟩))).setCell ⟨w.heap.size + 1 + 1, 1, none⟩ (.int .i64 z)).cell? ⟨w.heap.size, 1, none⟩ = some (.int .i64 x) ∧ ((W'.setCell ⟨w.heap.size + 1 + 1, 0, none⟩ (.pointer (some ⟨t.tb, 0, none⟩))).setCell ⟨w.heap.size + 1 + 1, 1, none⟩ (.int .i64 z)).cell? ⟨w.heap.size + 1, 0, none⟩ = some (.pointer (some ⟨t.tb, 0, none⟩)) ∧ ((W'.setCell ⟨w.heap.size + 1 + 1, 0, none⟩ (.pointer (some ⟨t.tb, 0, none⟩))).setCell ⟨w.heap.size + 1 + 1, 1, none⟩ (.int .i64 z)).cell? ⟨w.heap.size + 1, 1, none⟩ = some (.int .i64 y) := fun {W'} hb => by
    obtain ⟨-, a0, a1⟩ := (((BX.below hb).other (p := ⟨w.heap.size + 1 + 1, 0, none⟩) (by show w.heap.size ≠ w.heap.size + 1 + 1; omega) (.pointer (some ⟨t.tb, 0, none⟩))).other (p := ⟨w.heap.size + 1 + 1, 1, none⟩) (by show w.heap.size ≠ w.heap.size + 1 + 1; omega) (.int .i64 z)).c2
    obtain ⟨-, c0, c1⟩ := (((BY.below hb).other (p := ⟨w.heap.size + 1 + 1, 0, none⟩) (by show w.heap.size + 1 ≠ w.heap.size + 1 + 1; omega) (.pointer (some ⟨t.tb, 0, none⟩))).other (p := ⟨w.heap.size + 1 + 1, 1, none⟩) (by show w.heap.size + 1 ≠ w.heap.size + 1 + 1; omega) (.int .i64 z)).c2
    exact ⟨a0, a1, c0, c1⟩
  have HC1 := Lib.hid (H1.out W0.drew b0.drew)
  obtain ⟨x0, x1, y0, y1⟩ := KX (Below.refl _ _)
  clear G ha hb iy ix
  go_enter Try.func78, Try.ntmps78
  go_wp2_with (fail)
  clear hW0
  go_region_held3 (fun wx => wx.cell? ⟨w.heap.size, 0, none⟩ = some (.pointer (some ⟨t.tb, 0, none⟩)) ∧ wx.cell? ⟨w.heap.size, 1, none⟩ = some (.int .i64 x) ∧ wx.cell? ⟨w.heap.size + 1, 0, none⟩ = some (.pointer (some ⟨t.tb, 0, none⟩)) ∧ wx.cell? ⟨w.heap.size + 1, 1, none⟩ = some (.int .i64 y)) (first | assumption | go_keep) (first
    | (go_at_call 66; (with_reducible refine HC3'.out.mono ?_); rintro e w7 ⟨rfl, hb7⟩; have L7 := bstep L6 L6.size hb7; have SM7 := KX L7; have BR7 := BR.below L7; obtain ⟨rl, r0, r1⟩ := BR7.c2; obtain ⟨f0, f1, -⟩ := BR7.f3; have SM8 := KS L7)
    | (go_at_call 76; (with_reducible refine HC2'.out.mono ?_); rintro e w6 ⟨rfl, hb6⟩; have L6 := bstep L5 L5.size hb6; have SM6 := KX L6; have HC3' := Lib.hid (H3.out w6 (bstep b0 b0.size L6)))
    | (go_at_call 69; (with_reducible refine HC1.out.mono ?_); rintro e w5 ⟨rfl, hb5⟩; have L5 : Below W0.heap.size W0 w5 := (Below.refl _ _).drew.trans hb5; have SM5 := KX L5; have HC2' := Lib.hid (H2.out w5 (bstep b0 b0.size L5))))
  all_goals
    go_wp2_with (fail)
    refine bodyPost_ret (v := elV t.tb z) (by simp [results, Try.results78, go_sem, rl, r0, r1]) rfl ⟨rfl, ?_⟩
    exact ((bstep b0 b0.size L7).setCell (p := ⟨w.heap.size + 1 + 1, 0, none⟩) (by show w.heap.size ≤ w.heap.size + 1 + 1; omega) _).setCell (p := ⟨w.heap.size + 1 + 1, 1, none⟩) (by show w.heap.size ≤ w.heap.size + 1 + 1; omega) _
end Go.Proofs.Yteappjgdcbploaa
namespace Go.Proofs.Yteappjgdcbploaa
open Go.RowKit
set_option linter.unusedVariables false
set_option linter.unusedSimpArgs false

/-- The group of a presentation as it is handed on: it stays while older memory is changed, as long as the presentation is read. -/
structure GrS (v0 : Value) (x0 : Pres) (t : Tw) (base : Nat) (w : World) : Prop where
  G : Gr x0.O x0.W x0.J t w
  st : ∀ w'', ChgS (fun k => k < base) w w'' → PresC w'' v0 x0 → TwR x0.O x0.W x0.J t 0 w''
theorem GrS.below {v0 : Value} {x0 : Pres} {t : Tw} {base : Nat} {w w' : World} (h : GrS v0 x0 t base w) (hb : Below w.heap.size w w') : GrS v0 x0 t base w' :=
  ⟨h.G.below hb, fun w'' hc hp => h.st w'' ((ChgS.of_below hb).trans hc) hp⟩
theorem GrS.low {v0 : Value} {x0 : Pres} {t : Tw} {base b : Nat} {w : World} (h : GrS v0 x0 t base w) (hb : b ≤ base) : GrS v0 x0 t b w :=
  ⟨h.G, fun w'' hc hp => h.st w'' (hc.mono fun k hk => Nat.lt_of_lt_of_le hk hb) hp⟩
theorem GrS.chg {v0 : Value} {x0 : Pres} {t : Tw} {base : Nat} {w w' : World} (h : GrS v0 x0 t base w) (hc : ChgS (fun k => k < base) w w') (hp : PresC w' v0 x0) : GrS v0 x0 t base w' :=
  ⟨⟨h.G.V, h.G.C, h.st w' hc hp⟩, fun w'' hc' hp' => h.st w'' (hc.trans hc') hp'⟩
set_option maxRecDepth 100000 in
set_option maxHeartbeats 4000000 in
theorem groupOf_any (v0 : Value) (x0 : Pres) (w : World) (h0 : PresC w v0 x0) :
    Calls Try.prog 84 #[v0] w fun e w' => ∃ q : Option Addr, e = .returned (.tuple #[.agg #[.pointer q], .bool x0.con]) ∧ Below w.heap.size w w' ∧ (x0.con = true → ∃ t : Tw, q = some ⟨t.tb, 0, none⟩ ∧ GrS v0 x0 t w.heap.size w') := by
  have h1 := h0
  obtain ⟨A0, c0, A1, c1, A2, c2, rfl, hr, -, -, -, -⟩ := h0
  have b0 : Below w.heap.size w ((w.alloc (.cells #[.slice A0 x0.O.length c0, .slice A1 x0.W.length c1, .slice A2 x0.J.length c2] 29)).alloc (.cells #[.pointer none] 65)) := by go_grown
  have BX := (Blk.new w [.slice A0 x0.O.length c0, .slice A1 x0.W.length c1, .slice A2 x0.J.length c2] 29).alloc (.cells #[.pointer none] 65)
  have BR : Blk ((w.alloc (.cells #[.slice A0 x0.O.length c0, .slice A1 x0.W.length c1, .slice A2 x0.J.length c2] 29)).alloc (.cells #[.pointer none] 65)) (w.heap.size + 1) [.pointer none] 65 := by
    have := Blk.new (w.alloc (.cells #[.slice A0 x0.O.length c0, .slice A1 x0.W.length c1, .slice A2 x0.J.length c2] 29)) [.pointer none] 65
    simpa using this
  have hzz : ((w.alloc (.cells #[.slice A0 x0.O.length c0, .slice A1 x0.W.length c1, .slice A2 x0.J.length c2] 29)).alloc (.cells #[.pointer none] 65)).heap.size = w.heap.size + 2 := by simp
  have HZ := Lib.hid hzz
  clear hzz
  generalize hW0 : (w.alloc (.cells #[.slice A0 x0.O.length c0, .slice A1 x0.W.length c1, .slice A2 x0.J.length c2] 29)).alloc (.cells #[.pointer none] 65) = W0 at *
  have HI := Lib.hid (iIsPres_any _ x0 W0 (h1.below b0))
  obtain ⟨bl, y0, y1, y2⟩ := BX.c3
  cases hk : x0.ok with
  | true =>
    rw [hk] at HI
    have V := Num.Val.of hk
    have HV := Lib.hid V
    have HR : Hid (x0.con = decide ((Num.fltP x0.O x0.W x0.J).k = 0)) := Lib.hid (by unfold Pres.con; rw [hk]; rfl)
    have HP : Hid (∀ W', Below w.heap.size w W' → RdP A0 A1 A2 x0.O x0.W x0.J W') := Lib.hid fun W' hb => ⟨hr.1.below' hb, hr.2.1.below' hb, hr.2.2.below' hb⟩
    have HC : Hid (∀ W', Below w.heap.size w W' → Calls Try.prog 118 #[.agg #[.slice A0 x0.O.length c0, .slice A1 x0.W.length c1, .slice A2 x0.J.length c2]] W' (fun e w' => ∃ t : Tw, e = .returned (.tuple #[.pointer (some ⟨t.tb, 0, none⟩), fltV (Num.fltP x0.O x0.W x0.J)]) ∧ Below W'.heap.size W' w' ∧ w'.cell? ⟨t.tb, 6, none⟩ = some (.int .i64 (Num.levP x0.O x0.W x0.J)) ∧ ((Num.fltP x0.O x0.W x0.J).k = 0 → Num.Con (Num.tlL x0.O x0.W x0.J 0) ∧ ∀ w'', ChgS (fun k => k < W'.heap.size) w' w'' → RdP A0 A1 A2 x0.O x0.W x0.J w'' → TwR x0.O x0.W x0.J t 0 w''))) := Lib.hid fun W' hb => by
      rw [V.lw, V.lj]
      exact tower2_any V W' (HP.out W' hb)
    unfold fltV at HC
    have HBR := Lib.hid BR
    generalize Num.levP x0.O x0.W x0.J = lv at *
    generalize Num.fltP x0.O x0.W x0.J = f at *
    obtain ⟨fk, fl, ff, fs⟩ := f
    clear h1 hr hk V BR
    go_enter Try.func84, Try.ntmps84
    go_wp2_with (fail)
    clear hW0
    refine HI.out.mono ?_; rintro e w2 ⟨rfl, hb2⟩
    have L2 := bstep b0 b0.size hb2
    obtain ⟨bl2, z0, z1, z2⟩ := (BX.below hb2).c3
    have HC2 := Lib.hid (HC.out _ L2)
    clear HC HI y0 y1 y2 BX
    go_wp2_with (fail)
    refine HC2.out.mono ?_; rintro e w3 ⟨t, rfl, hb3, -, hT⟩
    have HT := Lib.hid hT
    have BR3 := (HBR.out.below hb2).below hb3
    have BN := Blk.new w3 [.int .i64 fk, .int .i64 fl, .int .i64 ff, .int .i64 fs] 132
    have BR4 := BR3.alloc (.cells #[.int .i64 fk, .int .i64 fl, .int .i64 ff, .int .i64 fs] 132)
    have hb4 : Below w3.heap.size w3 (w3.alloc (.cells #[.int .i64 fk, .int .i64 fl, .int .i64 ff, .int .i64 fs] 132)) := by go_grown
    have L3 := bstep L2 L2.size hb3
    have L4 := bstep L3 L3.size hb4
    have hd : (fk == 0) = decide (fk = 0) := by by_cases h : fk = 0 <;> simp [h]
    have hz2 : w.heap.size + 2 ≤ w2.heap.size := by have := hb2.size; have := HZ.out; omega
    clear HC2 hT BR3
    generalize hW4 : w3.alloc (.cells #[.int .i64 fk, .int .i64 fl, .int .i64 ff, .int .i64 fs] 132) = w4 at *
    obtain ⟨nl, n0, n1, n2, n3⟩ := BN.c4
    obtain ⟨rl, r0⟩ := BR4.c1
    have g0 := BR4.free 0
    have hz3 : w.heap.size + 2 ≤ w3.heap.size := by have := hb3.size; omega
    have n0' := ((BN.other (p := ⟨w.heap.size + 1, 0, none⟩) (by show w3.heap.size ≠ w.heap.size + 1; omega) (.pointer (some ⟨t.tb, 0, none⟩))).c4).2.1
    go_wp2_with (fail)
    clear hW4 z0 z1 z2 bl2
    go_region
    all_goals go_wp2_with (fail)
    all_goals
      refine bodyPost_ret (v := .tuple #[.agg #[.pointer (some ⟨t.tb, 0, none⟩)], .bool (decide (fk = 0))]) (by simp [results, Try.results84, go_sem, rl, r0]) rfl ?_
      have L5 := (L4.setCell (p := ⟨w.heap.size + 1, 0, none⟩) (by show _ ≤ w.heap.size + 1; omega) (.pointer (some ⟨t.tb, 0, none⟩))).drew
      refine ⟨_, by rw [HR.out], L5, fun hc => ⟨t, rfl, ?_⟩⟩
      obtain ⟨T1, T2⟩ := HT.out (by rw [HR.out] at hc; exact of_decide_eq_true hc)
      have q := ((ChgS.of_below (S := fun k => k < w2.heap.size) hb4).trans ((ChgS.set w4 ⟨w.heap.size + 1, 0, none⟩ (.pointer (some ⟨t.tb, 0, none⟩))).mono fun k hk => by show k < _; have : k = w.heap.size + 1 := hk; omega))
      have q2 : ChgS (fun k => k < w2.heap.size) w3 (w4.setCell ⟨w.heap.size + 1, 0, none⟩ (.pointer (some ⟨t.tb, 0, none⟩))).drew := ⟨q.os, q.tape, q.output, q.size, q.block⟩
      refine ⟨⟨HV.out, T1, T2 _ q2 (HP.out _ L5)⟩, fun w'' hc2 hp => T2 w'' (q2.trans (hc2.mono fun k hk => by show k < w2.heap.size; have : k < w.heap.size := hk; omega)) ?_⟩
      obtain ⟨A0', c0', A1', c1', A2', c2', e, hr', -⟩ := hp
      simp only [Value.agg.injEq, Array.mk.injEq, List.cons.injEq, Value.slice.injEq, and_true, true_and] at e
      obtain ⟨⟨rfl, -⟩, ⟨rfl, -⟩, ⟨rfl, -⟩⟩ := e
      exact hr'
  | false =>
    rw [hk] at HI
    have HR : Hid (x0.con = false) := Lib.hid (by unfold Pres.con; rw [hk]; rfl)
    have HBR := Lib.hid BR
    clear h1 hr hk BR
    go_enter Try.func84, Try.ntmps84
    go_wp2_with (fail)
    clear hW0
    refine HI.out.mono ?_; rintro e w2 ⟨rfl, hb2⟩
    have BR2 := HBR.out.below hb2
    obtain ⟨rl, r0⟩ := BR2.c1
    have g0 := BR2.free 0
    have L2 := bstep b0 b0.size hb2
    go_wp2_with (fail)
    refine bodyPost_ret (v := .tuple #[.agg #[.pointer none], .bool false]) (by simp [results, Try.results84, go_sem, rl, r0]) rfl ?_
    refine ⟨_, by rw [HR.out], L2.setCell (p := ⟨w.heap.size + 1, 0, none⟩) (by show _ ≤ w.heap.size + 1; omega) _, fun hc => ?_⟩
    rw [HR.out] at hc
    cases hc
end Go.Proofs.Yteappjgdcbploaa
namespace Go.Proofs.Yteappjgdcbploaa
open Go.RowKit
set_option linter.unusedVariables false
set_option linter.unusedSimpArgs false
variable {β : Type}

theorem mc_len {f : β → List Value} {m : Nat} (hf : ∀ p, (f p).length = m) (ps : List β) : (ps.flatMap f).length = ps.length * m := by
  induction ps with
  | nil => simp
  | cons a l ih => rw [List.flatMap_cons, List.length_append, ih, hf, List.length_cons, Nat.succ_mul]; omega
theorem mc_at {f : β → List Value} {m : Nat} (hf : ∀ p, (f p).length = m) : ∀ (ps : List β) (j k : Nat) (hj : j < ps.length) (hk : k < m), (ps.flatMap f)[j * m + k]? = (f ps[j])[k]?
  | [], j, k, hj, hk => by simp at hj
  | a :: l, 0, k, hj, hk => by
    rw [List.flatMap_cons, Nat.zero_mul, Nat.zero_add, List.getElem_cons_zero, List.getElem?_append_left (by rw [hf]; omega)]
  | a :: l, j + 1, k, hj, hk => by
    have ih := mc_at hf l j k (by simpa using hj) hk
    rw [List.flatMap_cons, List.getElem_cons_succ, ← ih, List.getElem?_append_right (by rw [hf, Nat.succ_mul]; omega), hf]
    congr 1
    rw [Nat.succ_mul]
    omega
def OwnM (f : β → List Value) (m : Nat) (t : TypeId) (w : World) (base : Nat) (v : Value) (ps : List β) : Prop := w.ownsRow base t m v ps.length (ps.flatMap f)
theorem OwnM.nil {f : β → List Value} {m : Nat} {t : TypeId} (w : World) (base : Nat) : OwnM f m t w base (.slice none 0 0) [] := World.ownsRow_nil _ _ _ _
theorem OwnM.form {f : β → List Value} {m : Nat} {t : TypeId} {w : World} {base : Nat} {v : Value} {ps : List β} (h : OwnM f m t w base v ps) : ∃ A c, v = .slice A ps.length c ∧ ps.length ≤ c := by
  rcases h.2 with ⟨rfl, h0⟩ | ⟨g, cap, cur, rfl, hb, hg, h1, h2, -⟩
  · exact ⟨none, 0, by rw [h0], by omega⟩
  · exact ⟨_, cap, rfl, h1⟩
theorem OwnM.at_ {f : β → List Value} {m : Nat} {t : TypeId} (hf : ∀ p, (f p).length = m) {w : World} {base : Nat} {A : Option Addr} {n c : Nat} {ps : List β} (h : OwnM f m t w base (.slice A n c) ps) {j : Nat} (hj : j < ps.length) :
    ∃ g, A = some ⟨g, 0, none⟩ ∧ base ≤ g ∧ g < w.heap.size ∧ ∀ k, k < m → w.cell? ⟨g, j * m + k, none⟩ = (f ps[j])[k]? := by
  have h0 := h
  rcases h.2 with ⟨h2, h3⟩ | ⟨g, cap, cur, hv, hb, hg, h1⟩
  · omega
  · simp only [Value.slice.injEq] at hv
    obtain ⟨rfl, rfl, rfl⟩ := hv
    have hl := World.ownsRow.lt h0 g rfl
    refine ⟨g, rfl, hl.1, hl.2, fun k hk => ?_⟩
    have hlt : j * m + k < ps.length * m := by
      have : (j + 1) * m ≤ ps.length * m := Nat.mul_le_mul_right _ hj
      rw [Nat.succ_mul] at this
      omega
    rw [World.ownsRow.cellAt h0 (j * m + k) hlt]
    exact mc_at hf ps j k hj hk
/-- One more appended: what stays of the list and of the world. -/
theorem OwnM.push {f : β → List Value} {m : Nat} {t : TypeId} {B : Nat} {w0 wr w1 : World} {o : Obj} {v v' : Value} {ps : List β} {p : β} (own : OwnM f m t wr B v ps) (bw : Below B w0 wr) (hB : B ≤ wr.heap.size)
    (own' : w1.ownsRow B t m v' (ps.length + 1) (ps.flatMap f ++ f p)) (gr : (wr.alloc o).grownBy w1 v.ownBlock) : OwnM f m t w1 B v' (ps ++ [p]) ∧ Below B w0 w1 := by
  refine ⟨?_, (bw.alloc hB _).grown gr (by go_size) (fun k hk => (World.ownsRow.lt own k hk).1)⟩
  unfold OwnM
  simpa using own'
end Go.Proofs.Yteappjgdcbploaa
namespace Go.Proofs.Yteappjgdcbploaa
open Go.RowKit
set_option linter.unusedVariables false
set_option linter.unusedSimpArgs false

theorem infoEl : (Try.prog.info? 75).map (fun i => (i.zero, i.size, i.bytes)) = some (some (.agg #[.pointer none, .int .i64 0]), 2, 16) := by kernel_rfl
def elF (tb : Nat) (n : Int) : List Value := [.pointer (some ⟨tb, 0, none⟩), .int .i64 n]
theorem elF_len (tb : Nat) (n : Int) : (elF tb n).length = 2 := rfl
abbrev OwnEl (tb : Nat) (w : World) (base : Nat) (v : Value) (ns : List Int) : Prop := OwnM (elF tb) 2 75 w base v ns
theorem OwnEl.below {tb : Nat} {w w' : World} {base : Nat} {v : Value} {ns : List Int} (h : OwnEl tb w base v ns) (hb : Below w.heap.size w w') : OwnEl tb w' base v ns := ownsRow_keep h fun k hk => hb.block k (World.ownsRow.lt h k hk).2
theorem OwnM.mono_base {β : Type} {f : β → List Value} {m : Nat} {t : TypeId} {w : World} {B b : Nat} {v : Value} {ps : List β} (h : OwnM f m t w B v ps) (hb : b ≤ B) : OwnM f m t w b v ps := ownsRow_base h hb
theorem cell_new2 (w : World) (x y : Value) (t : TypeId) : ∀ j u', [x, y][j]? = some u' → (w.alloc (.cells #[x, y] t)).cell? ((⟨w.heap.size, 0, none⟩ : Addr).add j) = some u' := by
  intro j u' h
  obtain ⟨hj, rfl⟩ := List.getElem?_eq_some_iff.mp h
  simp [Addr.add_lit]
theorem step_pushEl {ops : Array Oper} {o : Oper} {a : Act} {K : Act → World → Prop} {Q : Exit → Act → World → Prop} {C : Prop} (wl : World) (hgd : o.guard = none) (sO xO : Operand)
    (ho : o.op = .call { callee := .builtin .append, args := #[sO, xO], argTypes := #[66, 66] })
    (B tb : Nat) (v : Value) (ns : List Int) (n : Int) (hs : a.eval sO = v) (hx : a.eval xO = .slice (some ⟨wl.heap.size, 0, none⟩) 1 1) (own : OwnEl tb wl B v ns) (hB : B ≤ wl.heap.size) (hl : ns.length ≤ 3000)
    (w0 : World) (bw : Below B w0 wl)
    (h : ∀ (v' : Value) (w' : World), OwnEl tb w' B v' (ns ++ [n]) → Below B w0 w' → K (a.put o.dst v') w') :
    if Region.wanted o (yielded ops a.tmps) = true then Oper.wp Try.prog o a (wl.alloc (.cells #[.pointer (some ⟨tb, 0, none⟩), .int .i64 n] 75)) K Q else C := by
  obtain ⟨i0, hi, hz0, hz1, hz2⟩ := info_parts infoEl
  refine step_append_lies (P := Try.prog) (wl.alloc (.cells #[.pointer (some ⟨tb, 0, none⟩), .int .i64 n] 75)) hgd sO xO 66 ho B 75 i0 (.agg #[.pointer none, .int .i64 0]) 2 16 Try.underlying66 hi hz0 hz1 hz2 rfl (by decide) v ns.length (ns.flatMap (elF tb)) hs (own.alloc _) ⟨wl.heap.size, 0, none⟩ 1 1 [.pointer (some ⟨tb, 0, none⟩), .int .i64 n] hx rfl (cell_new2 _ _ _ _) (by simp [Value.oneCell']) (by decide) (by unfold maxLen; omega) (by omega) (by go_size) _ rfl ?_
  intro g cap w' own3 gr3 at3 lt3
  obtain ⟨h1, h2⟩ := OwnM.push (f := elF tb) (p := n) own bw hB own3 gr3
  exact h _ w' h1 h2
def rEls (p : Pres) (xs : List (List Int)) : Bool := p.con && p.els xs
/-- The code. -/
def cEls (p : Pres) (xs : List (List Int)) : Int := if rEls p xs = true then 0 else 1
theorem cEls_yes {p : Pres} {xs : List (List Int)} (h : rEls p xs = true) : cEls p xs = 0 := if_pos h
theorem cEls_no {p : Pres} {xs : List (List Int)} (h : rEls p xs = false) : cEls p xs = 1 := if_neg (by rw [h]; simp)
theorem Pres.els_no {p : Pres} {xs : List (List Int)} {j : Nat} (hj : j < xs.length) (h : p.el (xs.getD j []) = false) : p.els xs = false := by
  cases hk : p.els xs with
  | false => rfl
  | true => rw [Pres.els_at hk hj] at h; cases h
theorem Pres.els_yes {p : Pres} {xs : List (List Int)} (h : ∀ j, j < xs.length → p.el (xs.getD j []) = true) : p.els xs = true := by
  unfold Pres.els
  rw [List.all_eq_true]
  intro x hx
  obtain ⟨j, hj, rfl⟩ := List.mem_iff_getElem.mp hx
  have := h j hj
  rwa [List.getD_eq_getElem?_getD, List.getElem?_eq_getElem hj] at this
set_option maxRecDepth 100000 in
set_option maxHeartbeats 4000000 in
theorem elementsOf_any (v0 : Value) (x0 : Pres) (Av : Option Addr) (cv : Nat) (xs : List (List Int)) (w : World) (h0 : PresC w v0 x0) (hx : RdW w Av xs) (hl : xs.length ≤ 1000) :
    Calls Try.prog 62 #[v0, .slice Av xs.length cv] w fun e w' => ∃ (q : Option Addr) (ev : Value), e = .returned (.tuple #[.agg #[.pointer q], ev, .int .i64 (cEls x0 xs)]) ∧ Below w.heap.size w w' ∧
      (rEls x0 xs = true → ∃ t : Tw, q = some ⟨t.tb, 0, none⟩ ∧ GrS v0 x0 t w.heap.size w' ∧ OwnEl t.tb w' w.heap.size ev (xs.map (Num.numL x0.L))) := by
  have h1 := h0
  obtain ⟨A0, c0, A1, c1, A2, c2, rfl, hr, m0, -, -, -⟩ := h0
  have b0 : Below w.heap.size w ((w.alloc (.cells #[.slice A0 x0.O.length c0, .slice A1 x0.W.length c1, .slice A2 x0.J.length c2] 29)).alloc (.cells #[.pointer none] 65)) := by go_grown
  have BX := (Blk.new w [.slice A0 x0.O.length c0, .slice A1 x0.W.length c1, .slice A2 x0.J.length c2] 29).alloc (.cells #[.pointer none] 65)
  have BR : Blk ((w.alloc (.cells #[.slice A0 x0.O.length c0, .slice A1 x0.W.length c1, .slice A2 x0.J.length c2] 29)).alloc (.cells #[.pointer none] 65)) (w.heap.size + 1) [.pointer none] 65 := by
    have := Blk.new (w.alloc (.cells #[.slice A0 x0.O.length c0, .slice A1 x0.W.length c1, .slice A2 x0.J.length c2] 29)) [.pointer none] 65
    simpa using this
  generalize hW0 : (w.alloc (.cells #[.slice A0 x0.O.length c0, .slice A1 x0.W.length c1, .slice A2 x0.J.length c2] 29)).alloc (.cells #[.pointer none] 65) = W0 at *
  have HI := Lib.hid (groupOf_any _ x0 W0 (h1.below b0))
  obtain ⟨bl, y0, y1, y2⟩ := BX.c3
  have HO : Hid (∀ W', Below w.heap.size w W' → RdI W' A0 x0.O) := Lib.hid fun W' hb => hr.1.below' hb
  have HX : Hid (∀ W', Below w.heap.size w W' → RdW W' Av xs) := Lib.hid fun W' hb => hx.below' hb
  have HBR := Lib.hid BR
  have hzR := BR.lt
  have HBX := Lib.hid BX
  cases hk : x0.con with
  | true =>
    rw [hk] at HI
    have HK := Lib.hid hk
    have HRE : Hid (rEls x0 xs = x0.els xs) := Lib.hid (by unfold rEls; rw [hk]; rfl)
    have HM := Lib.hid m0
    have HPC := Lib.hid h1
    clear h1 hr hk hx BX BR m0
    go_enter Try.func62, Try.ntmps62
    go_wp2_with (fail)
    clear hW0
    refine HI.out.mono ?_; rintro e w2 ⟨gv, rfl, hb2, hG⟩
    obtain ⟨t, rfl, G⟩ := hG trivial
    have bA : Below w2.heap.size w2 (w2.alloc (.cells #[.pointer (some ⟨t.tb, 0, none⟩)] 65)) := by go_grown
    have HGS := Lib.hid (G.below bA)
    have HG := Lib.hid (G.below bA).G
    have BN := Blk.new w2 [.pointer (some ⟨t.tb, 0, none⟩)] 65
    have hzw : w2.heap.size < (w2.alloc (.cells #[.pointer (some ⟨t.tb, 0, none⟩)] 65)).heap.size := by simp
    have L1 := bstep (bstep b0 b0.size hb2) (by have := b0.size; have := hb2.size; omega) bA
    have HBX2 := Lib.hid ((HBX.out.below hb2).below bA)
    have HBR2 := Lib.hid ((HBR.out.below hb2).below bA)
    have hz2 := hb2.size
    clear HI hG G HBX HBR y0 y1 y2 bl bA hb2
    generalize hW2 : w2.alloc (.cells #[.pointer (some ⟨t.tb, 0, none⟩)] 65) = W2 at *
    have HBN := Lib.hid BN
    clear BN
    go_wp2_with (fail)
    clear hW2
    go_loopw [9, 11, 22] (fun s9 _ s22 wr => ∃ i : Nat, i ≤ xs.length ∧ s22 = .int .i64 (i : Int) ∧ Hid (∀ j, j < i → x0.el (xs.getD j []) = true) ∧ Hid (OwnEl t.tb wr W2.heap.size s9 ((xs.take i).map (Num.numL x0.L))) ∧ Below W2.heap.size W2 wr) (fun _ _ s22 _ => xs.length - (intOf s22).toNat)
    case atStart => exact ⟨0, by omega, rfl, Lib.hid (fun j hj => by omega), Lib.hid (OwnM.nil _ _), Below.refl _ _⟩
    case round =>
      obtain ⟨i, hi, rfl, HE, own, bel⟩ := hrel
      have Z := bel.size
      have LW := bstep L1 L1.size bel
      obtain ⟨q7, n0⟩ := (HBN.out.below bel).c1
      by_cases hlt : i < xs.length
      · have i0 : (0 : Int) ≤ (i : Int) := by omega
        have i1 : (i : Int) < (xs.length : Int) := by omega
        obtain ⟨g, o, B, c, rfl, hg, hc, hlv, hrv⟩ := (HX.out wr LW) i hlt
        obtain ⟨bl, y0, y1, y2⟩ := (HBX2.out.below bel).c3
        have HBL := Lib.hid (isBelow_any B A0 c c0 (xs.getD i []) x0.O wr hrv (HO.out wr LW) hlv HM.out)
        have hel : Num.blwB (xs.getD i []) x0.O = x0.el (xs.getD i []) := by unfold Pres.el; rw [Num.blw_fit0]
        rw [hel] at HBL
        cases he : x0.el (xs.getD i []) with
        | true =>
          rw [he] at HBL
          obtain ⟨hlen, hE⟩ := Pres.el_out he
          have HNU : Hid (∀ W', Below W2.heap.size W2 W' → Calls Try.prog 106 #[.pointer (some ⟨t.tb, 0, none⟩), .slice B x0.O.length c] W' fun e w' => e = .returned (.int .i64 (Num.numL x0.L (xs.getD i []))) ∧ W' = w') := Lib.hid fun W' hb => number_any HG.out.V (HG.out.T.below hb) (xs.getD i []) B c (by
            obtain ⟨g', o', B', c', e', hg', hc', hlv', hrv'⟩ := (HX.out W2 L1) i hlt
            simp only [Option.some.injEq, Addr.mk.injEq, and_true] at e'
            obtain ⟨rfl, rfl⟩ := e'
            have e2 := (bel.cell hg').trans hc'
            rw [hc] at e2
            simp only [Option.some.injEq, Value.slice.injEq] at e2
            obtain ⟨rfl, -, rfl⟩ := e2
            exact hrv'.below' hb) hlen hE
          have HE2 : Hid (∀ j, j < i + 1 → x0.el (xs.getD j []) = true) := Lib.hid fun j hj => by
            by_cases e : j = i
            · rw [e]; exact he
            · exact HE.out j (by omega)
          have HTK : Hid ((xs.take (i + 1)).map (Num.numL x0.L) = (xs.take i).map (Num.numL x0.L) ++ [Num.numL x0.L (xs.getD i [])]) := Lib.hid (by
            rw [List.take_succ_eq_append_getElem hlt, List.map_append, List.getD_eq_getElem?_getD, List.getElem?_eq_getElem hlt]; rfl)
          have hol : ((xs.take i).map (Num.numL x0.L)).length ≤ 1000 := by rw [List.length_map, List.length_take]; omega
          have HC2 := Lib.hid (HNU.out wr.drew bel.drew)
          rw [hlen] at hc
          have ow := own.out
          rw [hlen] at HBL
          clear HE own hlv hrv hel he hE HNU
          generalize (xs.take i).map (Num.numL x0.L) = os at *
          generalize Num.numL x0.L (xs.getD i []) = nn at *
          go_wp2_with (fail)
          refine HBL.out.mono ?_; rintro e w3 ⟨rfl, rfl⟩
          clear HBL
          go_wp2_with (fail)
          clear hc
          go_region_held3 (fun wx => wx.cell? ⟨w2.heap.size, 0, none⟩ = some (.pointer (some ⟨t.tb, 0, none⟩))) (first | assumption | go_keep) (first
            | (go_at_call 106; (with_reducible refine HC2.out.mono ?_); rintro e w5 ⟨rfl, rfl⟩)
            | (refine step_pushEl wr.drew rfl (.tmp 32) (.tmp 39) rfl W2.heap.size t.tb u9 os nn rfl rfl ow (by simpa using Z) (by omega) W2 bel.drew ?_; intro v6 w6 own6 B6; have SM6 : w6.cell? ⟨w2.heap.size, 0, none⟩ = some (.pointer (some ⟨t.tb, 0, none⟩)) := (by rw [B6.cell hzw]; exact HBN.out.c1.2)))
          all_goals
            have P1 : Hid (OwnEl t.tb w6 W2.heap.size v6 ((xs.take (i + 1)).map (Num.numL x0.L))) := Lib.hid (by rw [HTK.out]; exact own6)
            clear own6 HTK ow HC2 SM6 n0 y0 y1 y2
            go_wp2_with (fail)
            exact ⟨⟨i + 1, by omega, by go_num, HE2, P1, B6⟩, by simp [intOf]; omega⟩
        | false =>
          rw [he] at HBL
          have HF : Hid (rEls x0 xs = false) := Lib.hid (by rw [HRE.out]; exact Pres.els_no hlt he)
          obtain ⟨rl, r0⟩ := (HBR2.out.below bel).c1
          have g0 := (HBR2.out.below bel).free 0
          clear HE own hrv hel he
          generalize xs.getD i [] = row at *
          go_wp2_with (fail)
          refine HBL.out.mono ?_; rintro e w3 ⟨rfl, rfl⟩
          go_wp2_with (fail)
          refine bodyPost_ret (v := .tuple #[.agg #[.pointer none], .slice none 0 0, .int .i64 1]) (by simp [results, Try.results62, go_sem, rl, r0]) rfl ?_
          refine ⟨_, _, by rw [cEls_no HF.out], LW.setCell (p := ⟨w.heap.size + 1, 0, none⟩) (by show _ ≤ w.heap.size + 1; omega) _, fun h => ?_⟩
          rw [HF.out] at h
          cases h
      · have hge : ¬ ((i : Int) < (xs.length : Int)) := by omega
        obtain rfl : i = xs.length := by omega
        have HT : Hid (rEls x0 xs = true) := Lib.hid (by rw [HRE.out]; exact Pres.els_yes HE.out)
        have O1 : Hid (OwnEl t.tb wr W2.heap.size u9 (xs.map (Num.numL x0.L))) := Lib.hid (by have := own.out; rwa [List.take_of_length_le (Nat.le_refl _)] at this)
        obtain ⟨rl, r0⟩ := (HBR2.out.below bel).c1
        have g0 := (HBR2.out.below bel).free 0
        obtain ⟨AE, cE, rfl, -⟩ := O1.out.form
        clear HE own
        go_wp2_with (fail)
        have LF := LW.setCell (p := ⟨w.heap.size + 1, 0, none⟩) (by show _ ≤ w.heap.size + 1; omega) (.pointer (some ⟨t.tb, 0, none⟩))
        have hcF := ChgS.set wr ⟨w.heap.size + 1, 0, none⟩ (.pointer (some ⟨t.tb, 0, none⟩))
        have z2 : w.heap.size + 2 ≤ W2.heap.size := by have := HBR2.out.lt; omega
        refine bodyPost_ret (v := .tuple #[.agg #[.pointer (some ⟨t.tb, 0, none⟩)], .slice AE (xs.map (Num.numL x0.L)).length cE, .int .i64 0]) (by simp [results, Try.results62, go_sem, rl, r0]) rfl ?_
        refine ⟨_, _, by rw [cEls_yes HT.out], LF, fun _ => ⟨t, rfl, ?_, ?_⟩⟩
        · exact ((HGS.out.below bel).chg (hcF.mono fun k hk => by show k < _; have : k = w.heap.size + 1 := hk; omega) (HPC.out.below LF)).low b0.size
        · exact OwnM.mono_base (ownsRow_keep O1.out fun k hk => hcF.block k (World.ownsRow.lt O1.out k hk).2 (by have := (World.ownsRow.lt O1.out k hk).1; show k ≠ w.heap.size + 1; omega)) L1.size
  | false =>
    rw [hk] at HI
    have HF : Hid (rEls x0 xs = false) := Lib.hid (by unfold rEls; rw [hk]; rfl)
    clear h1 hr hk hx BX BR m0
    go_enter Try.func62, Try.ntmps62
    go_wp2_with (fail)
    clear hW0
    refine HI.out.mono ?_; rintro e w2 ⟨q, rfl, hb2, -⟩
    have bA : Below w2.heap.size w2 (w2.alloc (.cells #[.pointer q] 65)) := by go_grown
    have L1 := bstep (bstep b0 b0.size hb2) (by have := b0.size; have := hb2.size; omega) bA
    have HBR2 := Lib.hid ((HBR.out.below hb2).below bA)
    generalize hW2 : w2.alloc (.cells #[.pointer q] 65) = W2 at *
    obtain ⟨rl, r0⟩ := HBR2.out.c1
    have g0 := HBR2.out.free 0
    go_wp2_with (fail)
    refine bodyPost_ret (v := .tuple #[.agg #[.pointer none], .slice none 0 0, .int .i64 1]) (by simp [results, Try.results62, go_sem, rl, r0]) rfl ?_
    refine ⟨_, _, by rw [cEls_no HF.out], L1.setCell (p := ⟨w.heap.size + 1, 0, none⟩) (by show _ ≤ w.heap.size + 1; omega) _, fun h => ?_⟩
    rw [HF.out] at h
    cases h
end Go.Proofs.Yteappjgdcbploaa
namespace Go.Proofs.Yteappjgdcbploaa
open Go.RowKit
set_option linter.unusedVariables false
set_option linter.unusedSimpArgs false

theorem rEls_one (p : Pres) (x : List Int) : rEls p [x] = rIsElement p x := by unfold rEls rIsElement Pres.els; simp
theorem rEls_two (p : Pres) (x y : List Int) : rEls p [x, y] = p.two x y := by unfold rEls Pres.two Pres.els; simp
def cEl (p : Pres) (x : List Int) : Int := cEls p [x]
def cTwo (p : Pres) (x y : List Int) : Int := cEls p [x, y]
theorem cEl_yes {p : Pres} {x : List Int} (h : rIsElement p x = true) : cEl p x = 0 := cEls_yes (by rw [rEls_one]; exact h)
theorem cEl_no {p : Pres} {x : List Int} (h : rIsElement p x = false) : cEl p x = 1 := cEls_no (by rw [rEls_one]; exact h)
theorem cTwo_yes {p : Pres} {x y : List Int} (h : p.two x y = true) : cTwo p x y = 0 := cEls_yes (by rw [rEls_two]; exact h)
theorem cTwo_no {p : Pres} {x y : List Int} (h : p.two x y = false) : cTwo p x y = 1 := cEls_no (by rw [rEls_two]; exact h)
/-- What elementsOf leaves of one vector. -/
def ElsOne (v0 : Value) (x0 : Pres) (x : List Int) (W : World) (e : Ending) (w' : World) : Prop :=
  ∃ (q : Option Addr) (ev : Value), e = .returned (.tuple #[.agg #[.pointer q], ev, .int .i64 (cEl x0 x)]) ∧ Below W.heap.size W w' ∧
    (rIsElement x0 x = true → ∃ (t : Tw) (g c : Nat), q = some ⟨t.tb, 0, none⟩ ∧ GrS v0 x0 t W.heap.size w' ∧ ev = .slice (some ⟨g, 0, none⟩) 1 c ∧ g < w'.heap.size ∧ w'.cell? ⟨g, 0, none⟩ = some (.pointer (some ⟨t.tb, 0, none⟩)) ∧ w'.cell? ⟨g, 1, none⟩ = some (.int .i64 (Num.numL x0.L x)))
theorem elsOne_any (v0 : Value) (x0 : Pres) (A : Option Addr) (c : Nat) (x : List Int) (W : World) (h0 : PresC W v0 x0) (hx : RdI W A x) (hl : x.length ≤ maxLen) :
    Calls Try.prog 62 #[v0, .slice (some ⟨W.heap.size, 0, none⟩) 1 1] (W.alloc (.cells #[.slice A x.length c] 22)) (ElsOne v0 x0 x W) := by
  have b0 : Below W.heap.size W (W.alloc (.cells #[.slice A x.length c] 22)) := by go_grown
  refine (elementsOf_any v0 x0 (some ⟨W.heap.size, 0, none⟩) 1 [x] _ (h0.below b0) (RdW.lit1 c _ hx hl) (by simp)).mono ?_
  rintro e w' ⟨q, ev, rfl, hb, hT⟩
  refine ⟨q, ev, rfl, bstep b0 b0.size hb, fun hk => ?_⟩
  obtain ⟨t, rfl, G, O⟩ := hT (by rw [rEls_one]; exact hk)
  obtain ⟨AE, cE, rfl, -⟩ := O.form
  obtain ⟨g, rfl, -, hg, hc⟩ := OwnM.at_ (elF_len t.tb) O (j := 0) (by simp)
  exact ⟨t, g, cE, rfl, G.low b0.size, rfl, hg, hc 0 (by omega), hc 1 (by omega)⟩
/-- .. of two. -/
def ElsTwo (v0 : Value) (x0 : Pres) (x y : List Int) (W : World) (e : Ending) (w' : World) : Prop :=
  ∃ (q : Option Addr) (ev : Value), e = .returned (.tuple #[.agg #[.pointer q], ev, .int .i64 (cTwo x0 x y)]) ∧ Below W.heap.size W w' ∧
    (x0.two x y = true → ∃ (t : Tw) (g c : Nat), q = some ⟨t.tb, 0, none⟩ ∧ GrS v0 x0 t W.heap.size w' ∧ ev = .slice (some ⟨g, 0, none⟩) 2 c ∧ g < w'.heap.size ∧ w'.cell? ⟨g, 0, none⟩ = some (.pointer (some ⟨t.tb, 0, none⟩)) ∧ w'.cell? ⟨g, 1, none⟩ = some (.int .i64 (Num.numL x0.L x)) ∧ w'.cell? ⟨g, 2, none⟩ = some (.pointer (some ⟨t.tb, 0, none⟩)) ∧ w'.cell? ⟨g, 3, none⟩ = some (.int .i64 (Num.numL x0.L y)))
theorem elsTwo_any (v0 : Value) (x0 : Pres) (A B : Option Addr) (c d : Nat) (x y : List Int) (W : World) (h0 : PresC W v0 x0) (hx : RdI W A x) (hl : x.length ≤ maxLen) (hy : RdI W B y) (kl : y.length ≤ maxLen) :
    Calls Try.prog 62 #[v0, .slice (some ⟨W.heap.size, 0, none⟩) 2 2] (W.alloc (.cells #[.slice A x.length c, .slice B y.length d] 22)) (ElsTwo v0 x0 x y W) := by
  have b0 : Below W.heap.size W (W.alloc (.cells #[.slice A x.length c, .slice B y.length d] 22)) := by go_grown
  refine (elementsOf_any v0 x0 (some ⟨W.heap.size, 0, none⟩) 2 [x, y] _ (h0.below b0) (RdW.lit2 c d _ hx hl hy kl) (by simp)).mono ?_
  rintro e w' ⟨q, ev, rfl, hb, hT⟩
  refine ⟨q, ev, rfl, bstep b0 b0.size hb, fun hk => ?_⟩
  obtain ⟨t, rfl, G, O⟩ := hT (by rw [rEls_two]; exact hk)
  obtain ⟨AE, cE, rfl, -⟩ := O.form
  obtain ⟨g, rfl, -, hg, hc⟩ := OwnM.at_ (elF_len t.tb) O (j := 0) (by simp)
  obtain ⟨g', e', -, -, hc'⟩ := OwnM.at_ (elF_len t.tb) O (j := 1) (by simp)
  simp only [Option.some.injEq, Addr.mk.injEq, and_true] at e'
  subst e'
  exact ⟨t, g, cE, rfl, G.low b0.size, rfl, hg, hc 0 (by omega), hc 1 (by omega), hc' 0 (by omega), hc' 1 (by omega)⟩
theorem Num.powZ_El {Ls : List Num.Lv} (h : Num.OkL Ls) (C : Num.Con Ls) {a : List Int} (ha : Num.El Ls a) (k : Int) : Num.El Ls (Num.powZ Ls a k) := by
  unfold Num.powZ
  split
  · exact (Num.Con.mon h C).pw_P (Num.inv_El h ha) _
  · exact (Num.Con.mon h C).pw_P ha _
theorem el_len {p : Pres} {z : List Int} (V : Num.Val p.O p.W p.J) (h : Num.El p.L z) : z.length ≤ 1000000000 := by
  have h1 := h.len
  have h2 := Pres.L_len p
  have h3 := V.n6
  omega
set_option maxRecDepth 100000 in
set_option maxHeartbeats 2000000 in
theorem iIsElement_ok (v0 : Value) (p : Pres) (v1 : Value) (x : List Int) (w : World) (h0 : PresC w v0 p) (h1 : spI.rd w v1 x) (s0 : spPres.sz p ≤ 1048576) (s1 : spI.sz x ≤ 1048576) : Calls Try.prog 20 #[v0, v1] w (RetB (rIsElement p x) w) := by
  have h0' := h0
  obtain ⟨A0, c0, A1, c1, A2, c2, rfl, -, m0, -, -, -⟩ := h0
  obtain ⟨B, d, rfl, hl, hB⟩ := h1
  have b0 : Below w.heap.size w (w.alloc (.cells #[.slice A0 p.O.length c0, .slice A1 p.W.length c1, .slice A2 p.J.length c2] 29)) := by go_grown
  generalize hW0 : w.alloc (.cells #[.slice A0 p.O.length c0, .slice A1 p.W.length c1, .slice A2 p.J.length c2] 29) = W0 at *
  have BX : Blk W0 w.heap.size [.slice A0 p.O.length c0, .slice A1 p.W.length c1, .slice A2 p.J.length c2] 29 := by rw [← hW0]; exact Blk.new w _ _
  have HC := Lib.hid (elsOne_any _ p B d x W0 (h0'.below b0) (hB.below' b0) hl)
  unfold ElsOne at HC
  obtain ⟨bl, y0, y1, y2⟩ := BX.c3
  clear h0' hB m0 BX
  cases hk : rIsElement p x with
  | true =>
    rw [cEl_yes hk] at HC
    go_enter Try.func20, Try.ntmps20
    go_wp2_with (fail)
    clear hW0
    refine HC.out.mono ?_; rintro e w1 ⟨q, ev, rfl, hb1, hT⟩
    obtain ⟨t, g, cE, rfl, -⟩ := hT hk
    have bA : Below w1.heap.size w1 (w1.alloc (.cells #[.pointer (some ⟨t.tb, 0, none⟩)] 65)) := by go_grown
    have L := bstep (bstep b0 b0.size hb1) (by have := b0.size; have := hb1.size; omega) bA
    go_wp2_with (fail)
    go_ret
    exact ⟨rfl, L⟩
  | false =>
    rw [cEl_no hk] at HC
    go_enter Try.func20, Try.ntmps20
    go_wp2_with (fail)
    clear hW0
    refine HC.out.mono ?_; rintro e w1 ⟨q, ev, rfl, hb1, hT⟩
    have bA : Below w1.heap.size w1 (w1.alloc (.cells #[.pointer q] 65)) := by go_grown
    have L := bstep (bstep b0 b0.size hb1) (by have := b0.size; have := hb1.size; omega) bA
    go_wp2_with (fail)
    go_ret
    exact ⟨rfl, L⟩
set_option maxRecDepth 100000 in
set_option maxHeartbeats 2000000 in
theorem iInverse_ok (v0 : Value) (p : Pres) (v1 : Value) (x : List Int) (w : World) (h0 : PresC w v0 p) (h1 : spI.rd w v1 x) (s0 : spPres.sz p ≤ 1048576) (s1 : spI.sz x ≤ 1048576) : Calls Try.prog 29 #[v0, v1] w (MadeC spI (rInverse p x) (cInverse p x) w) := by
  have h0' := h0
  obtain ⟨A0, c0, A1, c1, A2, c2, rfl, -, m0, -, -, -⟩ := h0
  obtain ⟨B, d, rfl, hl, hB⟩ := h1
  have b0 : Below w.heap.size w (w.alloc (.cells #[.slice A0 p.O.length c0, .slice A1 p.W.length c1, .slice A2 p.J.length c2] 29)) := by go_grown
  generalize hW0 : w.alloc (.cells #[.slice A0 p.O.length c0, .slice A1 p.W.length c1, .slice A2 p.J.length c2] 29) = W0 at *
  have BX : Blk W0 w.heap.size [.slice A0 p.O.length c0, .slice A1 p.W.length c1, .slice A2 p.J.length c2] 29 := by rw [← hW0]; exact Blk.new w _ _
  have HC := Lib.hid (elsOne_any _ p B d x W0 (h0'.below b0) (hB.below' b0) hl)
  unfold ElsOne at HC
  obtain ⟨bl, y0, y1, y2⟩ := BX.c3
  clear h0' hB m0 BX
  cases hk : rIsElement p x with
  | true =>
    rw [cEl_yes hk] at HC
    have HR : Hid (rInverse p x = Num.invL p.L x ∧ cInverse p x = 0) := Lib.hid ⟨if_pos hk, if_pos hk⟩
    obtain ⟨hE1, hE2⟩ := Pres.el_con hk
    have HE := Lib.hid (Pres.el_out hE2).2
    go_enter Try.func29, Try.ntmps29
    go_wp2_with (fail)
    clear hW0
    refine HC.out.mono ?_; rintro e w1 ⟨q, ev, rfl, hb1, hT⟩
    obtain ⟨t, g, cE, rfl, GS, rfl, hg, e0, e1⟩ := hT hk
    have bA : Below w1.heap.size w1 (w1.alloc (.cells #[.pointer (some ⟨t.tb, 0, none⟩)] 65)) := by go_grown
    have L := bstep (bstep b0 b0.size hb1) (by have := b0.size; have := hb1.size; omega) bA
    have HG := Lib.hid (GS.below bA).G
    have f0 : (w1.alloc (.cells #[.pointer (some ⟨t.tb, 0, none⟩)] 65)).cell? ⟨g, 0, none⟩ = some (.pointer (some ⟨t.tb, 0, none⟩)) := (bA.cell hg).trans e0
    have f1 : (w1.alloc (.cells #[.pointer (some ⟨t.tb, 0, none⟩)] 65)).cell? ⟨g, 1, none⟩ = some (.int .i64 (Num.numL p.L x)) := (bA.cell hg).trans e1
    clear hT GS e0 e1 HC hb1 y0 y1 y2
    generalize hW2 : w1.alloc (.cells #[.pointer (some ⟨t.tb, 0, none⟩)] 65) = W2 at *
    have HI := Lib.hid (inverse_any HG.out x HE.out)
    have HIE := Lib.hid (Num.inv_El HG.out.ok HE.out)
    unfold RetE at HI
    go_wp2_with (fail)
    refine HI.out.mono ?_; rintro e w2 ⟨rfl, hb2⟩
    have HV := Lib.hid (vector_any (HG.out.below hb2) _ HIE.out)
    go_wp2_with (fail)
    refine HV.out.mono ?_; rintro e w3 ⟨u, rfl, own, hb3⟩
    go_wp2_with (fail)
    go_ret2
    rw [HR.out.1, HR.out.2]
    have L2 := bstep L L.size hb2
    exact MadeC.list (own.base_ L2.size) (el_len HG.out.V HIE.out) (bstep L2 L2.size hb3)
  | false =>
    rw [cEl_no hk] at HC
    have HR : Hid (rInverse p x = [] ∧ cInverse p x = 1) := Lib.hid ⟨if_neg (by rw [hk]; simp), if_neg (by rw [hk]; simp)⟩
    go_enter Try.func29, Try.ntmps29
    go_wp2_with (fail)
    clear hW0
    refine HC.out.mono ?_; rintro e w1 ⟨q, ev, rfl, hb1, hT⟩
    have bA : Below w1.heap.size w1 (w1.alloc (.cells #[.pointer q] 65)) := by go_grown
    have L := bstep (bstep b0 b0.size hb1) (by have := b0.size; have := hb1.size; omega) bA
    go_wp2_with (fail)
    go_ret2
    rw [HR.out.1, HR.out.2]
    exact MadeC.nilW L
set_option maxRecDepth 100000 in
set_option maxHeartbeats 2000000 in
theorem iElementNumber_ok (v0 : Value) (p : Pres) (v1 : Value) (x : List Int) (w : World) (h0 : PresC w v0 p) (h1 : spI.rd w v1 x) (s0 : spPres.sz p ≤ 1048576) (s1 : spI.sz x ≤ 1048576) : Calls Try.prog 39 #[v0, v1] w (RetI (rElementNumber p x) (cElementNumber p x) w) := by
  have h0' := h0
  obtain ⟨A0, c0, A1, c1, A2, c2, rfl, -, m0, -, -, -⟩ := h0
  obtain ⟨B, d, rfl, hl, hB⟩ := h1
  have b0 : Below w.heap.size w (w.alloc (.cells #[.slice A0 p.O.length c0, .slice A1 p.W.length c1, .slice A2 p.J.length c2] 29)) := by go_grown
  generalize hW0 : w.alloc (.cells #[.slice A0 p.O.length c0, .slice A1 p.W.length c1, .slice A2 p.J.length c2] 29) = W0 at *
  have BX : Blk W0 w.heap.size [.slice A0 p.O.length c0, .slice A1 p.W.length c1, .slice A2 p.J.length c2] 29 := by rw [← hW0]; exact Blk.new w _ _
  have HC := Lib.hid (elsOne_any _ p B d x W0 (h0'.below b0) (hB.below' b0) hl)
  unfold ElsOne at HC
  obtain ⟨bl, y0, y1, y2⟩ := BX.c3
  clear h0' hB m0 BX
  cases hk : rIsElement p x with
  | true =>
    rw [cEl_yes hk] at HC
    have HR : Hid (rElementNumber p x = Num.numL p.L x ∧ cElementNumber p x = 0) := Lib.hid ⟨if_pos hk, if_pos hk⟩
    go_enter Try.func39, Try.ntmps39
    go_wp2_with (fail)
    clear hW0
    refine HC.out.mono ?_; rintro e w1 ⟨q, ev, rfl, hb1, hT⟩
    obtain ⟨t, g, cE, rfl, GS, rfl, hg, e0, e1⟩ := hT hk
    have bA : Below w1.heap.size w1 (w1.alloc (.cells #[.pointer (some ⟨t.tb, 0, none⟩)] 65)) := by go_grown
    have L := bstep (bstep b0 b0.size hb1) (by have := b0.size; have := hb1.size; omega) bA
    have HG := Lib.hid (GS.below bA).G
    have f0 : (w1.alloc (.cells #[.pointer (some ⟨t.tb, 0, none⟩)] 65)).cell? ⟨g, 0, none⟩ = some (.pointer (some ⟨t.tb, 0, none⟩)) := (bA.cell hg).trans e0
    have f1 : (w1.alloc (.cells #[.pointer (some ⟨t.tb, 0, none⟩)] 65)).cell? ⟨g, 1, none⟩ = some (.int .i64 (Num.numL p.L x)) := (bA.cell hg).trans e1
    clear hT GS e0 e1 HC hb1 y0 y1 y2
    generalize hW2 : w1.alloc (.cells #[.pointer (some ⟨t.tb, 0, none⟩)] 65) = W2 at *
    go_wp2_with (fail)
    go_ret2
    rw [HR.out.1, HR.out.2]
    exact ⟨rfl, L⟩
  | false =>
    rw [cEl_no hk] at HC
    have HR : Hid (rElementNumber p x = 0 ∧ cElementNumber p x = 1) := Lib.hid ⟨if_neg (by rw [hk]; simp), if_neg (by rw [hk]; simp)⟩
    go_enter Try.func39, Try.ntmps39
    go_wp2_with (fail)
    clear hW0
    refine HC.out.mono ?_; rintro e w1 ⟨q, ev, rfl, hb1, hT⟩
    have bA : Below w1.heap.size w1 (w1.alloc (.cells #[.pointer q] 65)) := by go_grown
    have L := bstep (bstep b0 b0.size hb1) (by have := b0.size; have := hb1.size; omega) bA
    go_wp2_with (fail)
    go_ret2
    rw [HR.out.1, HR.out.2]
    exact ⟨rfl, L⟩
set_option maxRecDepth 100000 in
set_option maxHeartbeats 2000000 in
theorem iPower_ok (v0 : Value) (p : Pres) (v1 : Value) (x : List Int) (k : Int) (w : World) (h0 : PresC w v0 p) (h1 : spI.rd w v1 x) (s0 : spPres.sz p ≤ 1048576) (s1 : spI.sz x ≤ 1048576) : Calls Try.prog 31 #[v0, v1, .int .i64 k] w (MadeC spI (rPower p x k) (cPower p x k) w) := by
  have h0' := h0
  obtain ⟨A0, c0, A1, c1, A2, c2, rfl, -, m0, -, -, -⟩ := h0
  obtain ⟨B, d, rfl, hl, hB⟩ := h1
  have b0 : Below w.heap.size w (w.alloc (.cells #[.slice A0 p.O.length c0, .slice A1 p.W.length c1, .slice A2 p.J.length c2] 29)) := by go_grown
  generalize hW0 : w.alloc (.cells #[.slice A0 p.O.length c0, .slice A1 p.W.length c1, .slice A2 p.J.length c2] 29) = W0 at *
  have BX : Blk W0 w.heap.size [.slice A0 p.O.length c0, .slice A1 p.W.length c1, .slice A2 p.J.length c2] 29 := by rw [← hW0]; exact Blk.new w _ _
  have HC := Lib.hid (elsOne_any _ p B d x W0 (h0'.below b0) (hB.below' b0) hl)
  unfold ElsOne at HC
  obtain ⟨bl, y0, y1, y2⟩ := BX.c3
  clear h0' hB m0 BX
  cases hk : rIsElement p x with
  | true =>
    rw [cEl_yes hk] at HC
    obtain ⟨hE1, hE2⟩ := Pres.el_con hk
    have HE := Lib.hid (Pres.el_out hE2).2
    by_cases hr : -1000000 ≤ k ∧ k ≤ 1000000
    · have HR : Hid (rPower p x k = Num.powZ p.L x k ∧ cPower p x k = 0) := Lib.hid ⟨by unfold rPower; rw [if_pos hk, if_pos hr], by unfold cPower; rw [if_pos hk, if_pos hr]⟩
      have HS : Hid (∀ W', Calls Try.prog 73 #[.int .i64 k] W' fun e w' => e = .returned (.bool true) ∧ W' = w') := Lib.hid fun W' => isSigned_yes k W' hr.1 hr.2
      go_enter Try.func31, Try.ntmps31
      go_wp2_with (fail)
      clear hW0
      refine HC.out.mono ?_; rintro e w1 ⟨q, ev, rfl, hb1, hT⟩
      obtain ⟨t, g, cE, rfl, GS, rfl, hg, e0, e1⟩ := hT hk
      have bA : Below w1.heap.size w1 (w1.alloc (.cells #[.pointer (some ⟨t.tb, 0, none⟩)] 65)) := by go_grown
      have L := bstep (bstep b0 b0.size hb1) (by have := b0.size; have := hb1.size; omega) bA
      have HG := Lib.hid (GS.below bA).G
      have f0 : (w1.alloc (.cells #[.pointer (some ⟨t.tb, 0, none⟩)] 65)).cell? ⟨g, 0, none⟩ = some (.pointer (some ⟨t.tb, 0, none⟩)) := (bA.cell hg).trans e0
      have f1 : (w1.alloc (.cells #[.pointer (some ⟨t.tb, 0, none⟩)] 65)).cell? ⟨g, 1, none⟩ = some (.int .i64 (Num.numL p.L x)) := (bA.cell hg).trans e1
      clear hT GS e0 e1 HC hb1 y0 y1 y2
      generalize hW2 : w1.alloc (.cells #[.pointer (some ⟨t.tb, 0, none⟩)] 65) = W2 at *
      have HI := Lib.hid (elPower_any HG.out x HE.out k)
      have HIE : Hid (Num.El p.L (Num.powZ p.L x k)) := Lib.hid (Num.powZ_El HG.out.ok HG.out.C HE.out k)
      unfold RetE at HI
      go_wp2_with (fail)
      refine (HS.out _).mono ?_; rintro e w5 ⟨rfl, rfl⟩
      go_wp2_with (fail)
      refine HI.out.mono ?_; rintro e w2 ⟨rfl, hb2⟩
      have HV := Lib.hid (vector_any (HG.out.below hb2) _ HIE.out)
      go_wp2_with (fail)
      refine HV.out.mono ?_; rintro e w3 ⟨u, rfl, own, hb3⟩
      go_wp2_with (fail)
      go_ret2
      rw [HR.out.1, HR.out.2]
      have L2 := bstep L L.size hb2
      exact MadeC.list (own.base_ L2.size) (el_len HG.out.V HIE.out) (bstep L2 L2.size hb3)
    · have HR : Hid (rPower p x k = [] ∧ cPower p x k = 2) := Lib.hid ⟨by unfold rPower; rw [if_pos hk, if_neg hr], by unfold cPower; rw [if_pos hk, if_neg hr]⟩
      have HS : Hid (∀ W', Calls Try.prog 73 #[.int .i64 k] W' fun e w' => e = .returned (.bool false) ∧ W' = w') := Lib.hid fun W' => isSigned_no k W' (by omega)
      go_enter Try.func31, Try.ntmps31
      go_wp2_with (fail)
      clear hW0
      refine HC.out.mono ?_; rintro e w1 ⟨q, ev, rfl, hb1, hT⟩
      obtain ⟨t, g, cE, rfl, GS, rfl, hg, e0, e1⟩ := hT hk
      have bA : Below w1.heap.size w1 (w1.alloc (.cells #[.pointer (some ⟨t.tb, 0, none⟩)] 65)) := by go_grown
      have L := bstep (bstep b0 b0.size hb1) (by have := b0.size; have := hb1.size; omega) bA
      have HG := Lib.hid (GS.below bA).G
      have f0 : (w1.alloc (.cells #[.pointer (some ⟨t.tb, 0, none⟩)] 65)).cell? ⟨g, 0, none⟩ = some (.pointer (some ⟨t.tb, 0, none⟩)) := (bA.cell hg).trans e0
      have f1 : (w1.alloc (.cells #[.pointer (some ⟨t.tb, 0, none⟩)] 65)).cell? ⟨g, 1, none⟩ = some (.int .i64 (Num.numL p.L x)) := (bA.cell hg).trans e1
      clear hT GS e0 e1 HC hb1 y0 y1 y2
      generalize hW2 : w1.alloc (.cells #[.pointer (some ⟨t.tb, 0, none⟩)] 65) = W2 at *
      go_wp2_with (fail)
      refine (HS.out _).mono ?_; rintro e w5 ⟨rfl, rfl⟩
      go_wp2_with (fail)
      go_ret2
      rw [HR.out.1, HR.out.2]
      exact MadeC.nilW L
  | false =>
    rw [cEl_no hk] at HC
    have HR : Hid (rPower p x k = [] ∧ cPower p x k = 1) := Lib.hid ⟨if_neg (by rw [hk]; simp), if_neg (by rw [hk]; simp)⟩
    go_enter Try.func31, Try.ntmps31
    go_wp2_with (fail)
    clear hW0
    refine HC.out.mono ?_; rintro e w1 ⟨q, ev, rfl, hb1, hT⟩
    have bA : Below w1.heap.size w1 (w1.alloc (.cells #[.pointer q] 65)) := by go_grown
    have L := bstep (bstep b0 b0.size hb1) (by have := b0.size; have := hb1.size; omega) bA
    go_wp2_with (fail)
    go_ret2
    rw [HR.out.1, HR.out.2]
    exact MadeC.nilW L
end Go.Proofs.Yteappjgdcbploaa
namespace Go.Proofs.Yteappjgdcbploaa
open Go.RowKit
set_option linter.unusedVariables false
set_option linter.unusedSimpArgs false

theorem conj_two {p : Pres} (V : Num.Val p.O p.W p.J) (C : Num.Con p.L) {x y : List Int} (hx : Num.El p.L x) (hy : Num.El p.L y) : Num.mulL p.L (Num.mulL p.L (Num.invL p.L y) x) y = Num.mulL p.L (Num.invL p.L y) (Num.mulL p.L x y) := Num.conj_eq (V.ok 0) C hx hy
theorem comm_two {p : Pres} (V : Num.Val p.O p.W p.J) (C : Num.Con p.L) {x y : List Int} (hx : Num.El p.L x) (hy : Num.El p.L y) : Num.mulL p.L (Num.invL p.L x) (Num.mulL p.L (Num.mulL p.L (Num.invL p.L y) x) y) = Num.mulL p.L (Num.invL p.L (Num.mulL p.L y x)) (Num.mulL p.L x y) := Num.comm_eq (V.ok 0) C hx hy
set_option maxRecDepth 100000 in
set_option maxHeartbeats 4000000 in
theorem resTwo_Multiply (v0 : Value) (p : Pres) (A B : Option Addr) (c d : Nat) (x y : List Int) (w : World) (h0 : PresC w v0 p) (hx : RdI w A x) (hl : x.length ≤ maxLen) (hy : RdI w B y) (kl : y.length ≤ maxLen) :
    Calls Try.prog 65 #[v0, .slice A x.length c, .slice B y.length d, .func (.func 66) #[] #[]] w (MadeC spI (rMultiply p x y) (cMultiply p x y) w) := by
  have h0' := h0
  obtain ⟨A0, c0, A1, c1, A2, c2, rfl, -, m0, -, -, -⟩ := h0
  have b0 : Below w.heap.size w (w.alloc (.cells #[.slice A0 p.O.length c0, .slice A1 p.W.length c1, .slice A2 p.J.length c2] 29)) := by go_grown
  generalize hW0 : w.alloc (.cells #[.slice A0 p.O.length c0, .slice A1 p.W.length c1, .slice A2 p.J.length c2] 29) = W0 at *
  have BX : Blk W0 w.heap.size [.slice A0 p.O.length c0, .slice A1 p.W.length c1, .slice A2 p.J.length c2] 29 := by rw [← hW0]; exact Blk.new w _ _
  have HC := Lib.hid (elsTwo_any _ p A B c d x y W0 (h0'.below b0) (hx.below' b0) hl (hy.below' b0) kl)
  unfold ElsTwo at HC
  obtain ⟨bl, y0, y1, y2⟩ := BX.c3
  clear h0' hx hy m0 BX
  cases hk : p.two x y with
  | true =>
    rw [cTwo_yes hk] at HC
    obtain ⟨hc, he1, he2⟩ := Pres.two_out hk
    have HX := Lib.hid (Pres.el_out he1).2
    have HY := Lib.hid (Pres.el_out he2).2
    have HR : Hid (rMultiply p x y = Num.mulL p.L x y ∧ cMultiply p x y = 0) := Lib.hid ⟨if_pos hk, if_pos hk⟩
    go_enter Try.func65, Try.ntmps65
    go_wp2_with (fail)
    clear hW0
    refine HC.out.mono ?_; rintro e w1 ⟨q, ev, rfl, hb1, hT⟩
    obtain ⟨t, g, cE, rfl, GS, rfl, hg, e0, e1, e2, e3⟩ := hT hk
    have bA : Below w1.heap.size w1 (w1.alloc (.cells #[.pointer (some ⟨t.tb, 0, none⟩)] 65)) := by go_grown
    have L := bstep (bstep b0 b0.size hb1) (by have := b0.size; have := hb1.size; omega) bA
    have HG := Lib.hid (GS.below bA).G
    have hgW : g < (w1.alloc (.cells #[.pointer (some ⟨t.tb, 0, none⟩)] 65)).heap.size := Nat.lt_of_lt_of_le hg bA.size
    have f0 : (w1.alloc (.cells #[.pointer (some ⟨t.tb, 0, none⟩)] 65)).cell? ⟨g, 0, none⟩ = some (.pointer (some ⟨t.tb, 0, none⟩)) := (bA.cell hg).trans e0
    have f1 : (w1.alloc (.cells #[.pointer (some ⟨t.tb, 0, none⟩)] 65)).cell? ⟨g, 1, none⟩ = some (.int .i64 (Num.numL p.L x)) := (bA.cell hg).trans e1
    have f2 : (w1.alloc (.cells #[.pointer (some ⟨t.tb, 0, none⟩)] 65)).cell? ⟨g, 2, none⟩ = some (.pointer (some ⟨t.tb, 0, none⟩)) := (bA.cell hg).trans e2
    have f3 : (w1.alloc (.cells #[.pointer (some ⟨t.tb, 0, none⟩)] 65)).cell? ⟨g, 3, none⟩ = some (.int .i64 (Num.numL p.L y)) := (bA.cell hg).trans e3
    clear hT GS e0 e1 e2 e3 HC hb1 y0 y1 y2 hg
    generalize hW2 : w1.alloc (.cells #[.pointer (some ⟨t.tb, 0, none⟩)] 65) = W2 at *
    have HOP : Hid (Calls Try.prog 66 #[elV t.tb (Num.numL p.L x), elV t.tb (Num.numL p.L y)] W2.drew (RetE t.tb (Num.numL p.L (Num.mulL p.L x y)) W2.drew)) := Lib.hid (by
      have := elTimes_any (HG.out.below ((Below.refl _ _).drew)) x y HX.out HY.out
      rwa [show Num.mulL (Num.tlL p.O p.W p.J 0) x y = Num.mulL p.L x y from rfl] at this)
    have HIE : Hid (Num.El p.L (Num.mulL p.L x y)) := Lib.hid (by
      have ix := Num.inv_El HG.out.ok HX.out
      have iy := Num.inv_El HG.out.ok HY.out
      have iz := Num.inv_El HG.out.ok (Num.El.mul HG.out.ok HY.out HX.out)
      have mz := Num.El.mul HG.out.ok HX.out HY.out
      first | exact mz | exact Num.El.mul HG.out.ok iy mz | exact Num.El.mul HG.out.ok iz mz)
    have HVC : Hid (∀ W', Below W2.heap.size W2 W' → _) := Lib.hid fun W' hb => vector_any (HG.out.below hb) _ HIE.out
    have HLN := Lib.hid (el_len HG.out.V HIE.out)
    unfold RetE at HOP
    generalize Num.mulL p.L x y = z at *
    generalize Num.numL p.L x = nx at *
    generalize Num.numL p.L y = ny at *
    go_wp2_with (fail)
    clear hW2
    go_region_held3 (fun wx => wx.cell? ⟨g, 0, none⟩ = some (.pointer (some ⟨t.tb, 0, none⟩)) ∧ wx.cell? ⟨g, 1, none⟩ = some (.int .i64 nx) ∧ wx.cell? ⟨g, 2, none⟩ = some (.pointer (some ⟨t.tb, 0, none⟩)) ∧ wx.cell? ⟨g, 3, none⟩ = some (.int .i64 ny)) (first | assumption | go_keep) (first
      | (go_at_call 70; (with_reducible refine HV2.out.mono ?_); rintro e w6 ⟨u6, rfl, own6, hb6⟩; have L6 := bstep L5 L5.size hb6; have SM6 : w6.cell? ⟨g, 0, none⟩ = some (.pointer (some ⟨t.tb, 0, none⟩)) ∧ w6.cell? ⟨g, 1, none⟩ = some (.int .i64 nx) ∧ w6.cell? ⟨g, 2, none⟩ = some (.pointer (some ⟨t.tb, 0, none⟩)) ∧ w6.cell? ⟨g, 3, none⟩ = some (.int .i64 ny) := ⟨(L6.cell hgW).trans f0, (L6.cell hgW).trans f1, (L6.cell hgW).trans f2, (L6.cell hgW).trans f3⟩)
      | (go_at_call 66; (with_reducible refine HOP.out.mono ?_); rintro e w5 ⟨rfl, hb5⟩; have L5 : Below W2.heap.size W2 w5 := (Below.refl _ _).drew.trans hb5; have SM5 : w5.cell? ⟨g, 0, none⟩ = some (.pointer (some ⟨t.tb, 0, none⟩)) ∧ w5.cell? ⟨g, 1, none⟩ = some (.int .i64 nx) ∧ w5.cell? ⟨g, 2, none⟩ = some (.pointer (some ⟨t.tb, 0, none⟩)) ∧ w5.cell? ⟨g, 3, none⟩ = some (.int .i64 ny) := ⟨(L5.cell hgW).trans f0, (L5.cell hgW).trans f1, (L5.cell hgW).trans f2, (L5.cell hgW).trans f3⟩; have HV2 := Lib.hid (HVC.out w5 L5)))
    all_goals
      go_wp2_with (fail)
      go_ret2
      rw [HR.out.1, HR.out.2]
      have L5' := bstep L L.size L5
      exact MadeC.list (own6.base_ L5'.size) HLN.out (bstep L5' L5'.size hb6)
  | false =>
    rw [cTwo_no hk] at HC
    have HR : Hid (rMultiply p x y = [] ∧ cMultiply p x y = 1) := Lib.hid ⟨if_neg (by rw [hk]; simp), if_neg (by rw [hk]; simp)⟩
    go_enter Try.func65, Try.ntmps65
    go_wp2_with (fail)
    clear hW0
    refine HC.out.mono ?_; rintro e w1 ⟨q, ev, rfl, hb1, hT⟩
    have bA : Below w1.heap.size w1 (w1.alloc (.cells #[.pointer q] 65)) := by go_grown
    have L := bstep (bstep b0 b0.size hb1) (by have := b0.size; have := hb1.size; omega) bA
    go_wp2_with (fail)
    go_ret2
    rw [HR.out.1, HR.out.2]
    exact MadeC.nilW L
set_option maxHeartbeats 2000000 in
theorem iMultiply_ok (v0 : Value) (p : Pres) (v1 : Value) (x : List Int) (v2 : Value) (y : List Int) (w : World) (h0 : PresC w v0 p) (h1 : spI.rd w v1 x) (h2 : spI.rd w v2 y) (s0 : spPres.sz p ≤ 1048576) (s1 : spI.sz x ≤ 1048576) (s2 : spI.sz y ≤ 1048576) :
    Calls Try.prog 24 #[v0, v1, v2] w (MadeC spI (rMultiply p x y) (cMultiply p x y) w) := by
  have h0' := h0
  obtain ⟨A0, c0, A1, c1, A2, c2, rfl, -, m0, -, -, -⟩ := h0
  obtain ⟨B, d, rfl, hl, hB⟩ := h1
  obtain ⟨B2, d2, rfl, hl2, hB2⟩ := h2
  have b0 : Below w.heap.size w (w.alloc (.cells #[.slice A0 p.O.length c0, .slice A1 p.W.length c1, .slice A2 p.J.length c2] 29)) := by go_grown
  generalize hW0 : w.alloc (.cells #[.slice A0 p.O.length c0, .slice A1 p.W.length c1, .slice A2 p.J.length c2] 29) = W0 at *
  have BX : Blk W0 w.heap.size [.slice A0 p.O.length c0, .slice A1 p.W.length c1, .slice A2 p.J.length c2] 29 := by rw [← hW0]; exact Blk.new w _ _
  have HC := Lib.hid (resTwo_Multiply _ p B B2 d d2 x y W0 (h0'.below b0) (hB.below' b0) hl (hB2.below' b0) hl2)
  unfold MadeC at HC
  obtain ⟨bl, y0, y1, y2⟩ := BX.c3
  clear h0' hB hB2 m0 BX
  go_enter Try.func24, Try.ntmps24
  go_wp2_with (fail)
  clear hW0
  refine HC.out.mono ?_; rintro e w1 ⟨u, S, rfl, own, hS, hcnt, hb⟩
  go_wp2_with (fail)
  go_ret2
  exact ⟨u, S, rfl, own, fun k hk => Nat.le_trans b0.size (hS k hk), hcnt, bstep b0 b0.size hb⟩
set_option maxRecDepth 100000 in
set_option maxHeartbeats 4000000 in
theorem resTwo_Conjugate (v0 : Value) (p : Pres) (A B : Option Addr) (c d : Nat) (x y : List Int) (w : World) (h0 : PresC w v0 p) (hx : RdI w A x) (hl : x.length ≤ maxLen) (hy : RdI w B y) (kl : y.length ≤ maxLen) :
    Calls Try.prog 65 #[v0, .slice A x.length c, .slice B y.length d, .func (.func 76) #[] #[]] w (MadeC spI (rConjugate p x y) (cConjugate p x y) w) := by
  have h0' := h0
  obtain ⟨A0, c0, A1, c1, A2, c2, rfl, -, m0, -, -, -⟩ := h0
  have b0 : Below w.heap.size w (w.alloc (.cells #[.slice A0 p.O.length c0, .slice A1 p.W.length c1, .slice A2 p.J.length c2] 29)) := by go_grown
  generalize hW0 : w.alloc (.cells #[.slice A0 p.O.length c0, .slice A1 p.W.length c1, .slice A2 p.J.length c2] 29) = W0 at *
  have BX : Blk W0 w.heap.size [.slice A0 p.O.length c0, .slice A1 p.W.length c1, .slice A2 p.J.length c2] 29 := by rw [← hW0]; exact Blk.new w _ _
  have HC := Lib.hid (elsTwo_any _ p A B c d x y W0 (h0'.below b0) (hx.below' b0) hl (hy.below' b0) kl)
  unfold ElsTwo at HC
  obtain ⟨bl, y0, y1, y2⟩ := BX.c3
  clear h0' hx hy m0 BX
  cases hk : p.two x y with
  | true =>
    rw [cTwo_yes hk] at HC
    obtain ⟨hc, he1, he2⟩ := Pres.two_out hk
    have HX := Lib.hid (Pres.el_out he1).2
    have HY := Lib.hid (Pres.el_out he2).2
    have HR : Hid (rConjugate p x y = Num.mulL p.L (Num.invL p.L y) (Num.mulL p.L x y) ∧ cConjugate p x y = 0) := Lib.hid ⟨if_pos hk, if_pos hk⟩
    go_enter Try.func65, Try.ntmps65
    go_wp2_with (fail)
    clear hW0
    refine HC.out.mono ?_; rintro e w1 ⟨q, ev, rfl, hb1, hT⟩
    obtain ⟨t, g, cE, rfl, GS, rfl, hg, e0, e1, e2, e3⟩ := hT hk
    have bA : Below w1.heap.size w1 (w1.alloc (.cells #[.pointer (some ⟨t.tb, 0, none⟩)] 65)) := by go_grown
    have L := bstep (bstep b0 b0.size hb1) (by have := b0.size; have := hb1.size; omega) bA
    have HG := Lib.hid (GS.below bA).G
    have hgW : g < (w1.alloc (.cells #[.pointer (some ⟨t.tb, 0, none⟩)] 65)).heap.size := Nat.lt_of_lt_of_le hg bA.size
    have f0 : (w1.alloc (.cells #[.pointer (some ⟨t.tb, 0, none⟩)] 65)).cell? ⟨g, 0, none⟩ = some (.pointer (some ⟨t.tb, 0, none⟩)) := (bA.cell hg).trans e0
    have f1 : (w1.alloc (.cells #[.pointer (some ⟨t.tb, 0, none⟩)] 65)).cell? ⟨g, 1, none⟩ = some (.int .i64 (Num.numL p.L x)) := (bA.cell hg).trans e1
    have f2 : (w1.alloc (.cells #[.pointer (some ⟨t.tb, 0, none⟩)] 65)).cell? ⟨g, 2, none⟩ = some (.pointer (some ⟨t.tb, 0, none⟩)) := (bA.cell hg).trans e2
    have f3 : (w1.alloc (.cells #[.pointer (some ⟨t.tb, 0, none⟩)] 65)).cell? ⟨g, 3, none⟩ = some (.int .i64 (Num.numL p.L y)) := (bA.cell hg).trans e3
    clear hT GS e0 e1 e2 e3 HC hb1 y0 y1 y2 hg
    generalize hW2 : w1.alloc (.cells #[.pointer (some ⟨t.tb, 0, none⟩)] 65) = W2 at *
    have HOP : Hid (Calls Try.prog 76 #[elV t.tb (Num.numL p.L x), elV t.tb (Num.numL p.L y)] W2.drew (RetE t.tb (Num.numL p.L (Num.mulL p.L (Num.invL p.L y) (Num.mulL p.L x y))) W2.drew)) := Lib.hid (by
      have := elConj_any (HG.out.below ((Below.refl _ _).drew)) x y HX.out HY.out
      rwa [show Num.mulL (Num.tlL p.O p.W p.J 0) (Num.mulL (Num.tlL p.O p.W p.J 0) (Num.invL (Num.tlL p.O p.W p.J 0) y) x) y = Num.mulL p.L (Num.invL p.L y) (Num.mulL p.L x y) from conj_two HG.out.V HG.out.C HX.out HY.out] at this)
    have HIE : Hid (Num.El p.L (Num.mulL p.L (Num.invL p.L y) (Num.mulL p.L x y))) := Lib.hid (by
      have ix := Num.inv_El HG.out.ok HX.out
      have iy := Num.inv_El HG.out.ok HY.out
      have iz := Num.inv_El HG.out.ok (Num.El.mul HG.out.ok HY.out HX.out)
      have mz := Num.El.mul HG.out.ok HX.out HY.out
      first | exact mz | exact Num.El.mul HG.out.ok iy mz | exact Num.El.mul HG.out.ok iz mz)
    have HVC : Hid (∀ W', Below W2.heap.size W2 W' → _) := Lib.hid fun W' hb => vector_any (HG.out.below hb) _ HIE.out
    have HLN := Lib.hid (el_len HG.out.V HIE.out)
    unfold RetE at HOP
    generalize Num.mulL p.L (Num.invL p.L y) (Num.mulL p.L x y) = z at *
    generalize Num.numL p.L x = nx at *
    generalize Num.numL p.L y = ny at *
    go_wp2_with (fail)
    clear hW2
    go_region_held3 (fun wx => wx.cell? ⟨g, 0, none⟩ = some (.pointer (some ⟨t.tb, 0, none⟩)) ∧ wx.cell? ⟨g, 1, none⟩ = some (.int .i64 nx) ∧ wx.cell? ⟨g, 2, none⟩ = some (.pointer (some ⟨t.tb, 0, none⟩)) ∧ wx.cell? ⟨g, 3, none⟩ = some (.int .i64 ny)) (first | assumption | go_keep) (first
      | (go_at_call 70; (with_reducible refine HV2.out.mono ?_); rintro e w6 ⟨u6, rfl, own6, hb6⟩; have L6 := bstep L5 L5.size hb6; have SM6 : w6.cell? ⟨g, 0, none⟩ = some (.pointer (some ⟨t.tb, 0, none⟩)) ∧ w6.cell? ⟨g, 1, none⟩ = some (.int .i64 nx) ∧ w6.cell? ⟨g, 2, none⟩ = some (.pointer (some ⟨t.tb, 0, none⟩)) ∧ w6.cell? ⟨g, 3, none⟩ = some (.int .i64 ny) := ⟨(L6.cell hgW).trans f0, (L6.cell hgW).trans f1, (L6.cell hgW).trans f2, (L6.cell hgW).trans f3⟩)
      | (go_at_call 76; (with_reducible refine HOP.out.mono ?_); rintro e w5 ⟨rfl, hb5⟩; have L5 : Below W2.heap.size W2 w5 := (Below.refl _ _).drew.trans hb5; have SM5 : w5.cell? ⟨g, 0, none⟩ = some (.pointer (some ⟨t.tb, 0, none⟩)) ∧ w5.cell? ⟨g, 1, none⟩ = some (.int .i64 nx) ∧ w5.cell? ⟨g, 2, none⟩ = some (.pointer (some ⟨t.tb, 0, none⟩)) ∧ w5.cell? ⟨g, 3, none⟩ = some (.int .i64 ny) := ⟨(L5.cell hgW).trans f0, (L5.cell hgW).trans f1, (L5.cell hgW).trans f2, (L5.cell hgW).trans f3⟩; have HV2 := Lib.hid (HVC.out w5 L5)))
    all_goals
      go_wp2_with (fail)
      go_ret2
      rw [HR.out.1, HR.out.2]
      have L5' := bstep L L.size L5
      exact MadeC.list (own6.base_ L5'.size) HLN.out (bstep L5' L5'.size hb6)
  | false =>
    rw [cTwo_no hk] at HC
    have HR : Hid (rConjugate p x y = [] ∧ cConjugate p x y = 1) := Lib.hid ⟨if_neg (by rw [hk]; simp), if_neg (by rw [hk]; simp)⟩
    go_enter Try.func65, Try.ntmps65
    go_wp2_with (fail)
    clear hW0
    refine HC.out.mono ?_; rintro e w1 ⟨q, ev, rfl, hb1, hT⟩
    have bA : Below w1.heap.size w1 (w1.alloc (.cells #[.pointer q] 65)) := by go_grown
    have L := bstep (bstep b0 b0.size hb1) (by have := b0.size; have := hb1.size; omega) bA
    go_wp2_with (fail)
    go_ret2
    rw [HR.out.1, HR.out.2]
    exact MadeC.nilW L
set_option maxHeartbeats 2000000 in
theorem iConjugate_ok (v0 : Value) (p : Pres) (v1 : Value) (x : List Int) (v2 : Value) (y : List Int) (w : World) (h0 : PresC w v0 p) (h1 : spI.rd w v1 x) (h2 : spI.rd w v2 y) (s0 : spPres.sz p ≤ 1048576) (s1 : spI.sz x ≤ 1048576) (s2 : spI.sz y ≤ 1048576) :
    Calls Try.prog 33 #[v0, v1, v2] w (MadeC spI (rConjugate p x y) (cConjugate p x y) w) := by
  have h0' := h0
  obtain ⟨A0, c0, A1, c1, A2, c2, rfl, -, m0, -, -, -⟩ := h0
  obtain ⟨B, d, rfl, hl, hB⟩ := h1
  obtain ⟨B2, d2, rfl, hl2, hB2⟩ := h2
  have b0 : Below w.heap.size w (w.alloc (.cells #[.slice A0 p.O.length c0, .slice A1 p.W.length c1, .slice A2 p.J.length c2] 29)) := by go_grown
  generalize hW0 : w.alloc (.cells #[.slice A0 p.O.length c0, .slice A1 p.W.length c1, .slice A2 p.J.length c2] 29) = W0 at *
  have BX : Blk W0 w.heap.size [.slice A0 p.O.length c0, .slice A1 p.W.length c1, .slice A2 p.J.length c2] 29 := by rw [← hW0]; exact Blk.new w _ _
  have HC := Lib.hid (resTwo_Conjugate _ p B B2 d d2 x y W0 (h0'.below b0) (hB.below' b0) hl (hB2.below' b0) hl2)
  unfold MadeC at HC
  obtain ⟨bl, y0, y1, y2⟩ := BX.c3
  clear h0' hB hB2 m0 BX
  go_enter Try.func33, Try.ntmps33
  go_wp2_with (fail)
  clear hW0
  refine HC.out.mono ?_; rintro e w1 ⟨u, S, rfl, own, hS, hcnt, hb⟩
  go_wp2_with (fail)
  go_ret2
  exact ⟨u, S, rfl, own, fun k hk => Nat.le_trans b0.size (hS k hk), hcnt, bstep b0 b0.size hb⟩
set_option maxRecDepth 100000 in
set_option maxHeartbeats 4000000 in
theorem resTwo_Commutator (v0 : Value) (p : Pres) (A B : Option Addr) (c d : Nat) (x y : List Int) (w : World) (h0 : PresC w v0 p) (hx : RdI w A x) (hl : x.length ≤ maxLen) (hy : RdI w B y) (kl : y.length ≤ maxLen) :
    Calls Try.prog 65 #[v0, .slice A x.length c, .slice B y.length d, .func (.func 78) #[] #[]] w (MadeC spI (rCommutator p x y) (cCommutator p x y) w) := by
  have h0' := h0
  obtain ⟨A0, c0, A1, c1, A2, c2, rfl, -, m0, -, -, -⟩ := h0
  have b0 : Below w.heap.size w (w.alloc (.cells #[.slice A0 p.O.length c0, .slice A1 p.W.length c1, .slice A2 p.J.length c2] 29)) := by go_grown
  generalize hW0 : w.alloc (.cells #[.slice A0 p.O.length c0, .slice A1 p.W.length c1, .slice A2 p.J.length c2] 29) = W0 at *
  have BX : Blk W0 w.heap.size [.slice A0 p.O.length c0, .slice A1 p.W.length c1, .slice A2 p.J.length c2] 29 := by rw [← hW0]; exact Blk.new w _ _
  have HC := Lib.hid (elsTwo_any _ p A B c d x y W0 (h0'.below b0) (hx.below' b0) hl (hy.below' b0) kl)
  unfold ElsTwo at HC
  obtain ⟨bl, y0, y1, y2⟩ := BX.c3
  clear h0' hx hy m0 BX
  cases hk : p.two x y with
  | true =>
    rw [cTwo_yes hk] at HC
    obtain ⟨hc, he1, he2⟩ := Pres.two_out hk
    have HX := Lib.hid (Pres.el_out he1).2
    have HY := Lib.hid (Pres.el_out he2).2
    have HR : Hid (rCommutator p x y = Num.mulL p.L (Num.invL p.L (Num.mulL p.L y x)) (Num.mulL p.L x y) ∧ cCommutator p x y = 0) := Lib.hid ⟨if_pos hk, if_pos hk⟩
    go_enter Try.func65, Try.ntmps65
    go_wp2_with (fail)
    clear hW0
    refine HC.out.mono ?_; rintro e w1 ⟨q, ev, rfl, hb1, hT⟩
    obtain ⟨t, g, cE, rfl, GS, rfl, hg, e0, e1, e2, e3⟩ := hT hk
    have bA : Below w1.heap.size w1 (w1.alloc (.cells #[.pointer (some ⟨t.tb, 0, none⟩)] 65)) := by go_grown
    have L := bstep (bstep b0 b0.size hb1) (by have := b0.size; have := hb1.size; omega) bA
    have HG := Lib.hid (GS.below bA).G
    have hgW : g < (w1.alloc (.cells #[.pointer (some ⟨t.tb, 0, none⟩)] 65)).heap.size := Nat.lt_of_lt_of_le hg bA.size
    have f0 : (w1.alloc (.cells #[.pointer (some ⟨t.tb, 0, none⟩)] 65)).cell? ⟨g, 0, none⟩ = some (.pointer (some ⟨t.tb, 0, none⟩)) := (bA.cell hg).trans e0
    have f1 : (w1.alloc (.cells #[.pointer (some ⟨t.tb, 0, none⟩)] 65)).cell? ⟨g, 1, none⟩ = some (.int .i64 (Num.numL p.L x)) := (bA.cell hg).trans e1
    have f2 : (w1.alloc (.cells #[.pointer (some ⟨t.tb, 0, none⟩)] 65)).cell? ⟨g, 2, none⟩ = some (.pointer (some ⟨t.tb, 0, none⟩)) := (bA.cell hg).trans e2
    have f3 : (w1.alloc (.cells #[.pointer (some ⟨t.tb, 0, none⟩)] 65)).cell? ⟨g, 3, none⟩ = some (.int .i64 (Num.numL p.L y)) := (bA.cell hg).trans e3
    clear hT GS e0 e1 e2 e3 HC hb1 y0 y1 y2 hg
    generalize hW2 : w1.alloc (.cells #[.pointer (some ⟨t.tb, 0, none⟩)] 65) = W2 at *
    have HOP : Hid (Calls Try.prog 78 #[elV t.tb (Num.numL p.L x), elV t.tb (Num.numL p.L y)] W2.drew (RetE t.tb (Num.numL p.L (Num.mulL p.L (Num.invL p.L (Num.mulL p.L y x)) (Num.mulL p.L x y))) W2.drew)) := Lib.hid (by
      have := elComm_any (HG.out.below ((Below.refl _ _).drew)) x y HX.out HY.out
      rwa [show Num.mulL (Num.tlL p.O p.W p.J 0) (Num.invL (Num.tlL p.O p.W p.J 0) x) (Num.mulL (Num.tlL p.O p.W p.J 0) (Num.mulL (Num.tlL p.O p.W p.J 0) (Num.invL (Num.tlL p.O p.W p.J 0) y) x) y) = Num.mulL p.L (Num.invL p.L (Num.mulL p.L y x)) (Num.mulL p.L x y) from comm_two HG.out.V HG.out.C HX.out HY.out] at this)
    have HIE : Hid (Num.El p.L (Num.mulL p.L (Num.invL p.L (Num.mulL p.L y x)) (Num.mulL p.L x y))) := Lib.hid (by
      have ix := Num.inv_El HG.out.ok HX.out
      have iy := Num.inv_El HG.out.ok HY.out
      have iz := Num.inv_El HG.out.ok (Num.El.mul HG.out.ok HY.out HX.out)
      have mz := Num.El.mul HG.out.ok HX.out HY.out
      first | exact mz | exact Num.El.mul HG.out.ok iy mz | exact Num.El.mul HG.out.ok iz mz)
    have HVC : Hid (∀ W', Below W2.heap.size W2 W' → _) := Lib.hid fun W' hb => vector_any (HG.out.below hb) _ HIE.out
    have HLN := Lib.hid (el_len HG.out.V HIE.out)
    unfold RetE at HOP
    generalize Num.mulL p.L (Num.invL p.L (Num.mulL p.L y x)) (Num.mulL p.L x y) = z at *
    generalize Num.numL p.L x = nx at *
    generalize Num.numL p.L y = ny at *
    go_wp2_with (fail)
    clear hW2
    go_region_held3 (fun wx => wx.cell? ⟨g, 0, none⟩ = some (.pointer (some ⟨t.tb, 0, none⟩)) ∧ wx.cell? ⟨g, 1, none⟩ = some (.int .i64 nx) ∧ wx.cell? ⟨g, 2, none⟩ = some (.pointer (some ⟨t.tb, 0, none⟩)) ∧ wx.cell? ⟨g, 3, none⟩ = some (.int .i64 ny)) (first | assumption | go_keep) (first
      | (go_at_call 70; (with_reducible refine HV2.out.mono ?_); rintro e w6 ⟨u6, rfl, own6, hb6⟩; have L6 := bstep L5 L5.size hb6; have SM6 : w6.cell? ⟨g, 0, none⟩ = some (.pointer (some ⟨t.tb, 0, none⟩)) ∧ w6.cell? ⟨g, 1, none⟩ = some (.int .i64 nx) ∧ w6.cell? ⟨g, 2, none⟩ = some (.pointer (some ⟨t.tb, 0, none⟩)) ∧ w6.cell? ⟨g, 3, none⟩ = some (.int .i64 ny) := ⟨(L6.cell hgW).trans f0, (L6.cell hgW).trans f1, (L6.cell hgW).trans f2, (L6.cell hgW).trans f3⟩)
      | (go_at_call 78; (with_reducible refine HOP.out.mono ?_); rintro e w5 ⟨rfl, hb5⟩; have L5 : Below W2.heap.size W2 w5 := (Below.refl _ _).drew.trans hb5; have SM5 : w5.cell? ⟨g, 0, none⟩ = some (.pointer (some ⟨t.tb, 0, none⟩)) ∧ w5.cell? ⟨g, 1, none⟩ = some (.int .i64 nx) ∧ w5.cell? ⟨g, 2, none⟩ = some (.pointer (some ⟨t.tb, 0, none⟩)) ∧ w5.cell? ⟨g, 3, none⟩ = some (.int .i64 ny) := ⟨(L5.cell hgW).trans f0, (L5.cell hgW).trans f1, (L5.cell hgW).trans f2, (L5.cell hgW).trans f3⟩; have HV2 := Lib.hid (HVC.out w5 L5)))
    all_goals
      go_wp2_with (fail)
      go_ret2
      rw [HR.out.1, HR.out.2]
      have L5' := bstep L L.size L5
      exact MadeC.list (own6.base_ L5'.size) HLN.out (bstep L5' L5'.size hb6)
  | false =>
    rw [cTwo_no hk] at HC
    have HR : Hid (rCommutator p x y = [] ∧ cCommutator p x y = 1) := Lib.hid ⟨if_neg (by rw [hk]; simp), if_neg (by rw [hk]; simp)⟩
    go_enter Try.func65, Try.ntmps65
    go_wp2_with (fail)
    clear hW0
    refine HC.out.mono ?_; rintro e w1 ⟨q, ev, rfl, hb1, hT⟩
    have bA : Below w1.heap.size w1 (w1.alloc (.cells #[.pointer q] 65)) := by go_grown
    have L := bstep (bstep b0 b0.size hb1) (by have := b0.size; have := hb1.size; omega) bA
    go_wp2_with (fail)
    go_ret2
    rw [HR.out.1, HR.out.2]
    exact MadeC.nilW L
set_option maxHeartbeats 2000000 in
theorem iCommutator_ok (v0 : Value) (p : Pres) (v1 : Value) (x : List Int) (v2 : Value) (y : List Int) (w : World) (h0 : PresC w v0 p) (h1 : spI.rd w v1 x) (h2 : spI.rd w v2 y) (s0 : spPres.sz p ≤ 1048576) (s1 : spI.sz x ≤ 1048576) (s2 : spI.sz y ≤ 1048576) :
    Calls Try.prog 35 #[v0, v1, v2] w (MadeC spI (rCommutator p x y) (cCommutator p x y) w) := by
  have h0' := h0
  obtain ⟨A0, c0, A1, c1, A2, c2, rfl, -, m0, -, -, -⟩ := h0
  obtain ⟨B, d, rfl, hl, hB⟩ := h1
  obtain ⟨B2, d2, rfl, hl2, hB2⟩ := h2
  have b0 : Below w.heap.size w (w.alloc (.cells #[.slice A0 p.O.length c0, .slice A1 p.W.length c1, .slice A2 p.J.length c2] 29)) := by go_grown
  generalize hW0 : w.alloc (.cells #[.slice A0 p.O.length c0, .slice A1 p.W.length c1, .slice A2 p.J.length c2] 29) = W0 at *
  have BX : Blk W0 w.heap.size [.slice A0 p.O.length c0, .slice A1 p.W.length c1, .slice A2 p.J.length c2] 29 := by rw [← hW0]; exact Blk.new w _ _
  have HC := Lib.hid (resTwo_Commutator _ p B B2 d d2 x y W0 (h0'.below b0) (hB.below' b0) hl (hB2.below' b0) hl2)
  unfold MadeC at HC
  obtain ⟨bl, y0, y1, y2⟩ := BX.c3
  clear h0' hB hB2 m0 BX
  go_enter Try.func35, Try.ntmps35
  go_wp2_with (fail)
  clear hW0
  refine HC.out.mono ?_; rintro e w1 ⟨u, S, rfl, own, hS, hcnt, hb⟩
  go_wp2_with (fail)
  go_ret2
  exact ⟨u, S, rfl, own, fun k hk => Nat.le_trans b0.size (hS k hk), hcnt, bstep b0 b0.size hb⟩
end Go.Proofs.Yteappjgdcbploaa
namespace Go.Proofs.Yteappjgdcbploaa
open Go.RowKit
set_option linter.unusedVariables false
set_option linter.unusedSimpArgs false

section
variable (A0 A1 A2 : Option Addr) (c0 c1 c2 : Nat) (O : List Int) (W : List (List Int)) (J : List (List (List Int)))
def InvOk (i : Nat) : Prop := ∀ (w : World) (x : List Int) (X : Option Addr) (cx : Nat), RdP A0 A1 A2 O W J w → RdI w X x → x.length = O.length → Num.El (Num.tlL O W J i) (x.drop i) →
  Calls Try.prog 109 #[prV A0 A1 A2 c0 c1 c2 O, .int .i64 (i : Int), .slice X O.length cx] w (VecO O (Num.zer i ++ Num.invL (Num.tlL O W J i) (x.drop i)) w)
end
theorem Num.invL_cons (L : Num.Lv) (Ls : List Num.Lv) (x : Int) (a : List Int) : Num.invL (L :: Ls) (x :: a) = if x = 0 then 0 :: Num.invL Ls a else Num.mulL (L :: Ls) (Num.mulL (L :: Ls) (0 :: Num.invL Ls a) ((L.o - x) :: Num.zer Ls.length)) (0 :: Num.invL Ls L.w) := rfl
theorem Num.zer_cons0 (i : Nat) (u : List Int) : Num.zer (i + 1) ++ u = Num.zer i ++ 0 :: u := by
  unfold Num.zer
  rw [List.replicate_succ', List.append_assoc]
  rfl
theorem sFrom_end {A0 A1 A2 : Option Addr} {c0 c1 c2 : Nat} {O : List Int} {W : List (List Int)} {J : List (List (List Int))} (V : Num.Val O W J) (i : Nat) (hi : i = O.length) : InvOk A0 A1 A2 c0 c1 c2 O W J i := by
  intro w x X cx hP hX hxl hxe
  obtain ⟨iT, hiT, hz0, hz1, hz2⟩ := info_parts infoI
  have n6 := V.n6
  have b0 : Below w.heap.size w (w.alloc (.cells #[.slice A0 O.length c0, .slice A1 O.length c1, .slice A2 O.length c2] 29)) := by go_grown
  have BX := (Blk.new w [.slice A0 O.length c0, .slice A1 O.length c1, .slice A2 O.length c2] 29).c3
  have q1 : (O.length : Int) ≤ (i : Int) := by omega
  have HU : Hid (List.replicate O.length 0 = Num.zer i ++ Num.invL (Num.tlL O W J i) (x.drop i)) := Lib.hid (by
    rw [Num.tlL_end (by omega), hi]
    simp [Num.invL, Num.zer])
  clear hP hX hxl hxe V
  generalize hW0 : (w.alloc (.cells #[.slice A0 O.length c0, .slice A1 O.length c1, .slice A2 O.length c2] 29)) = W0 at *
  obtain ⟨bl, bx0, bx1, bx2⟩ := BX
  have z0 := b0.size
  unfold VecO
  go_enter Try.func109, Try.ntmps109
  go_wp2_with (first | (at_make; refine wpList_make_full _ rfl (.tmp 17) (.tmp 17) 22 rfl w.heap.size 2 iT (.int .i64 0) 1 Try.underlying22 hiT hz0 hz1 .i64 .i64 (O.length : Int) (O.length : Int) O.length rfl rfl rfl rfl (by rw [hz2]; omega) (by unfold maxLen; omega) z0 ?_; intro w1 own1 gr1; have o1 := madeZ own1))
  have B1 : Below w.heap.size w w1 := b0.grown gr1 z0 (fun k hk => by simp at hk)
  go_ret
  exact ⟨_, _, rfl, by rw [← HU.out]; exact o1, B1⟩
set_option maxRecDepth 100000 in
set_option maxHeartbeats 4000000 in
theorem sFrom_of {A0 A1 A2 : Option Addr} {c0 c1 c2 : Nat} {O : List Int} {W : List (List Int)} {J : List (List (List Int))} (V : Num.Val O W J) (i : Nat) (hi : i < O.length) (ih : InvOk A0 A1 A2 c0 c1 c2 O W J (i + 1)) : InvOk A0 A1 A2 c0 c1 c2 O W J i := by
  intro w x X cx hP hX hxl hxe
  obtain ⟨iT, hiT, hz0, hz1, hz2⟩ := info_parts infoI
  have n6 := V.n6
  have HV := Lib.hid V
  have HI := Lib.hid ih
  have HAT : Hid (AtOkO A0 A1 A2 c0 c1 c2 O W J i) := Lib.hid (sAtO_any V i (by omega))
  have b0 : Below w.heap.size w (w.alloc (.cells #[.slice A0 O.length c0, .slice A1 O.length c1, .slice A2 O.length c2] 29)) := by go_grown
  have BX := (Blk.new w [.slice A0 O.length c0, .slice A1 O.length c1, .slice A2 O.length c2] 29)
  have HPW : Hid (∀ w', Below w.heap.size w w' → RdP A0 A1 A2 O W J w' ∧ RdI w' X x) := Lib.hid fun w' hb => ⟨⟨hP.1.below' hb, hP.2.1.below' hb, hP.2.2.below' hb⟩, hX.below' hb⟩
  have HXL := Lib.hid hxl
  have q1 : ¬ (O.length : Int) ≤ (i : Int) := by omega
  have i0 : (0 : Int) ≤ (i : Int) := by omega
  have i1 : (i : Int) < (O.length : Int) := by omega
  have hiw : IntKind.i64.wrap ((i : Int) + 1) = (i : Int) + 1 := IntWalk.i64_in _ (by omega)
  have hxb := Num.El.at _ i rfl hxe 0 (by omega)
  have ho7 := V.ob i hi
  rw [Nat.add_zero, List.getD_eq_getElem?_getD, List.getElem?_drop, Nat.add_zero, ← List.getD_eq_getElem?_getD] at hxb
  have hdx := Num.drop_at (l := x) (i := i) (by omega)
  have hxe1 : Num.El (Num.tlL O W J (i + 1)) (x.drop (i + 1)) := by
    rw [hdx, Num.tlL_step hi] at hxe
    obtain ⟨y, a', e, -, -, h⟩ := hxe
    rw [(List.cons.inj e).2]; exact h
  have HXE := Lib.hid hxe1
  obtain ⟨XX, hXX⟩ : ∃ y, y = x.getD i 0 := ⟨_, rfl⟩
  obtain ⟨XO, hXO⟩ : ∃ y, y = O.getD i 0 := ⟨_, rfl⟩
  have HRES : Hid (Num.zer i ++ Num.invL (Num.tlL O W J i) (x.drop i) = if XX = 0 then Num.zer (i + 1) ++ Num.invL (Num.tlL O W J (i + 1)) (x.drop (i + 1)) else Num.zer i ++ Num.mulL (Num.tlL O W J i) (Num.mulL (Num.tlL O W J i) (0 :: Num.invL (Num.tlL O W J (i + 1)) (x.drop (i + 1))) ((XO - XX) :: Num.zer (O.length - (i + 1)))) (0 :: Num.invL (Num.tlL O W J (i + 1)) ((W.getD i []).drop (i + 1)))) := Lib.hid (by
    rw [hdx, ← hXX, Num.tlL_step hi, Num.invL_cons, Num.zer_cons0, Num.tlL_len, hXO]
    by_cases h : XX = 0
    · rw [if_pos h, if_pos h]
    · rw [if_neg h, if_neg h]; rfl)
  rw [← hXX, ← hXO] at hxb
  rw [← hXO] at ho7
  have HXX := Lib.hid hXX
  have HXO := Lib.hid hXO
  have HC1 := Lib.hid (sOwnI_any X O.length cx x (w.alloc (.cells #[.slice A0 O.length c0, .slice A1 O.length c1, .slice A2 O.length c2] 29)) (hX.below' b0) hxl (by omega))
  clear hP hX hxl hxe V ih hdx hxe1 hXX hXO
  generalize hW0 : (w.alloc (.cells #[.slice A0 O.length c0, .slice A1 O.length c1, .slice A2 O.length c2] 29)) = W0 at *
  obtain ⟨bl, bx0, bx1, bx2⟩ := BX.c3
  have HBX := Lib.hid BX
  have z0 := b0.size
  clear BX
  unfold VecO
  go_enter Try.func109, Try.ntmps109
  go_wp2_with (fail)
  clear hW0
  refine HC1.out.mono ?_; rintro e w1 ⟨v1, rfl, ow1, hb1⟩
  have L1 : Below w.heap.size w w1 := bstep b0 z0 hb1
  obtain ⟨g1, d1, rfl, e1l, e1b⟩ := ownI_first ow1 (by rw [HXL.out]; omega) HXL.out
  obtain ⟨e1c, e1f⟩ := ow1.at_ i (by rw [HXL.out]; omega)
  have O1 := ow1.set i 0
  have L2 : Below w.heap.size w (w1.setCell ⟨g1, i, none⟩ (.int .i64 0)) := L1.setCell (p := ⟨g1, i, none⟩) (by show _ ≤ g1; omega) _
  have M2 : Below W0.heap.size W0 (w1.setCell ⟨g1, i, none⟩ (.int .i64 0)) := hb1.setCell (p := ⟨g1, i, none⟩) (by show _ ≤ g1; omega) _
  have HC2 := Lib.hid (HI.out _ (x.set i 0) (some ⟨g1, 0, none⟩) d1 (HPW.out _ L2).1 O1.reads (by rw [List.length_set]; exact HXL.out) (by rw [Num.drop_set]; exact HXE.out))
  rw [Num.drop_set] at HC2
  obtain ⟨-, y0, y1, y2⟩ := (HBX.out.below M2).c3
  unfold VecO at HC2
  rw [show ((i + 1 : Nat) : Int) = (i : Int) + 1 by omega] at HC2
  obtain ⟨go, oo, rfl, hgo, hco⟩ := (HPW.out _ L2).1.1 i hi
  obtain ⟨gx, ox, rfl, hgx, hcx⟩ := (HPW.out _ L2).2 i (by rw [HXL.out]; exact hi)
  rw [← HXO.out] at hco
  rw [← HXX.out] at hcx
  have HIE := Lib.hid (Num.inv_El (HV.out.ok (i + 1)) HXE.out)
  generalize Num.invL (Num.tlL O W J (i + 1)) (x.drop (i + 1)) = iv at *
  clear HC1 O1 ow1 hb1
  generalize hWA : w1.setCell ⟨g1, i, none⟩ (.int .i64 0) = wA at *
  go_wp2_with (fail)
  clear hWA
  refine HC2.out.mono ?_; rintro e w2 ⟨A2', c2', rfl, ow2, hb2⟩
  have L3 := bstep L2 L2.size hb2
  have M3 := bstep M2 M2.size hb2
  have hcx2 := (hb2.cell hgx).trans hcx
  obtain ⟨bl3, t0, t1, t2⟩ := (HBX.out.below M3).c3
  by_cases hz : XX = 0
  · have HR2 : Hid (Num.zer i ++ Num.invL (Num.tlL O W J i) (x.drop i) = Num.zer (i + 1) ++ iv) := Lib.hid (by rw [HRES.out, if_pos hz])
    subst hz
    clear HC2 HRES e1c e1f
    go_wp2_with (fail)
    go_ret
    exact ⟨_, _, rfl, by rw [HR2.out]; exact ow2.base_ L2.size, L3⟩
  · have hzb : (XX == 0) = false := by simp [hz]
    have HR2 : Hid (Num.zer i ++ Num.invL (Num.tlL O W J i) (x.drop i) = Num.zer i ++ Num.mulL (Num.tlL O W J i) (Num.mulL (Num.tlL O W J i) (0 :: iv) ((XO - XX) :: Num.zer (O.length - (i + 1)))) (0 :: Num.invL (Num.tlL O W J (i + 1)) ((W.getD i []).drop (i + 1)))) := Lib.hid (by rw [HRES.out, if_neg hz])
    have HEW := Lib.hid (HV.out.we i (i + 1) hi)
    have HIW := Lib.hid (Num.inv_El (HV.out.ok (i + 1)) HEW.out)
    have HCW : Hid (∀ W' A c, Below w.heap.size w W' → RdI W' A (W.getD i []) → Calls Try.prog 109 #[prV (some ⟨go, oo, none⟩) A1 A2 c0 c1 c2 O, .int .i64 ((i : Int) + 1), .slice A O.length c] W' (VecO O (Num.zer (i + 1) ++ Num.invL (Num.tlL O W J (i + 1)) ((W.getD i []).drop (i + 1))) W')) := Lib.hid fun W' A c hb hr => by
      have := HI.out W' (W.getD i []) A c (HPW.out _ hb).1 hr (HV.out.wl i hi) HEW.out
      rwa [show ((i + 1 : Nat) : Int) = (i : Int) + 1 by omega] at this
    generalize Num.invL (Num.tlL O W J (i + 1)) ((W.getD i []).drop (i + 1)) = iw at *
    have hO' := HV.out.ok i
    have hO2 := hO'
    rw [Num.tlL_step hi] at hO2
    have HE1 : Hid (Num.El (Num.tlL O W J i) (0 :: iv)) := Lib.hid (by rw [Num.tlL_step hi]; exact Num.El.in0 hO2 HIE.out)
    have HE2 : Hid (Num.El (Num.tlL O W J i) ((XO - XX) :: Num.zer (O.length - (i + 1)))) := Lib.hid (by
      have := Num.El.top hO2 (x := XO - XX) (by omega) (by show XO - XX < O.getD i 0; rw [← HXO.out]; omega)
      rw [Num.tlL_len] at this
      rw [Num.tlL_step hi]; exact this)
    have HE3 : Hid (Num.El (Num.tlL O W J i) (0 :: iw)) := Lib.hid (by rw [Num.tlL_step hi]; exact Num.El.in0 hO2 HIW.out)
    have HD1 : Hid ((Num.zer (i + 1) ++ iv).drop i = 0 :: iv ∧ (Num.zer (i + 1) ++ iv).length = O.length) := Lib.hid ⟨by rw [Num.zer_cons0, Num.pad_drop], Num.pad_len (HV.out.ok (i + 1)) HIE.out (by omega)⟩
    have HD3 : Hid ((Num.zer (i + 1) ++ iw).drop i = 0 :: iw ∧ (Num.zer (i + 1) ++ iw).length = O.length) := Lib.hid ⟨by rw [Num.zer_cons0, Num.pad_drop], Num.pad_len (HV.out.ok (i + 1)) HIW.out (by omega)⟩
    have HD2 : Hid (((List.replicate O.length (0 : Int)).set i (XO - XX)).drop i = (XO - XX) :: Num.zer (O.length - (i + 1)) ∧ ((List.replicate O.length (0 : Int)).set i (XO - XX)).length = O.length) := Lib.hid ⟨by
      rw [List.drop_set, if_neg (by omega), Nat.sub_self, List.drop_replicate, show O.length - i = (O.length - (i + 1)) + 1 by omega]
      rfl, by simp⟩
    have hwo : IntKind.i64.wrap (XO - XX) = XO - XX := IntWalk.i64_in _ (by omega)
    have z2 : W0.heap.size ≤ w2.heap.size := M3.size
    obtain ⟨gw, owo, Bw, dw, rfl, hgw, hcw, hlw, hrw⟩ := (HPW.out _ L3).1.2.1 i (by rw [HV.out.lw]; exact hi)
    rw [HV.out.wl i hi] at hcw
    have hco3 := (hb2.cell hgo).trans hco
    have hgo3 := Nat.lt_of_lt_of_le hgo hb2.size
    have hgx3 := Nat.lt_of_lt_of_le hgx hb2.size
    have OW2 := Lib.hid ow2
    have HRW := Lib.hid hrw
    clear HC2 HRES e1c e1f hO' hO2 HIW HIE hco hcx hgo hgx y0 y1 y2 ow2 hb2 HI hrw hlw
    go_wp2_with (first | (at_make; refine wpList_make_full _ rfl (.tmp 35) (.tmp 35) 22 rfl w2.heap.size 2 iT (.int .i64 0) 1 Try.underlying22 hiT hz0 hz1 .i64 .i64 (O.length : Int) (O.length : Int) O.length rfl rfl rfl rfl (by rw [hz2]; omega) (by unfold maxLen; omega) (Nat.le_refl _) ?_; intro w3 own3 gr3; obtain ⟨ct, ft, ot⟩ := madeZ_at hi own3; have B3 : Below w2.heap.size w2 w3 := (Below.refl _ _).grown gr3 (Nat.le_refl _) (fun k hk => by simp at hk); have s0 := (B3.cell bl3).trans t0; have s1 := (B3.cell hgo3).trans hco3; have s2 := (B3.cell hgx3).trans hcx2))
    have OT := Lib.hid (ot.set i (XO - XX))
    have L4 := (bstep L3 L3.size B3).setCell (p := ⟨w2.heap.size, i, none⟩) (by show _ ≤ w2.heap.size; exact L3.size) (.int .i64 (XO - XX))
    have M4 := (bstep M3 M3.size B3).setCell (p := ⟨w2.heap.size, i, none⟩) (by show _ ≤ w2.heap.size; exact z2) (.int .i64 (XO - XX))
    have N4 := B3.setCell (p := ⟨w2.heap.size, i, none⟩) (Nat.le_refl _) (.int .i64 (XO - XX))
    clear own3 gr3 ot
    go_region
    all_goals
      have BD : Below (w3.setCell ⟨w2.heap.size, i, none⟩ (.int .i64 (XO - XX))).heap.size (w3.setCell ⟨w2.heap.size, i, none⟩ (.int .i64 (XO - XX))) (w3.setCell ⟨w2.heap.size, i, none⟩ (.int .i64 (XO - XX))).drew := (Below.refl _ _).drew
      have OT2 := Lib.hid (OT.out.below BD)
      have L5 := bstep L4 L4.size BD
      have M5 := bstep M4 M4.size BD
      have N5 := bstep N4 N4.size BD
      clear OT L4 M4 N4 BD ct ft s0 s1 s2 B3
      generalize (w3.setCell ⟨w2.heap.size, i, none⟩ (.int .i64 (XO - XX))).drew = wB at *
      have OWB := Lib.hid (OW2.out.below N5)
      have HRWB := Lib.hid (HRW.out.below' N5)
      have hcwB := (N5.cell hgw).trans hcw
      have hgwB := Nat.lt_of_lt_of_le hgw N5.size
      obtain ⟨blB, t0', t1', t2'⟩ := (HBX.out.below M5).c3
      have hszB := N5.size
      clear OW2 HRW hcw hgw t0 t1 t2 hco3 hcx2 hgo3 hgx3 N5 HXE HEW
      have HX1 : Hid (Num.El (Num.tlL O W J i) (Num.mulL (Num.tlL O W J i) (0 :: iv) ((XO - XX) :: Num.zer (O.length - (i + 1))))) := Lib.hid (Num.El.mul (HV.out.ok i) HE1.out HE2.out)
      have HC6 : Hid (∀ W', Below wB.heap.size wB W' → Calls Try.prog 107 #[prV (some ⟨go, oo, none⟩) (some ⟨gw, owo, none⟩) A2 c0 c1 c2 O, .int .i64 (i : Int), .slice A2' O.length c2', .slice (some ⟨w2.heap.size, 0, none⟩) O.length O.length] W' (VecO O (Num.zer i ++ Num.mulL (Num.tlL O W J i) (0 :: iv) ((XO - XX) :: Num.zer (O.length - (i + 1)))) W')) := Lib.hid fun W' hb => by
        have := HAT.out W' (Num.zer (i + 1) ++ iv) ((List.replicate O.length 0).set i (XO - XX)) A2' (some ⟨w2.heap.size, 0, none⟩) c2' O.length (HPW.out _ (bstep L5 L5.size hb)).1 (OWB.out.reads.below' hb) (OT2.out.reads.below' hb) HD1.out.2 HD2.out.2 (by rw [HD1.out.1]; exact HE1.out) (by rw [HD2.out.1]; exact HE2.out)
        unfold Num.atV at this
        rwa [HD1.out.1, HD2.out.1] at this
      have HC8 : Hid (∀ (W' : World) (A B : Option Addr) (c d : Nat), Below wB.heap.size wB W' → RdI W' A (Num.zer i ++ Num.mulL (Num.tlL O W J i) (0 :: iv) ((XO - XX) :: Num.zer (O.length - (i + 1)))) → RdI W' B (Num.zer (i + 1) ++ iw) → Calls Try.prog 107 #[prV (some ⟨go, oo, none⟩) (some ⟨gw, owo, none⟩) A2 c0 c1 c2 O, .int .i64 (i : Int), .slice A O.length c, .slice B O.length d] W' (VecO O (Num.zer i ++ Num.mulL (Num.tlL O W J i) (Num.mulL (Num.tlL O W J i) (0 :: iv) ((XO - XX) :: Num.zer (O.length - (i + 1)))) (0 :: iw)) W')) := Lib.hid fun W' A B c d hb hA hB => by
        have := HAT.out W' _ (Num.zer (i + 1) ++ iw) A B c d (HPW.out _ (bstep L5 L5.size hb)).1 hA hB (Num.pad_len (HV.out.ok i) HX1.out (by omega)) HD3.out.2 (by rw [Num.pad_drop]; exact HX1.out) (by rw [HD3.out.1]; exact HE3.out)
        unfold Num.atV at this
        rwa [Num.pad_drop, HD3.out.1] at this
      have KX : ∀ {W'}, Below wB.heap.size wB W' → W'.cell? ⟨w.heap.size, 0, none⟩ = some (.slice (some ⟨go, oo, none⟩) O.length c0) ∧ W'.cell? ⟨w.heap.size, 1, none⟩ = some (.slice (some ⟨gw, owo, none⟩) O.length c1) ∧ W'.cell? ⟨w.heap.size, 2, none⟩ = some (.slice A2 O.length c2) ∧ W'.cell? ⟨gw, owo + i, none⟩ = some (.slice Bw O.length dw) := fun {W'} hb => by
        obtain ⟨-, a0, a1, a2⟩ := (HBX.out.below (bstep M5 M5.size hb)).c3
        exact ⟨a0, a1, a2, (hb.cell hgwB).trans hcwB⟩
      unfold VecO at HC6 HC8 HCW
      generalize Num.zer i ++ Num.mulL (Num.tlL O W J i) (Num.mulL (Num.tlL O W J i) (0 :: iv) ((XO - XX) :: Num.zer (O.length - (i + 1)))) (0 :: iw) = RES at *
      generalize Num.zer i ++ Num.mulL (Num.tlL O W J i) (0 :: iv) ((XO - XX) :: Num.zer (O.length - (i + 1))) = RA at *
      generalize Num.zer (i + 1) ++ iw = RB at *
      have HC6' := Lib.hid (HC6.out wB.drew (Below.refl _ _).drew)
      clear HC6 HX1 HD1 HD2 HD3 HE1 HE2 HE3
      go_wp2_with (fail)
      go_region_held3 (fun wx => wx.cell? ⟨w.heap.size, 0, none⟩ = some (.slice (some ⟨go, oo, none⟩) O.length c0) ∧ wx.cell? ⟨w.heap.size, 1, none⟩ = some (.slice (some ⟨gw, owo, none⟩) O.length c1) ∧ wx.cell? ⟨w.heap.size, 2, none⟩ = some (.slice A2 O.length c2) ∧ wx.cell? ⟨gw, owo + i, none⟩ = some (.slice Bw O.length dw)) (first | assumption | go_keep) (first
        | (go_at_call 107; (with_reducible refine (HC8'.out).mono ?_); rintro e w8 ⟨A8, d8, rfl, ow8, hb8⟩; have L8 : Below wB.heap.size wB w8 := bstep L7 L7.size hb8; have SM8 := KX L8)
        | (go_at_call 109; (with_reducible refine (HC7'.out).mono ?_); rintro e w7 ⟨A7, d7, rfl, ow7, hb7⟩; have L7 : Below wB.heap.size wB w7 := bstep L6 L6.size hb7; have SM7 := KX L7; have HC8' := Lib.hid (HC8.out w7 A6 A7 d6 d7 L7 (ow6.reads.below' hb7) ow7.reads))
        | (go_at_call 107; (with_reducible refine HC6'.out.mono ?_); rintro e w6 ⟨A6, d6, rfl, ow6, hb6⟩; have L6 : Below wB.heap.size wB w6 := (Below.refl _ _).drew.trans hb6; have SM6 := KX L6; have HC7' := Lib.hid (HCW.out w6 Bw dw (bstep L5 L5.size L6) (HRWB.out.below' L6))))
      all_goals
        go_wp2_with (fail)
        go_ret
        have L7' := bstep L5 L5.size L7
        exact ⟨_, _, rfl, by rw [HR2.out]; exact ow8.base_ L7'.size, bstep L7' L7'.size hb8⟩
theorem sFrom_any {A0 A1 A2 : Option Addr} {c0 c1 c2 : Nat} {O : List Int} {W : List (List Int)} {J : List (List (List Int))} (V : Num.Val O W J) : ∀ (d i : Nat), O.length - i = d → i ≤ O.length → InvOk A0 A1 A2 c0 c1 c2 O W J i
  | 0, i, h, hi => sFrom_end V i (by omega)
  | d + 1, i, h, hi => sFrom_of V i (by omega) (sFrom_any V d (i + 1) (by omega) (by omega))
end Go.Proofs.Yteappjgdcbploaa
namespace Go.Proofs.Yteappjgdcbploaa
open Go.RowKit
set_option linter.unusedVariables false
set_option linter.unusedSimpArgs false

set_option maxHeartbeats 1000000 in
theorem sMul_any {A0 A1 A2 : Option Addr} {c0 c1 c2 : Nat} {O : List Int} {W : List (List Int)} {J : List (List (List Int))} (V : Num.Val O W J) (w : World) (a b : List Int) (A B : Option Addr) (ca cb : Nat) (hP : RdP A0 A1 A2 O W J w) (hA : RdI w A a) (hB : RdI w B b) (ha : Num.El (Num.tlL O W J 0) a) (hb : Num.El (Num.tlL O W J 0) b) :
    Calls Try.prog 64 #[prV A0 A1 A2 c0 c1 c2 O, .slice A O.length ca, .slice B O.length cb] w (VecO O (Num.mulL (Num.tlL O W J 0) a b) w) := by
  have hal : a.length = O.length := by have := ha.len; rw [Num.tlL_len] at this; omega
  have hbl : b.length = O.length := by have := hb.len; rw [Num.tlL_len] at this; omega
  have b0 : Below w.heap.size w (w.alloc (.cells #[.slice A0 O.length c0, .slice A1 O.length c1, .slice A2 O.length c2] 29)) := by go_grown
  have BX := Blk.new w [.slice A0 O.length c0, .slice A1 O.length c1, .slice A2 O.length c2] 29
  generalize hW0 : w.alloc (.cells #[.slice A0 O.length c0, .slice A1 O.length c1, .slice A2 O.length c2] 29) = W0 at *
  obtain ⟨bl, y0, y1, y2⟩ := BX.c3
  have HC := Lib.hid (sAtO_any (c0 := c0) (c1 := c1) (c2 := c2) V 0 (Nat.zero_le _) W0 a b A B ca cb ⟨hP.1.below' b0, hP.2.1.below' b0, hP.2.2.below' b0⟩ (hA.below' b0) (hB.below' b0) hal hbl ha hb)
  unfold VecO Num.atV at HC
  rw [show ((0 : Nat) : Int) = 0 from rfl, List.drop_zero, List.drop_zero] at HC
  unfold VecO
  clear hP hA hB ha hb V BX
  go_enter Try.func64, Try.ntmps64
  go_wp2_with (fail)
  clear hW0
  refine HC.out.mono ?_; rintro e w1 ⟨A', c', rfl, ow, hb1⟩
  go_wp2_with (fail)
  go_ret
  exact ⟨_, _, rfl, ow.base_ b0.size, bstep b0 b0.size hb1⟩
set_option maxHeartbeats 1000000 in
theorem sInv_any {A0 A1 A2 : Option Addr} {c0 c1 c2 : Nat} {O : List Int} {W : List (List Int)} {J : List (List (List Int))} (V : Num.Val O W J) (w : World) (a : List Int) (A : Option Addr) (ca : Nat) (hP : RdP A0 A1 A2 O W J w) (hA : RdI w A a) (ha : Num.El (Num.tlL O W J 0) a) :
    Calls Try.prog 68 #[prV A0 A1 A2 c0 c1 c2 O, .slice A O.length ca] w (VecO O (Num.invL (Num.tlL O W J 0) a) w) := by
  have hal : a.length = O.length := by have := ha.len; rw [Num.tlL_len] at this; omega
  have b0 : Below w.heap.size w (w.alloc (.cells #[.slice A0 O.length c0, .slice A1 O.length c1, .slice A2 O.length c2] 29)) := by go_grown
  have BX := Blk.new w [.slice A0 O.length c0, .slice A1 O.length c1, .slice A2 O.length c2] 29
  generalize hW0 : w.alloc (.cells #[.slice A0 O.length c0, .slice A1 O.length c1, .slice A2 O.length c2] 29) = W0 at *
  obtain ⟨bl, y0, y1, y2⟩ := BX.c3
  have HC := Lib.hid (sFrom_any (c0 := c0) (c1 := c1) (c2 := c2) V _ 0 rfl (Nat.zero_le _) W0 a A ca ⟨hP.1.below' b0, hP.2.1.below' b0, hP.2.2.below' b0⟩ (hA.below' b0) hal ha)
  unfold VecO at HC
  rw [show ((0 : Nat) : Int) = 0 from rfl, List.drop_zero] at HC
  unfold VecO
  clear hP hA ha V BX
  go_enter Try.func68, Try.ntmps68
  go_wp2_with (fail)
  clear hW0
  refine HC.out.mono ?_; rintro e w1 ⟨A', c', rfl, ow, hb1⟩
  go_wp2_with (fail)
  go_ret
  exact ⟨_, _, rfl, ow.base_ b0.size, bstep b0 b0.size hb1⟩
set_option maxRecDepth 100000 in
set_option maxHeartbeats 2000000 in
theorem sConj_any {A0 A1 A2 : Option Addr} {c0 c1 c2 : Nat} {O : List Int} {W : List (List Int)} {J : List (List (List Int))} (V : Num.Val O W J) (w : World) (a b : List Int) (A B : Option Addr) (ca cb : Nat) (hP : RdP A0 A1 A2 O W J w) (hA : RdI w A a) (hB : RdI w B b) (ha : Num.El (Num.tlL O W J 0) a) (hb : Num.El (Num.tlL O W J 0) b) :
    Calls Try.prog 75 #[prV A0 A1 A2 c0 c1 c2 O, .slice A O.length ca, .slice B O.length cb] w (VecO O (Num.mulL (Num.tlL O W J 0) (Num.invL (Num.tlL O W J 0) b) (Num.mulL (Num.tlL O W J 0) a b)) w) := by
  have iy := Num.inv_El (V.ok 0) hb
  have mxy := Num.El.mul (V.ok 0) ha hb
  have myx := Num.El.mul (V.ok 0) hb ha
  have imyx := Num.inv_El (V.ok 0) myx
  have HPW : Hid (∀ w', Below w.heap.size w w' → RdP A0 A1 A2 O W J w' ∧ RdI w' A a ∧ RdI w' B b) := Lib.hid fun w' hb => ⟨⟨hP.1.below' hb, hP.2.1.below' hb, hP.2.2.below' hb⟩, hA.below' hb, hB.below' hb⟩
  have b0 : Below w.heap.size w (w.alloc (.cells #[.slice A0 O.length c0, .slice A1 O.length c1, .slice A2 O.length c2] 29)) := by go_grown
  have BX := Blk.new w [.slice A0 O.length c0, .slice A1 O.length c1, .slice A2 O.length c2] 29
  generalize hW0 : w.alloc (.cells #[.slice A0 O.length c0, .slice A1 O.length c1, .slice A2 O.length c2] 29) = W0 at *
  obtain ⟨bl, y0, y1, y2⟩ := BX.c3
  have HBX := Lib.hid BX
  have KX : ∀ {W'}, Below W0.heap.size W0 W' → W'.cell? ⟨w.heap.size, 0, none⟩ = some (.slice A0 O.length c0) ∧ W'.cell? ⟨w.heap.size, 1, none⟩ = some (.slice A1 O.length c1) ∧ W'.cell? ⟨w.heap.size, 2, none⟩ = some (.slice A2 O.length c2) := fun {W'} hb => (HBX.out.below hb).c3.2
  have HC1 := Lib.hid (sInv_any (c0 := c0) (c1 := c1) (c2 := c2) V W0.drew b B cb (HPW.out _ b0.drew).1 (HPW.out _ b0.drew).2.2 hb)
  have HC2 : Hid (∀ W', Below W0.heap.size W0 W' → _) := Lib.hid fun W' h => sMul_any (c0 := c0) (c1 := c1) (c2 := c2) V W' a b A B ca cb (HPW.out _ (bstep b0 b0.size h)).1 (HPW.out _ (bstep b0 b0.size h)).2.1 (HPW.out _ (bstep b0 b0.size h)).2.2 ha hb
  have HC3 : Hid (∀ (W' : World) (A' B' : Option Addr) (c' d' : Nat), Below W0.heap.size W0 W' → RdI W' A' (Num.invL (Num.tlL O W J 0) b) → RdI W' B' (Num.mulL (Num.tlL O W J 0) a b) → _) := Lib.hid fun W' A' B' c' d' h hA' hB' => sMul_any (c0 := c0) (c1 := c1) (c2 := c2) V W' _ _ A' B' c' d' (HPW.out _ (bstep b0 b0.size h)).1 hA' hB' iy mxy
  unfold VecO at HC1 HC2 HC3 ⊢
  generalize Num.mulL (Num.tlL O W J 0) (Num.invL (Num.tlL O W J 0) b) (Num.mulL (Num.tlL O W J 0) a b) = RES at *
  generalize Num.mulL (Num.tlL O W J 0) a b = RM at *
  generalize Num.invL (Num.tlL O W J 0) b = RI at *
  clear hP hA hB ha hb iy mxy myx imyx V BX
  go_enter Try.func75, Try.ntmps75
  go_wp2_with (fail)
  clear hW0
  go_region_held3 (fun wx => wx.cell? ⟨w.heap.size, 0, none⟩ = some (.slice A0 O.length c0) ∧ wx.cell? ⟨w.heap.size, 1, none⟩ = some (.slice A1 O.length c1) ∧ wx.cell? ⟨w.heap.size, 2, none⟩ = some (.slice A2 O.length c2)) (first | assumption | go_keep) (first
    | (go_at_call 64; (with_reducible refine HC3'.out.mono ?_); rintro e w7 ⟨A7, d7, rfl, ow7, hb7⟩; have L7 := bstep L6 L6.size hb7; have SM7 := KX L7)
    | (go_at_call 64; (with_reducible refine HC2'.out.mono ?_); rintro e w6 ⟨A6, d6, rfl, ow6, hb6⟩; have L6 := bstep L5 L5.size hb6; have SM6 := KX L6; have HC3' := Lib.hid (HC3.out w6 A5 A6 d5 d6 L6 (ow5.reads.below' hb6) ow6.reads))
    | (go_at_call 68; (with_reducible refine HC1.out.mono ?_); rintro e w5 ⟨A5, d5, rfl, ow5, hb5⟩; have L5 : Below W0.heap.size W0 w5 := (Below.refl _ _).drew.trans hb5; have SM5 := KX L5; have HC2' := Lib.hid (HC2.out w5 L5)))
  all_goals
    go_wp2_with (fail)
    go_ret
    have L6' := bstep b0 b0.size L6
    exact ⟨_, _, rfl, ow7.base_ L6'.size, bstep L6' L6'.size hb7⟩
set_option maxRecDepth 100000 in
set_option maxHeartbeats 2000000 in
theorem sComm_any {A0 A1 A2 : Option Addr} {c0 c1 c2 : Nat} {O : List Int} {W : List (List Int)} {J : List (List (List Int))} (V : Num.Val O W J) (w : World) (a b : List Int) (A B : Option Addr) (ca cb : Nat) (hP : RdP A0 A1 A2 O W J w) (hA : RdI w A a) (hB : RdI w B b) (ha : Num.El (Num.tlL O W J 0) a) (hb : Num.El (Num.tlL O W J 0) b) :
    Calls Try.prog 77 #[prV A0 A1 A2 c0 c1 c2 O, .slice A O.length ca, .slice B O.length cb] w (VecO O (Num.mulL (Num.tlL O W J 0) (Num.invL (Num.tlL O W J 0) (Num.mulL (Num.tlL O W J 0) b a)) (Num.mulL (Num.tlL O W J 0) a b)) w) := by
  have iy := Num.inv_El (V.ok 0) hb
  have mxy := Num.El.mul (V.ok 0) ha hb
  have myx := Num.El.mul (V.ok 0) hb ha
  have imyx := Num.inv_El (V.ok 0) myx
  have HPW : Hid (∀ w', Below w.heap.size w w' → RdP A0 A1 A2 O W J w' ∧ RdI w' A a ∧ RdI w' B b) := Lib.hid fun w' hb => ⟨⟨hP.1.below' hb, hP.2.1.below' hb, hP.2.2.below' hb⟩, hA.below' hb, hB.below' hb⟩
  have b0 : Below w.heap.size w (w.alloc (.cells #[.slice A0 O.length c0, .slice A1 O.length c1, .slice A2 O.length c2] 29)) := by go_grown
  have BX := Blk.new w [.slice A0 O.length c0, .slice A1 O.length c1, .slice A2 O.length c2] 29
  generalize hW0 : w.alloc (.cells #[.slice A0 O.length c0, .slice A1 O.length c1, .slice A2 O.length c2] 29) = W0 at *
  obtain ⟨bl, y0, y1, y2⟩ := BX.c3
  have HBX := Lib.hid BX
  have KX : ∀ {W'}, Below W0.heap.size W0 W' → W'.cell? ⟨w.heap.size, 0, none⟩ = some (.slice A0 O.length c0) ∧ W'.cell? ⟨w.heap.size, 1, none⟩ = some (.slice A1 O.length c1) ∧ W'.cell? ⟨w.heap.size, 2, none⟩ = some (.slice A2 O.length c2) := fun {W'} hb => (HBX.out.below hb).c3.2
  have HC0 := Lib.hid (sMul_any (c0 := c0) (c1 := c1) (c2 := c2) V W0.drew b a B A cb ca (HPW.out _ b0.drew).1 (HPW.out _ b0.drew).2.2 (HPW.out _ b0.drew).2.1 hb ha)
  have HC1 : Hid (∀ (W' : World) (A' : Option Addr) (c' : Nat), Below W0.heap.size W0 W' → RdI W' A' (Num.mulL (Num.tlL O W J 0) b a) → _) := Lib.hid fun W' A' c' h hA' => sInv_any (c0 := c0) (c1 := c1) (c2 := c2) V W' _ A' c' (HPW.out _ (bstep b0 b0.size h)).1 hA' myx
  have HC2 : Hid (∀ W', Below W0.heap.size W0 W' → _) := Lib.hid fun W' h => sMul_any (c0 := c0) (c1 := c1) (c2 := c2) V W' a b A B ca cb (HPW.out _ (bstep b0 b0.size h)).1 (HPW.out _ (bstep b0 b0.size h)).2.1 (HPW.out _ (bstep b0 b0.size h)).2.2 ha hb
  have HC3 : Hid (∀ (W' : World) (A' B' : Option Addr) (c' d' : Nat), Below W0.heap.size W0 W' → RdI W' A' (Num.invL (Num.tlL O W J 0) (Num.mulL (Num.tlL O W J 0) b a)) → RdI W' B' (Num.mulL (Num.tlL O W J 0) a b) → _) := Lib.hid fun W' A' B' c' d' h hA' hB' => sMul_any (c0 := c0) (c1 := c1) (c2 := c2) V W' _ _ A' B' c' d' (HPW.out _ (bstep b0 b0.size h)).1 hA' hB' imyx mxy
  unfold VecO at HC0 HC1 HC2 HC3 ⊢
  generalize Num.mulL (Num.tlL O W J 0) (Num.invL (Num.tlL O W J 0) (Num.mulL (Num.tlL O W J 0) b a)) (Num.mulL (Num.tlL O W J 0) a b) = RES at *
  generalize Num.invL (Num.tlL O W J 0) (Num.mulL (Num.tlL O W J 0) b a) = RI at *
  generalize Num.mulL (Num.tlL O W J 0) a b = RM at *
  generalize Num.mulL (Num.tlL O W J 0) b a = RN at *
  clear hP hA hB ha hb iy mxy myx imyx V BX
  go_enter Try.func77, Try.ntmps77
  go_wp2_with (fail)
  clear hW0
  go_region_held3 (fun wx => wx.cell? ⟨w.heap.size, 0, none⟩ = some (.slice A0 O.length c0) ∧ wx.cell? ⟨w.heap.size, 1, none⟩ = some (.slice A1 O.length c1) ∧ wx.cell? ⟨w.heap.size, 2, none⟩ = some (.slice A2 O.length c2)) (first | assumption | go_keep) (first
    | (go_at_call 64; (with_reducible refine HC3'.out.mono ?_); rintro e w8 ⟨A8, d8, rfl, ow8, hb8⟩; have L8 := bstep L7 L7.size hb8; have SM8 := KX L8)
    | (go_at_call 64; (with_reducible refine HC2'.out.mono ?_); rintro e w7 ⟨A7, d7, rfl, ow7, hb7⟩; have L7 := bstep L6 L6.size hb7; have SM7 := KX L7; have HC3' := Lib.hid (HC3.out w7 A6 A7 d6 d7 L7 (ow6.reads.below' hb7) ow7.reads))
    | (go_at_call 68; (with_reducible refine HC1'.out.mono ?_); rintro e w6 ⟨A6, d6, rfl, ow6, hb6⟩; have L6 := bstep L5 L5.size hb6; have SM6 := KX L6; have HC2' := Lib.hid (HC2.out w6 L6))
    | (go_at_call 64; (with_reducible refine HC0.out.mono ?_); rintro e w5 ⟨A5, d5, rfl, ow5, hb5⟩; have L5 : Below W0.heap.size W0 w5 := (Below.refl _ _).drew.trans hb5; have SM5 := KX L5; have HC1' := Lib.hid (HC1.out w5 A5 d5 L5 ow5.reads)))
  all_goals
    go_wp2_with (fail)
    go_ret
    have L7' := bstep b0 b0.size L7
    exact ⟨_, _, rfl, ow8.base_ L7'.size, bstep L7' L7'.size hb8⟩
set_option maxRecDepth 100000 in
set_option maxHeartbeats 2000000 in
theorem sPow_any {A0 A1 A2 : Option Addr} {c0 c1 c2 : Nat} {O : List Int} {W : List (List Int)} {J : List (List (List Int))} (V : Num.Val O W J) (C : Num.Con (Num.tlL O W J 0)) (w : World) (a : List Int) (A : Option Addr) (ca : Nat) (k : Int) (hP : RdP A0 A1 A2 O W J w) (hA : RdI w A a) (ha : Num.El (Num.tlL O W J 0) a) (hk0 : -1000000 ≤ k) (hk1 : k ≤ 1000000) :
    Calls Try.prog 72 #[prV A0 A1 A2 c0 c1 c2 O, .slice A O.length ca, .int .i64 k] w (VecO O (Num.powZ (Num.tlL O W J 0) a k) w) := by
  have hal : a.length = O.length := by have := ha.len; rw [Num.tlL_len] at this; omega
  have ia := Num.inv_El (V.ok 0) ha
  have hil : (Num.invL (Num.tlL O W J 0) a).length = O.length := by have := ia.len; rw [Num.tlL_len] at this; omega
  have HPW : Hid (∀ w', Below w.heap.size w w' → RdP A0 A1 A2 O W J w' ∧ RdI w' A a) := Lib.hid fun w' hb => ⟨⟨hP.1.below' hb, hP.2.1.below' hb, hP.2.2.below' hb⟩, hA.below' hb⟩
  have b0 : Below w.heap.size w (w.alloc (.cells #[.slice A0 O.length c0, .slice A1 O.length c1, .slice A2 O.length c2] 29)) := by go_grown
  have BX := Blk.new w [.slice A0 O.length c0, .slice A1 O.length c1, .slice A2 O.length c2] 29
  generalize hW0 : w.alloc (.cells #[.slice A0 O.length c0, .slice A1 O.length c1, .slice A2 O.length c2] 29) = W0 at *
  obtain ⟨bl, y0, y1, y2⟩ := BX.c3
  have HBX := Lib.hid BX
  have KX : ∀ {W'}, Below W0.heap.size W0 W' → W'.cell? ⟨w.heap.size, 0, none⟩ = some (.slice A0 O.length c0) ∧ W'.cell? ⟨w.heap.size, 1, none⟩ = some (.slice A1 O.length c1) ∧ W'.cell? ⟨w.heap.size, 2, none⟩ = some (.slice A2 O.length c2) := fun {W'} hb => (HBX.out.below hb).c3.2
  have HREP : ∀ (x : List Int) (n : Nat), repV O W J 0 x n = Num.pw (Num.mulL (Num.tlL O W J 0)) (Num.zer (Num.tlL O W J 0).length) x n := fun x n => by unfold repV; rw [List.drop_zero, Num.tlL_len]; rfl
  by_cases hk : k < 0
  · have HR : Hid (Num.powZ (Num.tlL O W J 0) a k = repV O W J 0 (Num.invL (Num.tlL O W J 0) a) (-k).toNat) := Lib.hid (by rw [HREP]; unfold Num.powZ; rw [if_pos hk])
    have HC1 := Lib.hid (sInv_any (c0 := c0) (c1 := c1) (c2 := c2) V W0.drew a A ca (HPW.out _ b0.drew).1 (HPW.out _ b0.drew).2 ha)
    have HC2 : Hid (∀ (W' : World) (A' : Option Addr) (c' : Nat), Below W0.heap.size W0 W' → RdI W' A' (Num.invL (Num.tlL O W J 0) a) → Calls Try.prog 112 #[prV A0 A1 A2 c0 c1 c2 O, .int .i64 0, .slice A' O.length c', .int .i64 (-k)] W' (VecO O (repV O W J 0 (Num.invL (Num.tlL O W J 0) a) (-k).toNat) W')) := Lib.hid fun W' A' c' h hA' => sRepO_any V 0 (Nat.zero_le _) C W' _ A' c' (-k) (HPW.out _ (bstep b0 b0.size h)).1 hA' hil ia (by omega) (by omega)
    have hwk : IntKind.i64.wrap (-k) = -k := IntWalk.i64_in _ (by omega)
    rw [HR.out]
    unfold VecO at HC1 HC2 ⊢
    generalize repV O W J 0 (Num.invL (Num.tlL O W J 0) a) (-k).toNat = RES at *
    generalize Num.invL (Num.tlL O W J 0) a = RI at *
    clear hP hA ha ia hal hil V BX HR HREP
    go_enter Try.func72, Try.ntmps72
    go_wp2_with (fail)
    clear hW0
    go_region_held3 (fun wx => wx.cell? ⟨w.heap.size, 0, none⟩ = some (.slice A0 O.length c0) ∧ wx.cell? ⟨w.heap.size, 1, none⟩ = some (.slice A1 O.length c1) ∧ wx.cell? ⟨w.heap.size, 2, none⟩ = some (.slice A2 O.length c2)) (first | assumption | go_keep) (first
      | (go_at_call 112; (with_reducible refine HC2'.out.mono ?_); rintro e w6 ⟨A6, d6, rfl, ow6, hb6⟩; have L6 := bstep L5 L5.size hb6; have SM6 := KX L6)
      | (go_at_call 68; (with_reducible refine HC1.out.mono ?_); rintro e w5 ⟨A5, d5, rfl, ow5, hb5⟩; have L5 : Below W0.heap.size W0 w5 := (Below.refl _ _).drew.trans hb5; have SM5 := KX L5; have HC2' := Lib.hid (HC2.out w5 A5 d5 L5 ow5.reads)))
    all_goals
      go_wp2_with (fail)
      go_ret
      have L5' := bstep b0 b0.size L5
      exact ⟨_, _, rfl, ow6.base_ L5'.size, bstep L5' L5'.size hb6⟩
  · have HR : Hid (Num.powZ (Num.tlL O W J 0) a k = repV O W J 0 a k.toNat) := Lib.hid (by rw [HREP]; unfold Num.powZ; rw [if_neg hk])
    have HC2 := Lib.hid (sRepO_any (c0 := c0) (c1 := c1) (c2 := c2) V 0 (Nat.zero_le _) C W0 a A ca k (HPW.out _ b0).1 (HPW.out _ b0).2 hal ha (by omega) (by omega))
    rw [show ((0 : Nat) : Int) = 0 from rfl] at HC2
    rw [HR.out]
    unfold VecO at HC2 ⊢
    generalize repV O W J 0 a k.toNat = RES at *
    clear hP hA ha ia hal hil V BX HR HREP
    go_enter Try.func72, Try.ntmps72
    go_wp2_with (fail)
    clear hW0
    refine HC2.out.mono ?_; rintro e w6 ⟨A6, d6, rfl, ow6, hb6⟩
    go_wp2_with (fail)
    go_ret
    exact ⟨_, _, rfl, ow6.base_ b0.size, bstep b0 b0.size hb6⟩
set_option maxHeartbeats 1000000 in
theorem sOne_any {A0 A1 A2 : Option Addr} {c0 c1 c2 : Nat} {O : List Int} {W : List (List Int)} {J : List (List (List Int))} (n6 : O.length ≤ 1000) (w : World) :
    Calls Try.prog 117 #[prV A0 A1 A2 c0 c1 c2 O] w (VecO O (Num.zer O.length) w) := by
  obtain ⟨iT, hiT, hz0, hz1, hz2⟩ := info_parts infoI
  have b0 : Below w.heap.size w (w.alloc (.cells #[.slice A0 O.length c0, .slice A1 O.length c1, .slice A2 O.length c2] 29)) := by go_grown
  have BX := Blk.new w [.slice A0 O.length c0, .slice A1 O.length c1, .slice A2 O.length c2] 29
  generalize hW0 : w.alloc (.cells #[.slice A0 O.length c0, .slice A1 O.length c1, .slice A2 O.length c2] 29) = W0 at *
  obtain ⟨bl, y0, y1, y2⟩ := BX.c3
  have z0 := b0.size
  unfold VecO
  go_enter Try.func117, Try.ntmps117
  go_wp2_with (first | (at_make; refine wpList_make_full _ rfl (.tmp 5) (.tmp 5) 22 rfl w.heap.size 2 iT (.int .i64 0) 1 Try.underlying22 hiT hz0 hz1 .i64 .i64 (O.length : Int) (O.length : Int) O.length rfl rfl rfl rfl (by rw [hz2]; omega) (by unfold maxLen; omega) z0 ?_; intro w1 own1 gr1; have o1 := madeZ own1))
  have B1 : Below w.heap.size w w1 := b0.grown gr1 z0 (fun k hk => by simp at hk)
  go_ret
  exact ⟨_, _, rfl, o1, B1⟩
theorem szM_small {O : List Int} {W : List (List Int)} {J : List (List (List Int))} (V : Num.Val O W J) : ∀ (d i : Nat), O.length - i = d → Num.szL (Num.tlL O W J i) ≤ 7 ^ d
  | 0, i, h => by rw [Num.tlL_end (by omega)]; decide
  | d + 1, i, h => by
    rw [Num.tlL_step (by omega)]
    have ih := szM_small V d (i + 1) (by omega)
    have hp := Num.szL_pos (V.ok (i + 1))
    have ho := V.ob i (by omega)
    show O.getD i 0 * Num.szL (Num.tlL O W J (i + 1)) ≤ _
    rw [Int.pow_succ, Int.mul_comm]
    exact Int.mul_le_mul ih ho.2 (by omega) (by omega)
theorem szM_bd {O : List Int} {W : List (List Int)} {J : List (List (List Int))} (V : Num.Val O W J) (i : Nat) : 1 ≤ Num.szL (Num.tlL O W J i) ∧ Num.szL (Num.tlL O W J i) ≤ 117649 := by
  refine ⟨Num.szL_pos (V.ok i), ?_⟩
  have h := szM_small V _ i rfl
  have n6 := V.n6
  have h2 : (7 : Int) ^ (O.length - i) ≤ 117649 := by
    have hd : O.length - i ≤ 6 := by omega
    clear h
    generalize O.length - i = d at *
    match d, hd with
    | 0, _ => decide
    | 1, _ => decide
    | 2, _ => decide
    | 3, _ => decide
    | 4, _ => decide
    | 5, _ => decide
    | 6, _ => decide
  omega
theorem szL_up {O : List Int} {W : List (List Int)} {J : List (List (List Int))} {i : Nat} (h : i < O.length) : Num.szL (Num.tlL O W J i) = O.getD i 0 * Num.szL (Num.tlL O W J (i + 1)) := by rw [Num.tlL_step h]; rfl
set_option maxHeartbeats 1000000 in
theorem sOrder_any {A0 A1 A2 : Option Addr} {c0 c1 c2 : Nat} {O : List Int} {W : List (List Int)} {J : List (List (List Int))} (V : Num.Val O W J) (w : World) (hO : RdI w A0 O) :
    Calls Try.prog 82 #[prV A0 A1 A2 c0 c1 c2 O] w fun e w' => e = .returned (.int .i64 (Num.szL (Num.tlL O W J 0))) ∧ Below w.heap.size w w' := by
  have n6 := V.n6
  have HV := Lib.hid V
  have HB := Lib.hid (szM_bd V)
  have b0 : Below w.heap.size w (w.alloc (.cells #[.slice A0 O.length c0, .slice A1 O.length c1, .slice A2 O.length c2] 29)) := by go_grown
  have BX := Blk.new w [.slice A0 O.length c0, .slice A1 O.length c1, .slice A2 O.length c2] 29
  generalize hW0 : w.alloc (.cells #[.slice A0 O.length c0, .slice A1 O.length c1, .slice A2 O.length c2] 29) = W0 at *
  obtain ⟨bl, y0, y1, y2⟩ := BX.c3
  have HO := Lib.hid (hO.below' b0)
  clear hO V BX
  go_enter Try.func82, Try.ntmps82
  go_wp2_with (fail)
  clear hW0
  go_loop [3, 4] (fun s3 s4 => ∃ (i : Nat) (x : Int), s4 = .int .i64 (i : Int) ∧ s3 = .int .i64 x ∧ i ≤ O.length ∧ 1 ≤ x ∧ Hid (x * Num.szL (Num.tlL O W J i) = Num.szL (Num.tlL O W J 0))) (fun _ s4 => O.length - (intOf s4).toNat)
  case atStart => exact ⟨0, 1, rfl, rfl, by omega, by omega, Lib.hid (by rw [Int.one_mul])⟩
  case round =>
    obtain ⟨i, x, rfl, rfl, hi, hx1, hx⟩ := hrel
    by_cases hlt : i < O.length
    · obtain ⟨g, o, rfl, hg, hc⟩ := HO.out i hlt
      have i0 : (0 : Int) ≤ (i : Int) := by omega
      have i1 : (i : Int) < (O.length : Int) := by omega
      have ho := HV.out.ob i hlt
      have hup := szL_up (W := W) (J := J) hlt
      have hb1 := HB.out (i + 1)
      have hb0 := HB.out 0
      have hx' := hx.out
      rw [hup, ← Int.mul_assoc] at hx'
      have hp : 1 ≤ x * O.getD i 0 := by
        have := Int.mul_le_mul hx1 (show (1 : Int) ≤ O.getD i 0 by omega) (by omega) (by omega)
        omega
      have hp2 : x * O.getD i 0 ≤ 117649 := by
        have : x * O.getD i 0 * 1 ≤ x * O.getD i 0 * Num.szL (Num.tlL O W J (i + 1)) := Int.mul_le_mul_of_nonneg_left hb1.1 (by omega)
        omega
      have HX2 := Lib.hid hx'
      generalize O.getD i 0 = y at *
      have hw : IntKind.i64.wrap (x * y) = x * y := IntWalk.i64_in _ (by omega)
      have hw2 : IntKind.i64.wrap ((i : Int) + 1) = ((i + 1 : Nat) : Int) := by rw [IntWalk.i64_in _ (by omega)]; omega
      clear hx hx' hup
      go_wp2_with (fail)
      exact ⟨⟨i + 1, x * y, rfl, rfl, by omega, hp, HX2⟩, by simp [intOf]; omega⟩
    · have hge : ¬ ((i : Int) < (O.length : Int)) := by omega
      obtain rfl : i = O.length := by omega
      have HX2 : Hid (x = Num.szL (Num.tlL O W J 0)) := Lib.hid (by
        have := hx.out
        rw [Num.tlL_end (Nat.le_refl _)] at this
        rw [← this]
        exact (Int.mul_one x).symm)
      clear hx
      go_wp2_with (fail)
      go_ret
      exact ⟨ret_i HX2.out, b0⟩
set_option maxHeartbeats 1000000 in
theorem sEl_any (v : Value) (p : Pres) (A : Option Addr) (c : Nat) (x : List Int) (w : World) (h : spPres.rd w v p) (hx : RdI w A x) (hl : x.length ≤ maxLen) (hg : ∀ j, j < p.O.length → 1 ≤ p.O.getD j 0 ∧ p.O.getD j 0 ≤ 7) :
    Calls Try.prog 60 #[v, .slice A x.length c] w (RetB (p.el x) w) := by
  obtain ⟨A0, c0, A1, c1, A2, c2, rfl, ⟨hO, -, -⟩, m0, -, -⟩ := pres_open h
  have b0 : Below w.heap.size w (w.alloc (.cells #[.slice A0 p.O.length c0, .slice A1 p.W.length c1, .slice A2 p.J.length c2] 29)) := by go_grown
  have BX := Blk.new w [.slice A0 p.O.length c0, .slice A1 p.W.length c1, .slice A2 p.J.length c2] 29
  generalize hW0 : w.alloc (.cells #[.slice A0 p.O.length c0, .slice A1 p.W.length c1, .slice A2 p.J.length c2] 29) = W0 at *
  obtain ⟨bl, y0, y1, y2⟩ := BX.c3
  have HC := Lib.hid (sExp_any A0 A c0 c p.O x 0 (-1) W0 (hO.below' b0) (hx.below' b0) m0 hl hg (by omega))
  have HR : Hid (Num.fitB p.O x 0 = p.el x) := Lib.hid rfl
  clear h hO hx BX hg
  go_enter Try.func60, Try.ntmps60
  go_wp2_with (fail)
  clear hW0
  refine HC.out.mono ?_; rintro e w2 ⟨rfl, m, rfl⟩
  go_wp2_with (fail)
  go_ret
  exact ⟨ret_b HR.out, below_drewN b0 m⟩
end Go.Proofs.Yteappjgdcbploaa
namespace Go.Proofs.Yteappjgdcbploaa
open Go.RowKit
set_option linter.unusedVariables false
set_option linter.unusedSimpArgs false

theorem Pres.con_gps {p : Pres} (h : p.con = true) : ∀ j, j < p.O.length → 1 ≤ p.O.getD j 0 ∧ p.O.getD j 0 ≤ 7 := fun j hj => by
  have := (Pres.con_Con h).1.ob j hj
  omega
theorem Pres.vec_len {p : Pres} {z : List Int} (V : Num.Val p.O p.W p.J) (h : Num.El p.L z) : z.length ≤ 1000000000 := by
  have h1 := h.len
  have h2 := Pres.L_len p
  have h3 := V.n6
  omega
set_option maxRecDepth 100000 in
set_option maxHeartbeats 2000000 in
theorem sIsElement_ok (v0 : Value) (p : Pres) (v1 : Value) (x : List Int) (w : World) (h0 : spPres.rd w v0 p) (h1 : spI.rd w v1 x) (s0 : spPres.sz p ≤ 1048576) (s1 : spI.sz x ≤ 1048576) : Calls Try.prog 17 #[v0, v1] w (RetB (rIsElement p x) w) := by
  have h0' := h0
  obtain ⟨A0, c0, A1, c1, A2, c2, rfl, ⟨hO, hW, hJ⟩, m0, -, -⟩ := pres_open h0
  obtain ⟨B, d, rfl, hl, hB⟩ := h1
  have b0 : Below w.heap.size w (w.alloc (.cells #[.slice A0 p.O.length c0, .slice A1 p.W.length c1, .slice A2 p.J.length c2] 29)) := by go_grown
  have BX := Blk.new w [.slice A0 p.O.length c0, .slice A1 p.W.length c1, .slice A2 p.J.length c2] 29
  generalize hW0 : w.alloc (.cells #[.slice A0 p.O.length c0, .slice A1 p.W.length c1, .slice A2 p.J.length c2] 29) = W0 at *
  have HBX := Lib.hid BX
  obtain ⟨bl, y0, y1, y2⟩ := BX.c3
  have HI := Lib.hid (sGroup_any _ p W0 (spPres.rd_below h0' b0))
  have HP : Hid (∀ W', Below w.heap.size w W' → RdI W' A0 p.O ∧ RdW W' A1 p.W ∧ RdX W' A2 p.J) := Lib.hid fun W' hb => ⟨hO.below' hb, hW.below' hb, hJ.below' hb⟩
  have HX : Hid (∀ W', Below w.heap.size w W' → RdI W' B x) := Lib.hid fun W' hb => hB.below' hb
  cases hk : p.con with
  | true =>
    rw [hk] at HI
    have HE : Hid (∀ W', Below w.heap.size w W' → Calls Try.prog 60 #[.agg #[.slice A0 p.O.length c0, .slice A1 p.W.length c1, .slice A2 p.J.length c2], .slice B x.length d] W' (RetB (p.el x) W')) := Lib.hid fun W' hb => sEl_any _ p B d x W' (spPres.rd_below h0' hb) (HX.out W' hb) hl (Pres.con_gps hk)
    have HR : Hid (rIsElement p x = p.el x) := Lib.hid (by unfold rIsElement; rw [hk]; rfl)
    clear h0 h0' hO hW hJ hB BX m0 HP hl
    generalize p.el x = q at *
    go_enter Try.func17, Try.ntmps17
    go_wp2_with (fail)
    clear hW0
    refine HI.out.mono ?_; rintro e w1 ⟨rfl, hb1⟩
    have L1 := bstep b0 b0.size hb1
    obtain ⟨bl1, z0, z1, z2⟩ := (HBX.out.below hb1).c3
    have HE1 := Lib.hid (HE.out w1 L1)
    clear HI HE HX y0 y1 y2
    go_wp2_with (fail)
    refine HE1.out.mono ?_; rintro e w2 ⟨rfl, hb2⟩
    go_wp2_with (fail)
    go_ret
    exact ⟨ret_b HR.out.symm, bstep L1 L1.size hb2⟩
  | false =>
    rw [hk] at HI
    have HR : Hid (rIsElement p x = false) := Lib.hid (by unfold rIsElement; rw [hk]; rfl)
    clear h0 h0' hO hW hJ hB BX m0 HP hl HX
    go_enter Try.func17, Try.ntmps17
    go_wp2_with (fail)
    clear hW0
    refine HI.out.mono ?_; rintro e w1 ⟨rfl, hb1⟩
    have L1 := bstep b0 b0.size hb1
    obtain ⟨bl1, z0, z1, z2⟩ := (HBX.out.below hb1).c3
    go_wp2_with (fail)
    go_ret
    exact ⟨ret_b HR.out.symm, L1⟩
set_option maxRecDepth 100000 in
set_option maxHeartbeats 2000000 in
theorem sMultiply_ok (v0 : Value) (p : Pres) (v1 : Value) (x : List Int) (v2 : Value) (y : List Int) (w : World) (h0 : spPres.rd w v0 p) (h1 : spI.rd w v1 x) (h2 : spI.rd w v2 y) (s0 : spPres.sz p ≤ 1048576) (s1 : spI.sz x ≤ 1048576) (s2 : spI.sz y ≤ 1048576) : Calls Try.prog 23 #[v0, v1, v2] w (MadeC spI (rMultiply p x y) (cMultiply p x y) w) := by
  have h0' := h0
  obtain ⟨A0, c0, A1, c1, A2, c2, rfl, ⟨hO, hW, hJ⟩, m0, -, -⟩ := pres_open h0
  obtain ⟨B, d, rfl, hl, hB⟩ := h1
  obtain ⟨B2, d2, rfl, hl2, hB2⟩ := h2
  have b0 : Below w.heap.size w (w.alloc (.cells #[.slice A0 p.O.length c0, .slice A1 p.W.length c1, .slice A2 p.J.length c2] 29)) := by go_grown
  have BX := Blk.new w [.slice A0 p.O.length c0, .slice A1 p.W.length c1, .slice A2 p.J.length c2] 29
  generalize hW0 : w.alloc (.cells #[.slice A0 p.O.length c0, .slice A1 p.W.length c1, .slice A2 p.J.length c2] 29) = W0 at *
  have HBX := Lib.hid BX
  obtain ⟨bl, y0, y1, y2⟩ := BX.c3
  have HI := Lib.hid (sGroup_any _ p W0 (spPres.rd_below h0' b0))
  have HP : Hid (∀ W', Below w.heap.size w W' → RdI W' A0 p.O ∧ RdW W' A1 p.W ∧ RdX W' A2 p.J) := Lib.hid fun W' hb => ⟨hO.below' hb, hW.below' hb, hJ.below' hb⟩
  have HX : Hid (∀ W', Below w.heap.size w W' → RdI W' B x) := Lib.hid fun W' hb => hB.below' hb
  have HY : Hid (∀ W', Below w.heap.size w W' → RdI W' B2 y) := Lib.hid fun W' hb => hB2.below' hb
  cases hk : p.con with
  | true =>
    rw [hk] at HI
    obtain ⟨V, C⟩ := Pres.con_Con hk
    have HE : Hid (∀ W', Below w.heap.size w W' → Calls Try.prog 60 #[.agg #[.slice A0 p.O.length c0, .slice A1 p.W.length c1, .slice A2 p.J.length c2], .slice B x.length d] W' (RetB (p.el x) W')) := Lib.hid fun W' hb => sEl_any _ p B d x W' (spPres.rd_below h0' hb) (HX.out W' hb) hl (Pres.con_gps hk)
    have HF : Hid (∀ W', Below w.heap.size w W' → Calls Try.prog 60 #[.agg #[.slice A0 p.O.length c0, .slice A1 p.W.length c1, .slice A2 p.J.length c2], .slice B2 y.length d2] W' (RetB (p.el y) W')) := Lib.hid fun W' hb => sEl_any _ p B2 d2 y W' (spPres.rd_below h0' hb) (HY.out W' hb) hl2 (Pres.con_gps hk)
    have HT : Hid (p.two x y = (p.el x && p.el y)) := Lib.hid (by unfold Pres.two; rw [hk]; rfl)
    cases hx : p.el x with
    | true =>
      rw [hx] at HE HT
      have ex := (Pres.el_out hx).2
      have lx := (Pres.el_out hx).1
      cases hy : p.el y with
      | true =>
        rw [hy] at HF HT
        have ey := (Pres.el_out hy).2
        have ly := (Pres.el_out hy).1
        have HR : Hid (rMultiply p x y = Num.mulL p.L x y ∧ cMultiply p x y = 0) := Lib.hid ⟨if_pos HT.out, if_pos HT.out⟩
        have HM : Hid (∀ W', Below w.heap.size w W' → Calls Try.prog 64 #[.agg #[.slice A0 p.O.length c0, .slice A1 p.W.length c1, .slice A2 p.J.length c2], .slice B p.O.length d, .slice B2 p.O.length d2] W' (VecO p.O (Num.mulL p.L x y) W')) := Lib.hid fun W' hb => by
          rw [V.lw, V.lj]
          exact sMul_any V W' x y B B2 d d2 (HP.out W' hb) (HX.out W' hb) (HY.out W' hb) ex ey
        have HLN : Hid ((Num.mulL p.L x y).length ≤ 1000000000) := Lib.hid (Pres.vec_len V (by
          have ix := Num.inv_El (V.ok 0) ex
          have iy := Num.inv_El (V.ok 0) ey
          have iz := Num.inv_El (V.ok 0) (Num.El.mul (V.ok 0) ey ex)
          have mz := Num.El.mul (V.ok 0) ex ey
          first | exact mz | exact Num.El.mul (V.ok 0) iy mz | exact Num.El.mul (V.ok 0) iz mz))
        unfold VecO at HM
        rw [lx] at HE
        rw [ly] at HF
        rw [lx, ly]
        generalize Num.mulL p.L x y = z at *
        clear h0 h0' hO hW hJ hB hB2 BX m0 HP hl hl2 ex ey V C HX HY lx ly
        go_enter Try.func23, Try.ntmps23
        go_wp2_with (fail)
        clear hW0
        refine HI.out.mono ?_; rintro e w1 ⟨rfl, hb1⟩
        have L1 := bstep b0 b0.size hb1
        obtain ⟨bl1, z0, z1, z2⟩ := (HBX.out.below hb1).c3
        have HE1 := Lib.hid (HE.out w1 L1)
        clear HI HE y0 y1 y2
        go_wp2_with (fail)
        refine HE1.out.mono ?_; rintro e w2 ⟨rfl, hb2⟩
        have L2 := bstep L1 L1.size hb2
        obtain ⟨bl2, u0, u1, u2⟩ := ((HBX.out.below hb1).below hb2).c3
        have HF1 := Lib.hid (HF.out w2 L2)
        clear HE1 HF z0 z1 z2
        go_wp2_with (fail)
        refine HF1.out.mono ?_; rintro e w3 ⟨rfl, hb3⟩
        have L3 := bstep L2 L2.size hb3
        obtain ⟨bl3, q0, q1, q2⟩ := (((HBX.out.below hb1).below hb2).below hb3).c3
        have HM1 := Lib.hid (HM.out w3 L3)
        clear HF1 HM u0 u1 u2
        go_wp2_with (fail)
        refine HM1.out.mono ?_; rintro e w4 ⟨A', c', rfl, ow, hb4⟩
        go_wp2_with (fail)
        go_ret2
        rw [HR.out.1, HR.out.2]
        exact MadeC.list (ow.base_ L3.size) HLN.out (bstep L3 L3.size hb4)
      | false =>
        rw [hy] at HF HT
        have HR : Hid (rMultiply p x y = [] ∧ cMultiply p x y = 1) := Lib.hid ⟨if_neg (by rw [HT.out]; simp), if_neg (by rw [HT.out]; simp)⟩
        clear h0 h0' hO hW hJ hB hB2 BX m0 HP hl hl2 ex V C HX HY lx
        go_enter Try.func23, Try.ntmps23
        go_wp2_with (fail)
        clear hW0
        refine HI.out.mono ?_; rintro e w1 ⟨rfl, hb1⟩
        have L1 := bstep b0 b0.size hb1
        obtain ⟨bl1, z0, z1, z2⟩ := (HBX.out.below hb1).c3
        have HE1 := Lib.hid (HE.out w1 L1)
        clear HI HE y0 y1 y2
        go_wp2_with (fail)
        refine HE1.out.mono ?_; rintro e w2 ⟨rfl, hb2⟩
        have L2 := bstep L1 L1.size hb2
        obtain ⟨bl2, u0, u1, u2⟩ := ((HBX.out.below hb1).below hb2).c3
        have HF1 := Lib.hid (HF.out w2 L2)
        clear HE1 HF z0 z1 z2
        go_wp2_with (fail)
        refine HF1.out.mono ?_; rintro e w3 ⟨rfl, hb3⟩
        go_wp2_with (fail)
        go_ret2
        rw [HR.out.1, HR.out.2]
        exact MadeC.nilW (bstep L2 L2.size hb3)
    | false =>
      rw [hx] at HE HT
      have HR : Hid (rMultiply p x y = [] ∧ cMultiply p x y = 1) := Lib.hid ⟨if_neg (by rw [HT.out]; simp), if_neg (by rw [HT.out]; simp)⟩
      clear h0 h0' hO hW hJ hB hB2 BX m0 HP hl hl2 V C HX HY HF
      go_enter Try.func23, Try.ntmps23
      go_wp2_with (fail)
      clear hW0
      refine HI.out.mono ?_; rintro e w1 ⟨rfl, hb1⟩
      have L1 := bstep b0 b0.size hb1
      obtain ⟨bl1, z0, z1, z2⟩ := (HBX.out.below hb1).c3
      have HE1 := Lib.hid (HE.out w1 L1)
      clear HI HE y0 y1 y2
      go_wp2_with (fail)
      refine HE1.out.mono ?_; rintro e w2 ⟨rfl, hb2⟩
      go_wp2_with (fail)
      go_ret2
      rw [HR.out.1, HR.out.2]
      exact MadeC.nilW (bstep L1 L1.size hb2)
  | false =>
    rw [hk] at HI
    have HT : Hid (p.two x y = false) := Lib.hid (by unfold Pres.two; rw [hk]; rfl)
    have HR : Hid (rMultiply p x y = [] ∧ cMultiply p x y = 1) := Lib.hid ⟨if_neg (by rw [HT.out]; simp), if_neg (by rw [HT.out]; simp)⟩
    clear h0 h0' hO hW hJ hB hB2 BX m0 HP hl hl2 HX HY
    go_enter Try.func23, Try.ntmps23
    go_wp2_with (fail)
    clear hW0
    refine HI.out.mono ?_; rintro e w1 ⟨rfl, hb1⟩
    have L1 := bstep b0 b0.size hb1
    obtain ⟨bl1, z0, z1, z2⟩ := (HBX.out.below hb1).c3
    go_wp2_with (fail)
    go_ret2
    rw [HR.out.1, HR.out.2]
    exact MadeC.nilW L1
set_option maxRecDepth 100000 in
set_option maxHeartbeats 2000000 in
theorem sConjugate_ok (v0 : Value) (p : Pres) (v1 : Value) (x : List Int) (v2 : Value) (y : List Int) (w : World) (h0 : spPres.rd w v0 p) (h1 : spI.rd w v1 x) (h2 : spI.rd w v2 y) (s0 : spPres.sz p ≤ 1048576) (s1 : spI.sz x ≤ 1048576) (s2 : spI.sz y ≤ 1048576) : Calls Try.prog 32 #[v0, v1, v2] w (MadeC spI (rConjugate p x y) (cConjugate p x y) w) := by
  have h0' := h0
  obtain ⟨A0, c0, A1, c1, A2, c2, rfl, ⟨hO, hW, hJ⟩, m0, -, -⟩ := pres_open h0
  obtain ⟨B, d, rfl, hl, hB⟩ := h1
  obtain ⟨B2, d2, rfl, hl2, hB2⟩ := h2
  have b0 : Below w.heap.size w (w.alloc (.cells #[.slice A0 p.O.length c0, .slice A1 p.W.length c1, .slice A2 p.J.length c2] 29)) := by go_grown
  have BX := Blk.new w [.slice A0 p.O.length c0, .slice A1 p.W.length c1, .slice A2 p.J.length c2] 29
  generalize hW0 : w.alloc (.cells #[.slice A0 p.O.length c0, .slice A1 p.W.length c1, .slice A2 p.J.length c2] 29) = W0 at *
  have HBX := Lib.hid BX
  obtain ⟨bl, y0, y1, y2⟩ := BX.c3
  have HI := Lib.hid (sGroup_any _ p W0 (spPres.rd_below h0' b0))
  have HP : Hid (∀ W', Below w.heap.size w W' → RdI W' A0 p.O ∧ RdW W' A1 p.W ∧ RdX W' A2 p.J) := Lib.hid fun W' hb => ⟨hO.below' hb, hW.below' hb, hJ.below' hb⟩
  have HX : Hid (∀ W', Below w.heap.size w W' → RdI W' B x) := Lib.hid fun W' hb => hB.below' hb
  have HY : Hid (∀ W', Below w.heap.size w W' → RdI W' B2 y) := Lib.hid fun W' hb => hB2.below' hb
  cases hk : p.con with
  | true =>
    rw [hk] at HI
    obtain ⟨V, C⟩ := Pres.con_Con hk
    have HE : Hid (∀ W', Below w.heap.size w W' → Calls Try.prog 60 #[.agg #[.slice A0 p.O.length c0, .slice A1 p.W.length c1, .slice A2 p.J.length c2], .slice B x.length d] W' (RetB (p.el x) W')) := Lib.hid fun W' hb => sEl_any _ p B d x W' (spPres.rd_below h0' hb) (HX.out W' hb) hl (Pres.con_gps hk)
    have HF : Hid (∀ W', Below w.heap.size w W' → Calls Try.prog 60 #[.agg #[.slice A0 p.O.length c0, .slice A1 p.W.length c1, .slice A2 p.J.length c2], .slice B2 y.length d2] W' (RetB (p.el y) W')) := Lib.hid fun W' hb => sEl_any _ p B2 d2 y W' (spPres.rd_below h0' hb) (HY.out W' hb) hl2 (Pres.con_gps hk)
    have HT : Hid (p.two x y = (p.el x && p.el y)) := Lib.hid (by unfold Pres.two; rw [hk]; rfl)
    cases hx : p.el x with
    | true =>
      rw [hx] at HE HT
      have ex := (Pres.el_out hx).2
      have lx := (Pres.el_out hx).1
      cases hy : p.el y with
      | true =>
        rw [hy] at HF HT
        have ey := (Pres.el_out hy).2
        have ly := (Pres.el_out hy).1
        have HR : Hid (rConjugate p x y = Num.mulL p.L (Num.invL p.L y) (Num.mulL p.L x y) ∧ cConjugate p x y = 0) := Lib.hid ⟨if_pos HT.out, if_pos HT.out⟩
        have HM : Hid (∀ W', Below w.heap.size w W' → Calls Try.prog 75 #[.agg #[.slice A0 p.O.length c0, .slice A1 p.W.length c1, .slice A2 p.J.length c2], .slice B p.O.length d, .slice B2 p.O.length d2] W' (VecO p.O (Num.mulL p.L (Num.invL p.L y) (Num.mulL p.L x y)) W')) := Lib.hid fun W' hb => by
          rw [V.lw, V.lj]
          exact sConj_any V W' x y B B2 d d2 (HP.out W' hb) (HX.out W' hb) (HY.out W' hb) ex ey
        have HLN : Hid ((Num.mulL p.L (Num.invL p.L y) (Num.mulL p.L x y)).length ≤ 1000000000) := Lib.hid (Pres.vec_len V (by
          have ix := Num.inv_El (V.ok 0) ex
          have iy := Num.inv_El (V.ok 0) ey
          have iz := Num.inv_El (V.ok 0) (Num.El.mul (V.ok 0) ey ex)
          have mz := Num.El.mul (V.ok 0) ex ey
          first | exact mz | exact Num.El.mul (V.ok 0) iy mz | exact Num.El.mul (V.ok 0) iz mz))
        unfold VecO at HM
        rw [lx] at HE
        rw [ly] at HF
        rw [lx, ly]
        generalize Num.mulL p.L (Num.invL p.L y) (Num.mulL p.L x y) = z at *
        clear h0 h0' hO hW hJ hB hB2 BX m0 HP hl hl2 ex ey V C HX HY lx ly
        go_enter Try.func32, Try.ntmps32
        go_wp2_with (fail)
        clear hW0
        refine HI.out.mono ?_; rintro e w1 ⟨rfl, hb1⟩
        have L1 := bstep b0 b0.size hb1
        obtain ⟨bl1, z0, z1, z2⟩ := (HBX.out.below hb1).c3
        have HE1 := Lib.hid (HE.out w1 L1)
        clear HI HE y0 y1 y2
        go_wp2_with (fail)
        refine HE1.out.mono ?_; rintro e w2 ⟨rfl, hb2⟩
        have L2 := bstep L1 L1.size hb2
        obtain ⟨bl2, u0, u1, u2⟩ := ((HBX.out.below hb1).below hb2).c3
        have HF1 := Lib.hid (HF.out w2 L2)
        clear HE1 HF z0 z1 z2
        go_wp2_with (fail)
        refine HF1.out.mono ?_; rintro e w3 ⟨rfl, hb3⟩
        have L3 := bstep L2 L2.size hb3
        obtain ⟨bl3, q0, q1, q2⟩ := (((HBX.out.below hb1).below hb2).below hb3).c3
        have HM1 := Lib.hid (HM.out w3 L3)
        clear HF1 HM u0 u1 u2
        go_wp2_with (fail)
        refine HM1.out.mono ?_; rintro e w4 ⟨A', c', rfl, ow, hb4⟩
        go_wp2_with (fail)
        go_ret2
        rw [HR.out.1, HR.out.2]
        exact MadeC.list (ow.base_ L3.size) HLN.out (bstep L3 L3.size hb4)
      | false =>
        rw [hy] at HF HT
        have HR : Hid (rConjugate p x y = [] ∧ cConjugate p x y = 1) := Lib.hid ⟨if_neg (by rw [HT.out]; simp), if_neg (by rw [HT.out]; simp)⟩
        clear h0 h0' hO hW hJ hB hB2 BX m0 HP hl hl2 ex V C HX HY lx
        go_enter Try.func32, Try.ntmps32
        go_wp2_with (fail)
        clear hW0
        refine HI.out.mono ?_; rintro e w1 ⟨rfl, hb1⟩
        have L1 := bstep b0 b0.size hb1
        obtain ⟨bl1, z0, z1, z2⟩ := (HBX.out.below hb1).c3
        have HE1 := Lib.hid (HE.out w1 L1)
        clear HI HE y0 y1 y2
        go_wp2_with (fail)
        refine HE1.out.mono ?_; rintro e w2 ⟨rfl, hb2⟩
        have L2 := bstep L1 L1.size hb2
        obtain ⟨bl2, u0, u1, u2⟩ := ((HBX.out.below hb1).below hb2).c3
        have HF1 := Lib.hid (HF.out w2 L2)
        clear HE1 HF z0 z1 z2
        go_wp2_with (fail)
        refine HF1.out.mono ?_; rintro e w3 ⟨rfl, hb3⟩
        go_wp2_with (fail)
        go_ret2
        rw [HR.out.1, HR.out.2]
        exact MadeC.nilW (bstep L2 L2.size hb3)
    | false =>
      rw [hx] at HE HT
      have HR : Hid (rConjugate p x y = [] ∧ cConjugate p x y = 1) := Lib.hid ⟨if_neg (by rw [HT.out]; simp), if_neg (by rw [HT.out]; simp)⟩
      clear h0 h0' hO hW hJ hB hB2 BX m0 HP hl hl2 V C HX HY HF
      go_enter Try.func32, Try.ntmps32
      go_wp2_with (fail)
      clear hW0
      refine HI.out.mono ?_; rintro e w1 ⟨rfl, hb1⟩
      have L1 := bstep b0 b0.size hb1
      obtain ⟨bl1, z0, z1, z2⟩ := (HBX.out.below hb1).c3
      have HE1 := Lib.hid (HE.out w1 L1)
      clear HI HE y0 y1 y2
      go_wp2_with (fail)
      refine HE1.out.mono ?_; rintro e w2 ⟨rfl, hb2⟩
      go_wp2_with (fail)
      go_ret2
      rw [HR.out.1, HR.out.2]
      exact MadeC.nilW (bstep L1 L1.size hb2)
  | false =>
    rw [hk] at HI
    have HT : Hid (p.two x y = false) := Lib.hid (by unfold Pres.two; rw [hk]; rfl)
    have HR : Hid (rConjugate p x y = [] ∧ cConjugate p x y = 1) := Lib.hid ⟨if_neg (by rw [HT.out]; simp), if_neg (by rw [HT.out]; simp)⟩
    clear h0 h0' hO hW hJ hB hB2 BX m0 HP hl hl2 HX HY
    go_enter Try.func32, Try.ntmps32
    go_wp2_with (fail)
    clear hW0
    refine HI.out.mono ?_; rintro e w1 ⟨rfl, hb1⟩
    have L1 := bstep b0 b0.size hb1
    obtain ⟨bl1, z0, z1, z2⟩ := (HBX.out.below hb1).c3
    go_wp2_with (fail)
    go_ret2
    rw [HR.out.1, HR.out.2]
    exact MadeC.nilW L1
set_option maxRecDepth 100000 in
set_option maxHeartbeats 2000000 in
theorem sCommutator_ok (v0 : Value) (p : Pres) (v1 : Value) (x : List Int) (v2 : Value) (y : List Int) (w : World) (h0 : spPres.rd w v0 p) (h1 : spI.rd w v1 x) (h2 : spI.rd w v2 y) (s0 : spPres.sz p ≤ 1048576) (s1 : spI.sz x ≤ 1048576) (s2 : spI.sz y ≤ 1048576) : Calls Try.prog 34 #[v0, v1, v2] w (MadeC spI (rCommutator p x y) (cCommutator p x y) w) := by
  have h0' := h0
  obtain ⟨A0, c0, A1, c1, A2, c2, rfl, ⟨hO, hW, hJ⟩, m0, -, -⟩ := pres_open h0
  obtain ⟨B, d, rfl, hl, hB⟩ := h1
  obtain ⟨B2, d2, rfl, hl2, hB2⟩ := h2
  have b0 : Below w.heap.size w (w.alloc (.cells #[.slice A0 p.O.length c0, .slice A1 p.W.length c1, .slice A2 p.J.length c2] 29)) := by go_grown
  have BX := Blk.new w [.slice A0 p.O.length c0, .slice A1 p.W.length c1, .slice A2 p.J.length c2] 29
  generalize hW0 : w.alloc (.cells #[.slice A0 p.O.length c0, .slice A1 p.W.length c1, .slice A2 p.J.length c2] 29) = W0 at *
  have HBX := Lib.hid BX
  obtain ⟨bl, y0, y1, y2⟩ := BX.c3
  have HI := Lib.hid (sGroup_any _ p W0 (spPres.rd_below h0' b0))
  have HP : Hid (∀ W', Below w.heap.size w W' → RdI W' A0 p.O ∧ RdW W' A1 p.W ∧ RdX W' A2 p.J) := Lib.hid fun W' hb => ⟨hO.below' hb, hW.below' hb, hJ.below' hb⟩
  have HX : Hid (∀ W', Below w.heap.size w W' → RdI W' B x) := Lib.hid fun W' hb => hB.below' hb
  have HY : Hid (∀ W', Below w.heap.size w W' → RdI W' B2 y) := Lib.hid fun W' hb => hB2.below' hb
  cases hk : p.con with
  | true =>
    rw [hk] at HI
    obtain ⟨V, C⟩ := Pres.con_Con hk
    have HE : Hid (∀ W', Below w.heap.size w W' → Calls Try.prog 60 #[.agg #[.slice A0 p.O.length c0, .slice A1 p.W.length c1, .slice A2 p.J.length c2], .slice B x.length d] W' (RetB (p.el x) W')) := Lib.hid fun W' hb => sEl_any _ p B d x W' (spPres.rd_below h0' hb) (HX.out W' hb) hl (Pres.con_gps hk)
    have HF : Hid (∀ W', Below w.heap.size w W' → Calls Try.prog 60 #[.agg #[.slice A0 p.O.length c0, .slice A1 p.W.length c1, .slice A2 p.J.length c2], .slice B2 y.length d2] W' (RetB (p.el y) W')) := Lib.hid fun W' hb => sEl_any _ p B2 d2 y W' (spPres.rd_below h0' hb) (HY.out W' hb) hl2 (Pres.con_gps hk)
    have HT : Hid (p.two x y = (p.el x && p.el y)) := Lib.hid (by unfold Pres.two; rw [hk]; rfl)
    cases hx : p.el x with
    | true =>
      rw [hx] at HE HT
      have ex := (Pres.el_out hx).2
      have lx := (Pres.el_out hx).1
      cases hy : p.el y with
      | true =>
        rw [hy] at HF HT
        have ey := (Pres.el_out hy).2
        have ly := (Pres.el_out hy).1
        have HR : Hid (rCommutator p x y = Num.mulL p.L (Num.invL p.L (Num.mulL p.L y x)) (Num.mulL p.L x y) ∧ cCommutator p x y = 0) := Lib.hid ⟨if_pos HT.out, if_pos HT.out⟩
        have HM : Hid (∀ W', Below w.heap.size w W' → Calls Try.prog 77 #[.agg #[.slice A0 p.O.length c0, .slice A1 p.W.length c1, .slice A2 p.J.length c2], .slice B p.O.length d, .slice B2 p.O.length d2] W' (VecO p.O (Num.mulL p.L (Num.invL p.L (Num.mulL p.L y x)) (Num.mulL p.L x y)) W')) := Lib.hid fun W' hb => by
          rw [V.lw, V.lj]
          exact sComm_any V W' x y B B2 d d2 (HP.out W' hb) (HX.out W' hb) (HY.out W' hb) ex ey
        have HLN : Hid ((Num.mulL p.L (Num.invL p.L (Num.mulL p.L y x)) (Num.mulL p.L x y)).length ≤ 1000000000) := Lib.hid (Pres.vec_len V (by
          have ix := Num.inv_El (V.ok 0) ex
          have iy := Num.inv_El (V.ok 0) ey
          have iz := Num.inv_El (V.ok 0) (Num.El.mul (V.ok 0) ey ex)
          have mz := Num.El.mul (V.ok 0) ex ey
          first | exact mz | exact Num.El.mul (V.ok 0) iy mz | exact Num.El.mul (V.ok 0) iz mz))
        unfold VecO at HM
        rw [lx] at HE
        rw [ly] at HF
        rw [lx, ly]
        generalize Num.mulL p.L (Num.invL p.L (Num.mulL p.L y x)) (Num.mulL p.L x y) = z at *
        clear h0 h0' hO hW hJ hB hB2 BX m0 HP hl hl2 ex ey V C HX HY lx ly
        go_enter Try.func34, Try.ntmps34
        go_wp2_with (fail)
        clear hW0
        refine HI.out.mono ?_; rintro e w1 ⟨rfl, hb1⟩
        have L1 := bstep b0 b0.size hb1
        obtain ⟨bl1, z0, z1, z2⟩ := (HBX.out.below hb1).c3
        have HE1 := Lib.hid (HE.out w1 L1)
        clear HI HE y0 y1 y2
        go_wp2_with (fail)
        refine HE1.out.mono ?_; rintro e w2 ⟨rfl, hb2⟩
        have L2 := bstep L1 L1.size hb2
        obtain ⟨bl2, u0, u1, u2⟩ := ((HBX.out.below hb1).below hb2).c3
        have HF1 := Lib.hid (HF.out w2 L2)
        clear HE1 HF z0 z1 z2
        go_wp2_with (fail)
        refine HF1.out.mono ?_; rintro e w3 ⟨rfl, hb3⟩
        have L3 := bstep L2 L2.size hb3
        obtain ⟨bl3, q0, q1, q2⟩ := (((HBX.out.below hb1).below hb2).below hb3).c3
        have HM1 := Lib.hid (HM.out w3 L3)
        clear HF1 HM u0 u1 u2
        go_wp2_with (fail)
        refine HM1.out.mono ?_; rintro e w4 ⟨A', c', rfl, ow, hb4⟩
        go_wp2_with (fail)
        go_ret2
        rw [HR.out.1, HR.out.2]
        exact MadeC.list (ow.base_ L3.size) HLN.out (bstep L3 L3.size hb4)
      | false =>
        rw [hy] at HF HT
        have HR : Hid (rCommutator p x y = [] ∧ cCommutator p x y = 1) := Lib.hid ⟨if_neg (by rw [HT.out]; simp), if_neg (by rw [HT.out]; simp)⟩
        clear h0 h0' hO hW hJ hB hB2 BX m0 HP hl hl2 ex V C HX HY lx
        go_enter Try.func34, Try.ntmps34
        go_wp2_with (fail)
        clear hW0
        refine HI.out.mono ?_; rintro e w1 ⟨rfl, hb1⟩
        have L1 := bstep b0 b0.size hb1
        obtain ⟨bl1, z0, z1, z2⟩ := (HBX.out.below hb1).c3
        have HE1 := Lib.hid (HE.out w1 L1)
        clear HI HE y0 y1 y2
        go_wp2_with (fail)
        refine HE1.out.mono ?_; rintro e w2 ⟨rfl, hb2⟩
        have L2 := bstep L1 L1.size hb2
        obtain ⟨bl2, u0, u1, u2⟩ := ((HBX.out.below hb1).below hb2).c3
        have HF1 := Lib.hid (HF.out w2 L2)
        clear HE1 HF z0 z1 z2
        go_wp2_with (fail)
        refine HF1.out.mono ?_; rintro e w3 ⟨rfl, hb3⟩
        go_wp2_with (fail)
        go_ret2
        rw [HR.out.1, HR.out.2]
        exact MadeC.nilW (bstep L2 L2.size hb3)
    | false =>
      rw [hx] at HE HT
      have HR : Hid (rCommutator p x y = [] ∧ cCommutator p x y = 1) := Lib.hid ⟨if_neg (by rw [HT.out]; simp), if_neg (by rw [HT.out]; simp)⟩
      clear h0 h0' hO hW hJ hB hB2 BX m0 HP hl hl2 V C HX HY HF
      go_enter Try.func34, Try.ntmps34
      go_wp2_with (fail)
      clear hW0
      refine HI.out.mono ?_; rintro e w1 ⟨rfl, hb1⟩
      have L1 := bstep b0 b0.size hb1
      obtain ⟨bl1, z0, z1, z2⟩ := (HBX.out.below hb1).c3
      have HE1 := Lib.hid (HE.out w1 L1)
      clear HI HE y0 y1 y2
      go_wp2_with (fail)
      refine HE1.out.mono ?_; rintro e w2 ⟨rfl, hb2⟩
      go_wp2_with (fail)
      go_ret2
      rw [HR.out.1, HR.out.2]
      exact MadeC.nilW (bstep L1 L1.size hb2)
  | false =>
    rw [hk] at HI
    have HT : Hid (p.two x y = false) := Lib.hid (by unfold Pres.two; rw [hk]; rfl)
    have HR : Hid (rCommutator p x y = [] ∧ cCommutator p x y = 1) := Lib.hid ⟨if_neg (by rw [HT.out]; simp), if_neg (by rw [HT.out]; simp)⟩
    clear h0 h0' hO hW hJ hB hB2 BX m0 HP hl hl2 HX HY
    go_enter Try.func34, Try.ntmps34
    go_wp2_with (fail)
    clear hW0
    refine HI.out.mono ?_; rintro e w1 ⟨rfl, hb1⟩
    have L1 := bstep b0 b0.size hb1
    obtain ⟨bl1, z0, z1, z2⟩ := (HBX.out.below hb1).c3
    go_wp2_with (fail)
    go_ret2
    rw [HR.out.1, HR.out.2]
    exact MadeC.nilW L1
set_option maxRecDepth 100000 in
set_option maxHeartbeats 2000000 in
theorem sInverse_ok (v0 : Value) (p : Pres) (v1 : Value) (x : List Int) (w : World) (h0 : spPres.rd w v0 p) (h1 : spI.rd w v1 x) (s0 : spPres.sz p ≤ 1048576) (s1 : spI.sz x ≤ 1048576) : Calls Try.prog 28 #[v0, v1] w (MadeC spI (rInverse p x) (cInverse p x) w) := by
  have h0' := h0
  have h1' := h1
  obtain ⟨A0, c0, A1, c1, A2, c2, rfl, ⟨hO, hW, hJ⟩, m0, -, -⟩ := pres_open h0
  obtain ⟨B, d, rfl, hl, hB⟩ := h1
  have b0 : Below w.heap.size w (w.alloc (.cells #[.slice A0 p.O.length c0, .slice A1 p.W.length c1, .slice A2 p.J.length c2] 29)) := by go_grown
  have BX := Blk.new w [.slice A0 p.O.length c0, .slice A1 p.W.length c1, .slice A2 p.J.length c2] 29
  generalize hW0 : w.alloc (.cells #[.slice A0 p.O.length c0, .slice A1 p.W.length c1, .slice A2 p.J.length c2] 29) = W0 at *
  have HBX := Lib.hid BX
  obtain ⟨bl, y0, y1, y2⟩ := BX.c3
  have HI := Lib.hid (sIsElement_ok _ p _ x W0 (spPres.rd_below h0' b0) (spI.rd_below h1' b0) s0 s1)
  have HP : Hid (∀ W', Below w.heap.size w W' → RdI W' A0 p.O ∧ RdW W' A1 p.W ∧ RdX W' A2 p.J) := Lib.hid fun W' hb => ⟨hO.below' hb, hW.below' hb, hJ.below' hb⟩
  have HX : Hid (∀ W', Below w.heap.size w W' → RdI W' B x) := Lib.hid fun W' hb => hB.below' hb
  cases hk : rIsElement p x with
  | true =>
    rw [hk] at HI
    obtain ⟨hc, he⟩ := Pres.el_con hk
    obtain ⟨V, C⟩ := Pres.con_Con hc
    obtain ⟨lx, ex⟩ := Pres.el_out he
    have HR : Hid (rInverse p x = Num.invL p.L x ∧ cInverse p x = 0) := Lib.hid ⟨if_pos hk, if_pos hk⟩
    have HM : Hid (∀ W', Below w.heap.size w W' → Calls Try.prog 68 #[.agg #[.slice A0 p.O.length c0, .slice A1 p.W.length c1, .slice A2 p.J.length c2], .slice B p.O.length d] W' (VecO p.O (Num.invL p.L x) W')) := Lib.hid fun W' hb => by
      rw [V.lw, V.lj]
      exact sInv_any V W' x B d (HP.out W' hb) (HX.out W' hb) ex
    have HLN := Lib.hid (Pres.vec_len V (Num.inv_El (V.ok 0) ex))
    unfold VecO at HM
    rw [lx] at HI ⊢
    generalize Num.invL p.L x = z at *
    clear h0 h0' h1' hO hW hJ hB BX m0 HP hl HX ex V C lx
    go_enter Try.func28, Try.ntmps28
    go_wp2_with (fail)
    clear hW0
    refine HI.out.mono ?_; rintro e w1 ⟨rfl, hb1⟩
    have L1 := bstep b0 b0.size hb1
    obtain ⟨bl1, z0, z1, z2⟩ := (HBX.out.below hb1).c3
    have HM1 := Lib.hid (HM.out w1 L1)
    clear HI HM y0 y1 y2
    go_wp2_with (fail)
    refine HM1.out.mono ?_; rintro e w4 ⟨A', c', rfl, ow, hb4⟩
    go_wp2_with (fail)
    go_ret2
    rw [HR.out.1, HR.out.2]
    exact MadeC.list (ow.base_ L1.size) HLN.out (bstep L1 L1.size hb4)
  | false =>
    rw [hk] at HI
    have HR : Hid (rInverse p x = [] ∧ cInverse p x = 1) := Lib.hid ⟨if_neg (by rw [hk]; simp), if_neg (by rw [hk]; simp)⟩
    clear h0 h0' h1' hO hW hJ hB BX m0 HP hl HX
    go_enter Try.func28, Try.ntmps28
    go_wp2_with (fail)
    clear hW0
    refine HI.out.mono ?_; rintro e w1 ⟨rfl, hb1⟩
    have L1 := bstep b0 b0.size hb1
    obtain ⟨bl1, z0, z1, z2⟩ := (HBX.out.below hb1).c3
    go_wp2_with (fail)
    go_ret2
    rw [HR.out.1, HR.out.2]
    exact MadeC.nilW L1
set_option maxRecDepth 100000 in
set_option maxHeartbeats 2000000 in
theorem sPower_ok (v0 : Value) (p : Pres) (v1 : Value) (x : List Int) (k : Int) (w : World) (h0 : spPres.rd w v0 p) (h1 : spI.rd w v1 x) (s0 : spPres.sz p ≤ 1048576) (s1 : spI.sz x ≤ 1048576) : Calls Try.prog 30 #[v0, v1, .int .i64 k] w (MadeC spI (rPower p x k) (cPower p x k) w) := by
  have h0' := h0
  have h1' := h1
  obtain ⟨A0, c0, A1, c1, A2, c2, rfl, ⟨hO, hW, hJ⟩, m0, -, -⟩ := pres_open h0
  obtain ⟨B, d, rfl, hl, hB⟩ := h1
  have b0 : Below w.heap.size w (w.alloc (.cells #[.slice A0 p.O.length c0, .slice A1 p.W.length c1, .slice A2 p.J.length c2] 29)) := by go_grown
  have BX := Blk.new w [.slice A0 p.O.length c0, .slice A1 p.W.length c1, .slice A2 p.J.length c2] 29
  generalize hW0 : w.alloc (.cells #[.slice A0 p.O.length c0, .slice A1 p.W.length c1, .slice A2 p.J.length c2] 29) = W0 at *
  have HBX := Lib.hid BX
  obtain ⟨bl, y0, y1, y2⟩ := BX.c3
  have HI := Lib.hid (sIsElement_ok _ p _ x W0 (spPres.rd_below h0' b0) (spI.rd_below h1' b0) s0 s1)
  have HP : Hid (∀ W', Below w.heap.size w W' → RdI W' A0 p.O ∧ RdW W' A1 p.W ∧ RdX W' A2 p.J) := Lib.hid fun W' hb => ⟨hO.below' hb, hW.below' hb, hJ.below' hb⟩
  have HX : Hid (∀ W', Below w.heap.size w W' → RdI W' B x) := Lib.hid fun W' hb => hB.below' hb
  cases hk : rIsElement p x with
  | true =>
    rw [hk] at HI
    obtain ⟨hc, he⟩ := Pres.el_con hk
    obtain ⟨V, C⟩ := Pres.con_Con hc
    obtain ⟨lx, ex⟩ := Pres.el_out he
    by_cases hr : -1000000 ≤ k ∧ k ≤ 1000000
    · have HR : Hid (rPower p x k = Num.powZ p.L x k ∧ cPower p x k = 0) := Lib.hid ⟨by unfold rPower; rw [if_pos hk, if_pos hr], by unfold cPower; rw [if_pos hk, if_pos hr]⟩
      have HM : Hid (∀ W', Below w.heap.size w W' → Calls Try.prog 72 #[.agg #[.slice A0 p.O.length c0, .slice A1 p.W.length c1, .slice A2 p.J.length c2], .slice B p.O.length d, .int .i64 k] W' (VecO p.O (Num.powZ p.L x k) W')) := Lib.hid fun W' hb => by
        rw [V.lw, V.lj]
        exact sPow_any V C W' x B d k (HP.out W' hb) (HX.out W' hb) ex hr.1 hr.2
      have HLN := Lib.hid (Pres.vec_len V (show Num.El p.L (Num.powZ p.L x k) by
        unfold Num.powZ
        split
        · exact (Num.Con.mon (V.ok 0) C).pw_P (Num.inv_El (V.ok 0) ex) _
        · exact (Num.Con.mon (V.ok 0) C).pw_P ex _))
      have HS : Hid (∀ W', Calls Try.prog 71 #[.int .i64 k, .int .i64 (-1000000), .int .i64 1000000] W' fun e w' => e = .returned (.bool true) ∧ W' = w') := Lib.hid fun W' => sIn_yes k _ _ W' hr.1 hr.2
      unfold VecO at HM
      rw [lx] at HI ⊢
      generalize Num.powZ p.L x k = z at *
      clear h0 h0' h1' hO hW hJ hB BX m0 HP hl HX ex V C lx
      go_enter Try.func30, Try.ntmps30
      go_wp2_with (fail)
      clear hW0
      refine HI.out.mono ?_; rintro e w1 ⟨rfl, hb1⟩
      have L1 := bstep b0 b0.size hb1
      obtain ⟨bl1, z0, z1, z2⟩ := (HBX.out.below hb1).c3
      have HM1 := Lib.hid (HM.out w1 L1)
      clear HI HM y0 y1 y2
      go_wp2_with (fail)
      refine (HS.out _).mono ?_; rintro e w3 ⟨rfl, rfl⟩
      go_wp2_with (fail)
      refine HM1.out.mono ?_; rintro e w4 ⟨A', c', rfl, ow, hb4⟩
      go_wp2_with (fail)
      go_ret2
      rw [HR.out.1, HR.out.2]
      exact MadeC.list (ow.base_ L1.size) HLN.out (bstep L1 L1.size hb4)
    · have HR : Hid (rPower p x k = [] ∧ cPower p x k = 2) := Lib.hid ⟨by unfold rPower; rw [if_pos hk, if_neg hr], by unfold cPower; rw [if_pos hk, if_neg hr]⟩
      have HS : Hid (∀ W', Calls Try.prog 71 #[.int .i64 k, .int .i64 (-1000000), .int .i64 1000000] W' fun e w' => e = .returned (.bool false) ∧ W' = w') := Lib.hid fun W' => sIn_no k _ _ W' (by omega)
      clear h0 h0' h1' hO hW hJ hB BX m0 HP hl HX ex V C lx
      go_enter Try.func30, Try.ntmps30
      go_wp2_with (fail)
      clear hW0
      refine HI.out.mono ?_; rintro e w1 ⟨rfl, hb1⟩
      have L1 := bstep b0 b0.size hb1
      obtain ⟨bl1, z0, z1, z2⟩ := (HBX.out.below hb1).c3
      clear HI y0 y1 y2
      go_wp2_with (fail)
      refine (HS.out _).mono ?_; rintro e w3 ⟨rfl, rfl⟩
      go_wp2_with (fail)
      go_ret2
      rw [HR.out.1, HR.out.2]
      exact MadeC.nilW L1
  | false =>
    rw [hk] at HI
    have HR : Hid (rPower p x k = [] ∧ cPower p x k = 1) := Lib.hid ⟨if_neg (by rw [hk]; simp), if_neg (by rw [hk]; simp)⟩
    clear h0 h0' h1' hO hW hJ hB BX m0 HP hl HX
    go_enter Try.func30, Try.ntmps30
    go_wp2_with (fail)
    clear hW0
    refine HI.out.mono ?_; rintro e w1 ⟨rfl, hb1⟩
    have L1 := bstep b0 b0.size hb1
    obtain ⟨bl1, z0, z1, z2⟩ := (HBX.out.below hb1).c3
    go_wp2_with (fail)
    go_ret2
    rw [HR.out.1, HR.out.2]
    exact MadeC.nilW L1
end Go.Proofs.Yteappjgdcbploaa
namespace Go.Proofs.Yteappjgdcbploaa
open Go.RowKit
set_option linter.unusedVariables false
set_option linter.unusedSimpArgs false

theorem Num.div_mod_mul {k o s : Int} (hs : 1 ≤ s) (ho : 1 ≤ o) : k % (o * s) / s = k / s % o ∧ k % (o * s) % s = k % s := by
  have h1 := Int.mul_ediv_add_emod k s
  have h2 := Int.mul_ediv_add_emod (k / s) o
  have r0 := Int.emod_nonneg k (show s ≠ 0 by omega)
  have r1 := Int.emod_lt_of_pos k (show 0 < s by omega)
  have q0 := Int.emod_nonneg (k / s) (show o ≠ 0 by omega)
  have q1 := Int.emod_lt_of_pos (k / s) (show 0 < o by omega)
  generalize k % s = r at *
  generalize k / s % o = q2 at *
  generalize k / s / o = t at *
  have e : k = (s * q2 + r) + (o * s) * t := by
    rw [← h1, ← h2, Int.mul_add, Int.mul_comm o s, Int.mul_assoc s o t]
    omega
  have p0 : 0 ≤ s * q2 := Int.mul_nonneg (by omega) q0
  have p1 : s * (q2 + 1) ≤ s * o := Int.mul_le_mul_of_nonneg_left (by omega) (by omega)
  rw [Int.mul_add, Int.mul_one] at p1
  have hm : k % (o * s) = s * q2 + r := by
    rw [e, Int.add_mul_emod_self_left, Int.emod_eq_of_lt (by omega) (by rw [Int.mul_comm o s]; omega)]
  rw [hm]
  refine ⟨?_, ?_⟩
  · rw [Int.add_comm, Int.add_mul_ediv_left _ _ (by omega), Int.ediv_eq_zero_of_lt r0 r1, Int.zero_add]
  · rw [Int.add_comm, Int.add_mul_emod_self_left, Int.emod_eq_of_lt r0 r1]
theorem Num.tlM_drop {O : List Int} {W : List (List Int)} {J : List (List (List Int))} : ∀ (k i : Nat), (Num.tlL O W J i).drop k = Num.tlL O W J (i + k) := Num.tlL_drop
theorem Num.num_stepM {O : List Int} {W : List (List Int)} {J : List (List (List Int))} {v : List Int} (hl : v.length = O.length) {i : Nat} (hi : i < O.length) :
    Num.numL (Num.tlL O W J i) (v.drop i) = v.getD i 0 * Num.szL (Num.tlL O W J (i + 1)) + Num.numL (Num.tlL O W J (i + 1)) (v.drop (i + 1)) := Num.num_step hl hi
set_option maxRecDepth 100000 in
set_option maxHeartbeats 2000000 in
theorem sNumber_any {A0 A1 A2 : Option Addr} {c0 c1 c2 : Nat} {O : List Int} {W : List (List Int)} {J : List (List (List Int))} (V : Num.Val O W J) (w : World) (a : List Int) (A : Option Addr) (ca : Nat) (hO : RdI w A0 O) (hA : RdI w A a) (ha : Num.El (Num.tlL O W J 0) a) :
    Calls Try.prog 81 #[prV A0 A1 A2 c0 c1 c2 O, .slice A O.length ca] w fun e w' => e = .returned (.int .i64 (Num.numL (Num.tlL O W J 0) a)) ∧ Below w.heap.size w w' := by
  have n6 := V.n6
  have hal : a.length = O.length := by have := ha.len; rw [Num.tlL_len] at this; omega
  have HV := Lib.hid V
  have HB := Lib.hid (szM_bd V)
  have hrg := Num.numL_rng (V.ok 0) ha
  have b0 : Below w.heap.size w (w.alloc (.cells #[.slice A0 O.length c0, .slice A1 O.length c1, .slice A2 O.length c2] 29)) := by go_grown
  have BX := Blk.new w [.slice A0 O.length c0, .slice A1 O.length c1, .slice A2 O.length c2] 29
  generalize hW0 : w.alloc (.cells #[.slice A0 O.length c0, .slice A1 O.length c1, .slice A2 O.length c2] 29) = W0 at *
  have HBX := Lib.hid BX
  have HO := Lib.hid (hO.below' b0)
  have HA := Lib.hid (hA.below' b0)
  have HE := Lib.hid ha
  have HAL := Lib.hid hal
  clear hO hA ha hal V BX
  go_enter Try.func81, Try.ntmps81
  go_wp2_with (fail)
  clear hW0
  go_loopw [5, 6] (fun s5 s6 wr => ∃ (i : Nat) (x : Int), s6 = .int .i64 (i : Int) ∧ s5 = .int .i64 x ∧ i ≤ O.length ∧ 0 ≤ x ∧ Hid (x * Num.szL (Num.tlL O W J i) + Num.numL (Num.tlL O W J i) (a.drop i) = Num.numL (Num.tlL O W J 0) a) ∧ Below W0.heap.size W0 wr) (fun _ s6 _ => O.length - (intOf s6).toNat)
  case atStart => exact ⟨0, 0, rfl, rfl, by omega, by omega, Lib.hid (by rw [Int.zero_mul, Int.zero_add]; rfl), Below.refl _ _⟩
  case round =>
    obtain ⟨i, x, rfl, rfl, hi, hx0, hx, bel⟩ := hrel
    obtain ⟨bl, y0, y1, y2⟩ := (HBX.out.below bel).c3
    by_cases hlt : i < O.length
    · obtain ⟨g, o, rfl, hg, hc⟩ := (HO.out.below' bel) i hlt
      obtain ⟨ga, oa, rfl, hga, hca⟩ := (HA.out.below' bel) i (by rw [HAL.out]; exact hlt)
      have i0 : (0 : Int) ≤ (i : Int) := by omega
      have i1 : (i : Int) < (O.length : Int) := by omega
      have ho := HV.out.ob i hlt
      have hup := szL_up (W := W) (J := J) hlt
      have hb1 := HB.out (i + 1)
      have hb0 := HB.out 0
      have hst := Num.num_stepM (W := W) (J := J) HAL.out hlt
      have hv := Num.El.at _ 0 rfl HE.out i (by omega)
      rw [Nat.zero_add] at hv
      have hx' := hx.out
      rw [hup, hst, ← Int.mul_assoc, ← Int.add_assoc, ← Int.add_mul] at hx'
      have hr1 := Num.numL_rng (HV.out.ok (i + 1)) (a := a.drop (i + 1)) (by have := Num.El.drop (i + 1) HE.out; rwa [Num.tlM_drop, Nat.zero_add] at this)
      have hp0 : 0 ≤ x * O.getD i 0 := Int.mul_nonneg hx0 (by omega)
      have hp1 : x * O.getD i 0 + a.getD i 0 ≤ 117649 := by
        have : (x * O.getD i 0 + a.getD i 0) * 1 ≤ (x * O.getD i 0 + a.getD i 0) * Num.szL (Num.tlL O W J (i + 1)) := Int.mul_le_mul_of_nonneg_left hb1.1 (by omega)
        omega
      have HX2 := Lib.hid hx'
      generalize O.getD i 0 = yo at *
      generalize a.getD i 0 = ya at *
      have hw1 : IntKind.i64.wrap (x * yo) = x * yo := IntWalk.i64_in _ (by omega)
      have hw2 : IntKind.i64.wrap (x * yo + ya) = x * yo + ya := IntWalk.i64_in _ (by omega)
      have hw3 : IntKind.i64.wrap ((i : Int) + 1) = ((i + 1 : Nat) : Int) := by rw [IntWalk.i64_in _ (by omega)]; omega
      have HQ : Hid (∀ n, Below W0.heap.size W0 (wr.drewN n)) := Lib.hid fun n => below_drewN bel n
      clear hx hx' hup hst hr1 bel
      go_wp2_with (fail)
      go_quiet (fail)
      have bel := HQ.out nq
      go_wp2_with (fail)
      exact ⟨⟨i + 1, x * yo + ya, rfl, rfl, by omega, by omega, HX2, bel⟩, by simp [intOf]; omega⟩
    · have hge : ¬ ((i : Int) < (O.length : Int)) := by omega
      obtain rfl : i = O.length := by omega
      have HX2 : Hid (x = Num.numL (Num.tlL O W J 0) a) := Lib.hid (by
        have := hx.out
        rw [Num.tlL_end (Nat.le_refl _)] at this
        rw [← this]
        show x = x * 1 + 0
        omega)
      clear hx
      go_wp2_with (fail)
      go_ret
      exact ⟨ret_i HX2.out, bstep b0 b0.size bel⟩
set_option maxRecDepth 100000 in
set_option maxHeartbeats 2000000 in
theorem sAtNum_any {A0 A1 A2 : Option Addr} {c0 c1 c2 : Nat} {O : List Int} {W : List (List Int)} {J : List (List (List Int))} (V : Num.Val O W J) (w : World) (k : Int) (hO : RdI w A0 O) (hk0 : 0 ≤ k) (hk1 : k < Num.szL (Num.tlL O W J 0)) :
    Calls Try.prog 83 #[prV A0 A1 A2 c0 c1 c2 O, .int .i64 k] w (VecO O (Num.decL (Num.tlL O W J 0) k) w) := by
  have n6 := V.n6
  have HV := Lib.hid V
  have HB := Lib.hid (szM_bd V)
  have hkb := (szM_bd V 0).2
  have b0 : Below w.heap.size w (w.alloc (.cells #[.slice A0 O.length c0, .slice A1 O.length c1, .slice A2 O.length c2] 29)) := by go_grown
  have BX := Blk.new w [.slice A0 O.length c0, .slice A1 O.length c1, .slice A2 O.length c2] 29
  generalize hW0 : w.alloc (.cells #[.slice A0 O.length c0, .slice A1 O.length c1, .slice A2 O.length c2] 29) = W0 at *
  have HBX := Lib.hid BX
  have HO := Lib.hid (hO.below' b0)
  have HC := Lib.hid (sOne_any (A0 := A0) (A1 := A1) (A2 := A2) (c0 := c0) (c1 := c1) (c2 := c2) (W := W) (J := J) (O := O) (by omega) W0)
  have HKM : Hid (k % Num.szL (Num.tlL O W J 0) = k) := Lib.hid (Int.emod_eq_of_lt hk0 hk1)
  obtain ⟨bl, y0, y1, y2⟩ := BX.c3
  unfold VecO at HC ⊢
  clear hO V BX
  go_enter Try.func83, Try.ntmps83
  go_wp2_with (fail)
  clear hW0
  refine HC.out.mono ?_; rintro e w1 ⟨A1', c1', rfl, ow1, hb1⟩
  have hwn : IntKind.i64.wrap ((O.length : Int) - 1) = (O.length : Int) - 1 := IntWalk.i64_in _ (by omega)
  have OW1 := Lib.hid ow1
  clear ow1 HC y0 y1 y2
  go_wp2_with (fail)
  go_loopw [1, 6] (fun s1 s6 wr => ∃ m : Nat, m ≤ O.length ∧ s6 = .int .i64 ((m : Int) - 1) ∧ s1 = .int .i64 (k / Num.szL (Num.tlL O W J m)) ∧ Hid (OwnI wr W0.heap.size (.slice A1' O.length c1') (Num.zer m ++ Num.decL (Num.tlL O W J m) (k % Num.szL (Num.tlL O W J m)))) ∧ Below W0.heap.size W0 wr) (fun _ s6 _ => (intOf s6 + 1).toNat)
  case atStart =>
    refine ⟨O.length, by omega, rfl, ?_, Lib.hid ?_, hb1⟩
    · rw [Num.tlL_end (Nat.le_refl _)]
      show _ = Value.int .i64 (k / 1)
      rw [Int.ediv_one]
    · rw [Num.tlL_end (Nat.le_refl _)]
      show OwnI _ _ _ (Num.zer O.length ++ [])
      rw [List.append_nil]
      exact OW1.out
  case round =>
    clear OW1 hb1
    obtain ⟨m, hm, rfl, rfl, own, bel⟩ := hrel
    by_cases hpos : 0 < m
    · obtain ⟨j, rfl⟩ : ∃ j, m = j + 1 := ⟨m - 1, by omega⟩
      have hlt : j < O.length := by omega
      obtain ⟨bl, y0, y1, y2⟩ := (HBX.out.below bel).c3
      obtain ⟨g, o, rfl, hg, hc⟩ := (HO.out.below' bel) j hlt
      have e1 : ((j + 1 : Nat) : Int) - 1 = (j : Int) := by omega
      have i0 : (0 : Int) ≤ (j : Int) := by omega
      have i1 : (j : Int) < (O.length : Int) := by omega
      have ho := HV.out.ob j hlt
      have hb1 := HB.out (j + 1)
      have hup := szL_up (W := W) (J := J) hlt
      obtain ⟨d1, d2⟩ := Num.div_mod_mul (k := k) (o := O.getD j 0) (s := Num.szL (Num.tlL O W J (j + 1))) hb1.1 (by omega)
      rw [← hup] at d1 d2
      have hlen := own.out
      have hll : (Num.zer (j + 1) ++ Num.decL (Num.tlL O W J (j + 1)) (k % Num.szL (Num.tlL O W J (j + 1)))).length = O.length := by
        have := (Num.decL_El (HV.out.ok (j + 1)) (Int.emod_nonneg k (show Num.szL (Num.tlL O W J (j + 1)) ≠ 0 by omega)) (Int.emod_lt_of_pos k (by omega))).1
        exact Num.pad_len (HV.out.ok (j + 1)) this (by omega)
      have HNEW : Hid ((Num.zer (j + 1) ++ Num.decL (Num.tlL O W J (j + 1)) (k % Num.szL (Num.tlL O W J (j + 1)))).set j (k / Num.szL (Num.tlL O W J (j + 1)) % O.getD j 0) = Num.zer j ++ Num.decL (Num.tlL O W J j) (k % Num.szL (Num.tlL O W J j))) := Lib.hid (by
        rw [Num.set_pad]
        congr 1
        rw [Num.tlL_step hlt]
        show _ = (k % Num.szL (Num.lvA O W J j :: Num.tlL O W J (j + 1))) / Num.szL (Num.tlL O W J (j + 1)) :: Num.decL (Num.tlL O W J (j + 1)) ((k % Num.szL (Num.lvA O W J j :: Num.tlL O W J (j + 1))) % Num.szL (Num.tlL O W J (j + 1)))
        rw [← Num.tlL_step hlt, d1, d2])
      have hdiv : k / Num.szL (Num.tlL O W J (j + 1)) / O.getD j 0 = k / Num.szL (Num.tlL O W J j) := by
        rw [Int.ediv_ediv_of_nonneg (by omega), hup, Int.mul_comm]
      obtain ⟨gA, dA, e, hgA, hgB⟩ := ownI_first own.out (by rw [hll]; omega) hll
      simp only [Value.slice.injEq, true_and] at e
      obtain ⟨rfl, rfl⟩ := e
      obtain ⟨c5, f5⟩ := own.out.at_ j (by rw [hll]; omega)
      have O2 := Lib.hid (own.out.set j (k / Num.szL (Num.tlL O W J (j + 1)) % O.getD j 0))
      rw [HNEW.out] at O2
      have hq0 : 0 ≤ k / Num.szL (Num.tlL O W J (j + 1)) := Int.ediv_nonneg hk0 (by omega)
      have hq1 : k / Num.szL (Num.tlL O W J (j + 1)) ≤ k := by
        have := Int.ediv_le_self (Num.szL (Num.tlL O W J (j + 1))) hk0
        omega
      have HDV := Lib.hid hdiv
      clear d1 d2 hup hlen hll HNEW own hdiv hb1
      generalize k / Num.szL (Num.tlL O W J (j + 1)) = q at *
      generalize hyo : O.getD j 0 = yo at *
      have htm : q.tmod yo = q % yo := Int.tmod_eq_emod_of_nonneg hq0
      have htd : q.tdiv yo = q / yo := Int.tdiv_eq_ediv_of_nonneg hq0
      have hm0 := Int.emod_nonneg q (show yo ≠ 0 by omega)
      have hm1 := Int.emod_lt_of_pos q (show 0 < yo by omega)
      have hd0 : 0 ≤ q / yo := Int.ediv_nonneg hq0 (by omega)
      have hd1 : q / yo ≤ q := Int.ediv_le_self yo hq0
      have hw1 : IntKind.i64.wrap (q % yo) = q % yo := IntWalk.i64_in _ (by omega)
      have hw2 : IntKind.i64.wrap (q / yo) = q / yo := IntWalk.i64_in _ (by omega)
      have hw3 : IntKind.i64.wrap ((j : Int) - 1) = (j : Int) - 1 := IntWalk.i64_in _ (by omega)
      have hyo0 : yo ≠ 0 := by omega
      have B2 := (HBX.out.below bel).other (p := ⟨gA, j, none⟩) (by have := HBX.out.lt; show w.heap.size ≠ gA; omega) (.int .i64 (q % yo))
      obtain ⟨bl2, z0, z1, z2⟩ := B2.c3
      have L2 := bel.setCell (p := ⟨gA, j, none⟩) hgB (.int .i64 (q % yo))
      have hgo : g < W0.heap.size := by
        obtain ⟨g', o', e', hg', -⟩ := HO.out j hlt
        simp only [Option.some.injEq, Addr.mk.injEq, and_true] at e'
        rw [e'.1]; exact hg'
      have hc2 : (wr.setCell ⟨gA, j, none⟩ (.int .i64 (q % yo))).cell? ⟨g, o + j, none⟩ = some (.int .i64 yo) := by
        have h1 := L2.cell (p := ⟨g, o + j, none⟩) hgo
        have h2 := bel.cell (p := ⟨g, o + j, none⟩) hgo
        rw [h1, ← h2]; exact hc
      rw [e1]
      clear B2 hyo
      go_wp2_with (fail)
      exact ⟨⟨j, by omega, rfl, by rw [← HDV.out], O2, L2⟩, by simp [intOf]⟩
    · obtain rfl : m = 0 := by omega
      have O1 : Hid (OwnI wr W0.heap.size (.slice A1' O.length c1') (Num.decL (Num.tlL O W J 0) k)) := Lib.hid (by
        have := own.out
        rw [HKM.out] at this
        exact this)
      have hge : ¬ (0 : Int) ≤ ((0 : Nat) : Int) - 1 := by omega
      clear own
      go_wp2_with (fail)
      go_ret
      exact ⟨_, _, rfl, O1.out.base_ b0.size, bstep b0 b0.size bel⟩
end Go.Proofs.Yteappjgdcbploaa
namespace Go.Proofs.Yteappjgdcbploaa
open Go.RowKit
set_option linter.unusedVariables false
set_option linter.unusedSimpArgs false

set_option maxRecDepth 100000 in
set_option maxHeartbeats 2000000 in
theorem sElementNumber_ok (v0 : Value) (p : Pres) (v1 : Value) (x : List Int) (w : World) (h0 : spPres.rd w v0 p) (h1 : spI.rd w v1 x) (s0 : spPres.sz p ≤ 1048576) (s1 : spI.sz x ≤ 1048576) : Calls Try.prog 38 #[v0, v1] w (RetI (rElementNumber p x) (cElementNumber p x) w) := by
  have h0' := h0
  have h1' := h1
  obtain ⟨A0, c0, A1, c1, A2, c2, rfl, ⟨hO, hW, hJ⟩, m0, -, -⟩ := pres_open h0
  obtain ⟨B, d, rfl, hl, hB⟩ := h1
  have b0 : Below w.heap.size w (w.alloc (.cells #[.slice A0 p.O.length c0, .slice A1 p.W.length c1, .slice A2 p.J.length c2] 29)) := by go_grown
  have BX := Blk.new w [.slice A0 p.O.length c0, .slice A1 p.W.length c1, .slice A2 p.J.length c2] 29
  generalize hW0 : w.alloc (.cells #[.slice A0 p.O.length c0, .slice A1 p.W.length c1, .slice A2 p.J.length c2] 29) = W0 at *
  have HBX := Lib.hid BX
  obtain ⟨bl, y0, y1, y2⟩ := BX.c3
  have HI := Lib.hid (sIsElement_ok _ p _ x W0 (spPres.rd_below h0' b0) (spI.rd_below h1' b0) s0 s1)
  have HP : Hid (∀ W', Below w.heap.size w W' → RdI W' A0 p.O ∧ RdW W' A1 p.W ∧ RdX W' A2 p.J) := Lib.hid fun W' hb => ⟨hO.below' hb, hW.below' hb, hJ.below' hb⟩
  have HX : Hid (∀ W', Below w.heap.size w W' → RdI W' B x) := Lib.hid fun W' hb => hB.below' hb
  cases hk : rIsElement p x with
  | true =>
    rw [hk] at HI
    obtain ⟨hc, he⟩ := Pres.el_con hk
    obtain ⟨V, C⟩ := Pres.con_Con hc
    obtain ⟨lx, ex⟩ := Pres.el_out he
    have HR : Hid (rElementNumber p x = Num.numL p.L x ∧ cElementNumber p x = 0) := Lib.hid ⟨if_pos hk, if_pos hk⟩
    have HM : Hid (∀ W', Below w.heap.size w W' → Calls Try.prog 81 #[.agg #[.slice A0 p.O.length c0, .slice A1 p.W.length c1, .slice A2 p.J.length c2], .slice B p.O.length d] W' (fun e w' => e = .returned (.int .i64 (Num.numL p.L x)) ∧ Below W'.heap.size W' w')) := Lib.hid fun W' hb => by
      rw [V.lw, V.lj]
      exact sNumber_any V W' x B d (HP.out W' hb).1 (HX.out W' hb) ex
    rw [lx] at HI ⊢
    generalize Num.numL p.L x = z at *
    clear h0 h0' h1' hO hW hJ hB BX m0 HP hl HX ex V C lx
    go_enter Try.func38, Try.ntmps38
    go_wp2_with (fail)
    clear hW0
    refine HI.out.mono ?_; rintro e w1 ⟨rfl, hb1⟩
    have L1 := bstep b0 b0.size hb1
    obtain ⟨bl1, z0, z1, z2⟩ := (HBX.out.below hb1).c3
    have HM1 := Lib.hid (HM.out w1 L1)
    clear HI HM y0 y1 y2
    go_wp2_with (fail)
    refine HM1.out.mono ?_; rintro e w4 ⟨rfl, hb4⟩
    go_wp2_with (fail)
    go_ret2
    rw [HR.out.1, HR.out.2]
    exact ⟨rfl, bstep L1 L1.size hb4⟩
  | false =>
    rw [hk] at HI
    have HR : Hid (rElementNumber p x = 0 ∧ cElementNumber p x = 1) := Lib.hid ⟨if_neg (by rw [hk]; simp), if_neg (by rw [hk]; simp)⟩
    clear h0 h0' h1' hO hW hJ hB BX m0 HP hl HX
    go_enter Try.func38, Try.ntmps38
    go_wp2_with (fail)
    clear hW0
    refine HI.out.mono ?_; rintro e w1 ⟨rfl, hb1⟩
    have L1 := bstep b0 b0.size hb1
    obtain ⟨bl1, z0, z1, z2⟩ := (HBX.out.below hb1).c3
    go_wp2_with (fail)
    go_ret2
    rw [HR.out.1, HR.out.2]
    exact ⟨rfl, L1⟩
set_option maxRecDepth 100000 in
set_option maxHeartbeats 2000000 in
theorem sElementAt_ok (v0 : Value) (p : Pres) (k : Int) (w : World) (h0 : spPres.rd w v0 p) (s0 : spPres.sz p ≤ 1048576) : Calls Try.prog 40 #[v0, .int .i64 k] w (MadeC spI (rElementAt p k) (cElementAt p k) w) := by
  have h0' := h0
  obtain ⟨A0, c0, A1, c1, A2, c2, rfl, ⟨hO, hW, hJ⟩, m0, -, -⟩ := pres_open h0
  have b0 : Below w.heap.size w (w.alloc (.cells #[.slice A0 p.O.length c0, .slice A1 p.W.length c1, .slice A2 p.J.length c2] 29)) := by go_grown
  have BX := Blk.new w [.slice A0 p.O.length c0, .slice A1 p.W.length c1, .slice A2 p.J.length c2] 29
  generalize hW0 : w.alloc (.cells #[.slice A0 p.O.length c0, .slice A1 p.W.length c1, .slice A2 p.J.length c2] 29) = W0 at *
  have HBX := Lib.hid BX
  obtain ⟨bl, y0, y1, y2⟩ := BX.c3
  have HI := Lib.hid (sGroup_any _ p W0 (spPres.rd_below h0' b0))
  have HO : Hid (∀ W', Below w.heap.size w W' → RdI W' A0 p.O) := Lib.hid fun W' hb => hO.below' hb
  cases hk : p.con with
  | true =>
    rw [hk] at HI
    obtain ⟨V, C⟩ := Pres.con_Con hk
    have hsb := szM_bd V 0
    have HOR : Hid (∀ W', Below w.heap.size w W' → Calls Try.prog 82 #[.agg #[.slice A0 p.O.length c0, .slice A1 p.W.length c1, .slice A2 p.J.length c2]] W' (fun e w' => e = .returned (.int .i64 (Num.szL p.L)) ∧ Below W'.heap.size W' w')) := Lib.hid fun W' hb => by
      rw [V.lw, V.lj]
      exact sOrder_any V W' (HO.out W' hb)
    have hws : IntKind.i64.wrap (Num.szL p.L - 1) = Num.szL p.L - 1 := IntWalk.i64_in _ (by have h : Num.szL p.L = Num.szL (Num.tlL p.O p.W p.J 0) := rfl; omega)
    by_cases hr : 0 ≤ k ∧ k < Num.szL p.L
    · have HR : Hid (rElementAt p k = Num.decL p.L k ∧ cElementAt p k = 0) := Lib.hid ⟨by unfold rElementAt; rw [if_pos hk, if_pos hr], by unfold cElementAt; rw [if_pos hk, if_pos hr]⟩
      have HM : Hid (∀ W', Below w.heap.size w W' → Calls Try.prog 83 #[.agg #[.slice A0 p.O.length c0, .slice A1 p.W.length c1, .slice A2 p.J.length c2], .int .i64 k] W' (VecO p.O (Num.decL p.L k) W')) := Lib.hid fun W' hb => by
        rw [V.lw, V.lj]
        exact sAtNum_any V W' k (HO.out W' hb) hr.1 hr.2
      have HLN := Lib.hid (Pres.vec_len V (Num.decL_El (V.ok 0) hr.1 hr.2).1)
      have HS : Hid (∀ W', Calls Try.prog 71 #[.int .i64 k, .int .i64 0, .int .i64 (Num.szL p.L - 1)] W' fun e w' => e = .returned (.bool true) ∧ W' = w') := Lib.hid fun W' => sIn_yes k _ _ W' hr.1 (by omega)
      unfold VecO at HM
      generalize Num.szL p.L = s at *
      generalize Num.decL p.L k = z at *
      clear h0 h0' hO hW hJ BX m0 HO V C
      go_enter Try.func40, Try.ntmps40
      go_wp2_with (fail)
      clear hW0
      refine HI.out.mono ?_; rintro e w1 ⟨rfl, hb1⟩
      have L1 := bstep b0 b0.size hb1
      obtain ⟨bl1, z0, z1, z2⟩ := (HBX.out.below hb1).c3
      have HO1 := Lib.hid (HOR.out w1 L1)
      clear HI y0 y1 y2
      go_wp2_with (fail)
      refine HO1.out.mono ?_; rintro e w2 ⟨rfl, hb2⟩
      have L2 := bstep L1 L1.size hb2
      obtain ⟨bl2, u0, u1, u2⟩ := ((HBX.out.below hb1).below hb2).c3
      have HM1 := Lib.hid (HM.out w2 L2)
      go_wp2_with (fail)
      refine (HS.out _).mono ?_; rintro e w3 ⟨rfl, rfl⟩
      go_wp2_with (fail)
      refine HM1.out.mono ?_; rintro e w4 ⟨A', c', rfl, ow, hb4⟩
      go_wp2_with (fail)
      go_ret2
      rw [HR.out.1, HR.out.2]
      exact MadeC.list (ow.base_ L2.size) HLN.out (bstep L2 L2.size hb4)
    · have HR : Hid (rElementAt p k = [] ∧ cElementAt p k = 2) := Lib.hid ⟨by unfold rElementAt; rw [if_pos hk, if_neg hr], by unfold cElementAt; rw [if_pos hk, if_neg hr]⟩
      have HS : Hid (∀ W', Calls Try.prog 71 #[.int .i64 k, .int .i64 0, .int .i64 (Num.szL p.L - 1)] W' fun e w' => e = .returned (.bool false) ∧ W' = w') := Lib.hid fun W' => sIn_no k _ _ W' (by omega)
      generalize Num.szL p.L = s at *
      clear h0 h0' hO hW hJ BX m0 HO V C
      go_enter Try.func40, Try.ntmps40
      go_wp2_with (fail)
      clear hW0
      refine HI.out.mono ?_; rintro e w1 ⟨rfl, hb1⟩
      have L1 := bstep b0 b0.size hb1
      obtain ⟨bl1, z0, z1, z2⟩ := (HBX.out.below hb1).c3
      have HO1 := Lib.hid (HOR.out w1 L1)
      clear HI y0 y1 y2
      go_wp2_with (fail)
      refine HO1.out.mono ?_; rintro e w2 ⟨rfl, hb2⟩
      have L2 := bstep L1 L1.size hb2
      go_wp2_with (fail)
      refine (HS.out _).mono ?_; rintro e w3 ⟨rfl, rfl⟩
      go_wp2_with (fail)
      go_ret2
      rw [HR.out.1, HR.out.2]
      exact MadeC.nilW L2
  | false =>
    rw [hk] at HI
    have HR : Hid (rElementAt p k = [] ∧ cElementAt p k = 1) := Lib.hid ⟨if_neg (by rw [hk]; simp), if_neg (by rw [hk]; simp)⟩
    clear h0 h0' hO hW hJ BX m0 HO
    go_enter Try.func40, Try.ntmps40
    go_wp2_with (fail)
    clear hW0
    refine HI.out.mono ?_; rintro e w1 ⟨rfl, hb1⟩
    have L1 := bstep b0 b0.size hb1
    obtain ⟨bl1, z0, z1, z2⟩ := (HBX.out.below hb1).c3
    go_wp2_with (fail)
    go_ret2
    rw [HR.out.1, HR.out.2]
    exact MadeC.nilW L1
set_option maxRecDepth 100000 in
set_option maxHeartbeats 2000000 in
theorem iElementAt_ok (v0 : Value) (p : Pres) (k : Int) (w : World) (h0 : PresC w v0 p) (s0 : spPres.sz p ≤ 1048576) : Calls Try.prog 41 #[v0, .int .i64 k] w (MadeC spI (rElementAt p k) (cElementAt p k) w) := by
  have h0' := h0
  obtain ⟨A0, c0, A1, c1, A2, c2, rfl, -, m0, -, -, -⟩ := h0
  have b0 : Below w.heap.size w (w.alloc (.cells #[.slice A0 p.O.length c0, .slice A1 p.W.length c1, .slice A2 p.J.length c2] 29)) := by go_grown
  generalize hW0 : w.alloc (.cells #[.slice A0 p.O.length c0, .slice A1 p.W.length c1, .slice A2 p.J.length c2] 29) = W0 at *
  have BX : Blk W0 w.heap.size [.slice A0 p.O.length c0, .slice A1 p.W.length c1, .slice A2 p.J.length c2] 29 := by rw [← hW0]; exact Blk.new w _ _
  have HC := Lib.hid (groupOf_any _ p W0 (h0'.below b0))
  obtain ⟨bl, y0, y1, y2⟩ := BX.c3
  clear h0' m0 BX
  cases hk : p.con with
  | true =>
    rw [hk] at HC
    obtain ⟨V, C⟩ := Pres.con_Con hk
    go_enter Try.func41, Try.ntmps41
    go_wp2_with (fail)
    clear hW0
    refine HC.out.mono ?_; rintro e w1 ⟨q, rfl, hb1, hT⟩
    obtain ⟨t, rfl, GS⟩ := hT trivial
    have bA : Below w1.heap.size w1 (w1.alloc (.cells #[.pointer (some ⟨t.tb, 0, none⟩)] 65)) := by go_grown
    have BN := Blk.new w1 [.pointer (some ⟨t.tb, 0, none⟩)] 65
    have L := bstep (bstep b0 b0.size hb1) (by have := b0.size; have := hb1.size; omega) bA
    have HG := Lib.hid (GS.below bA).G
    clear hT GS HC hb1 y0 y1 y2
    generalize hW2 : w1.alloc (.cells #[.pointer (some ⟨t.tb, 0, none⟩)] 65) = W2 at *
    have HBN := Lib.hid BN
    obtain ⟨nl, n0⟩ := BN.c1
    have HOR := Lib.hid (order_any HG.out)
    by_cases hneg : k < 0
    · have HR : Hid (rElementAt p k = [] ∧ cElementAt p k = 2) := Lib.hid ⟨by unfold rElementAt; rw [if_pos hk, if_neg (by omega)], by unfold cElementAt; rw [if_pos hk, if_neg (by omega)]⟩
      clear BN
      go_wp2_with (fail)
      go_ret2
      rw [HR.out.1, HR.out.2]
      exact MadeC.nilW L
    · by_cases hr : k < Num.szL p.L
      · have HR : Hid (rElementAt p k = Num.decL p.L k ∧ cElementAt p k = 0) := Lib.hid ⟨by unfold rElementAt; rw [if_pos hk, if_pos ⟨by omega, hr⟩], by unfold cElementAt; rw [if_pos hk, if_pos ⟨by omega, hr⟩]⟩
        obtain ⟨d1, d2⟩ := Num.decL_El (V.ok 0) (x := k) (by omega) hr
        have HV : Hid (∀ W', Below W2.heap.size W2 W' → Calls Try.prog 70 #[elV t.tb k] W' fun e w' => ∃ u, e = .returned u ∧ OwnI w' W'.heap.size u (Num.decL p.L k) ∧ Below W'.heap.size W' w') := Lib.hid fun W' hb => by
          have := vector_any (HG.out.below hb) (Num.decL p.L k) d1
          rwa [d2] at this
        have HLN := Lib.hid (el_len V d1)
        generalize Num.decL p.L k = z at *
        change k < Num.szL (Num.tlL p.O p.W p.J 0) at hr
        generalize Num.szL (Num.tlL p.O p.W p.J 0) = s at *
        have hge : ¬ s ≤ k := by omega
        clear BN V C d1 d2
        go_wp2_with (fail)
        refine HOR.out.mono ?_; rintro e w3 ⟨rfl, hb3⟩
        have L3 := bstep L L.size hb3
        obtain ⟨nl3, m0⟩ := (HBN.out.below hb3).c1
        have HV3 := Lib.hid (HV.out w3 hb3)
        go_wp2_with (fail)
        refine HV3.out.mono ?_; rintro e w4 ⟨u, rfl, own, hb4⟩
        go_wp2_with (fail)
        go_ret2
        rw [HR.out.1, HR.out.2]
        exact MadeC.list (own.base_ L3.size) HLN.out (bstep L3 L3.size hb4)
      · have HR : Hid (rElementAt p k = [] ∧ cElementAt p k = 2) := Lib.hid ⟨by unfold rElementAt; rw [if_pos hk, if_neg (by omega)], by unfold cElementAt; rw [if_pos hk, if_neg (by omega)]⟩
        change ¬ k < Num.szL (Num.tlL p.O p.W p.J 0) at hr
        generalize Num.szL (Num.tlL p.O p.W p.J 0) = s at *
        have hge : s ≤ k := by omega
        clear BN V C
        go_wp2_with (fail)
        refine HOR.out.mono ?_; rintro e w3 ⟨rfl, hb3⟩
        go_wp2_with (fail)
        go_ret2
        rw [HR.out.1, HR.out.2]
        exact MadeC.nilW (bstep L L.size hb3)
  | false =>
    rw [hk] at HC
    have HR : Hid (rElementAt p k = [] ∧ cElementAt p k = 1) := Lib.hid ⟨if_neg (by rw [hk]; simp), if_neg (by rw [hk]; simp)⟩
    go_enter Try.func41, Try.ntmps41
    go_wp2_with (fail)
    clear hW0
    refine HC.out.mono ?_; rintro e w1 ⟨q, rfl, hb1, -⟩
    have bA : Below w1.heap.size w1 (w1.alloc (.cells #[.pointer q] 65)) := by go_grown
    have L := bstep (bstep b0 b0.size hb1) (by have := b0.size; have := hb1.size; omega) bA
    go_wp2_with (fail)
    go_ret2
    rw [HR.out.1, HR.out.2]
    exact MadeC.nilW L
end Go.Proofs.Yteappjgdcbploaa
