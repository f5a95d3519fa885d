/- Plain arithmetic without Go: the levels of a presentation, its vectors as elements of tails, the four conditions and the first fault. -/
import Derived.Test.YteappjgdcbploaaNumTw
namespace Go.Proofs.Yteappjgdcbploaa.Num
set_option linter.unusedVariables false
set_option linter.unusedSimpArgs false

/-- The level of a presentation at an index. -/
def lvA (O : List Int) (W : List (List Int)) (J : List (List (List Int))) (i : Nat) : Lv := ⟨O.getD i 0, (W.getD i []).drop (i + 1), (J.getD i []).map (·.drop (i + 1))⟩
def lvF (O : List Int) (W : List (List Int)) (J : List (List (List Int))) : Nat → Nat → List Lv
  | 0, _ => []
  | k + 1, i => lvA O W J i :: lvF O W J k (i + 1)
/-- The levels of the tail at an index. -/
def tlL (O : List Int) (W : List (List Int)) (J : List (List (List Int))) (i : Nat) : List Lv := lvF O W J (O.length - i) i
section
variable {O : List Int} {W : List (List Int)} {J : List (List (List Int))}
theorem tlL_step {i : Nat} (h : i < O.length) : tlL O W J i = lvA O W J i :: tlL O W J (i + 1) := by
  unfold tlL
  rw [show O.length - i = (O.length - (i + 1)) + 1 by omega]
  rfl
theorem tlL_end {i : Nat} (h : O.length ≤ i) : tlL O W J i = [] := by
  unfold tlL
  rw [show O.length - i = 0 by omega]
  rfl
theorem lvF_len : ∀ (k i : Nat), (lvF O W J k i).length = k
  | 0, _ => rfl
  | k + 1, i => by rw [lvF, List.length_cons, lvF_len k]
theorem tlL_len (i : Nat) : (tlL O W J i).length = O.length - i := lvF_len _ _
theorem lvF_get : ∀ (k i j : Nat), j < k → (lvF O W J k i)[j]? = some (lvA O W J (i + j))
  | 0, _, j, h => by omega
  | k + 1, i, 0, _ => rfl
  | k + 1, i, j + 1, h => by
    rw [lvF, List.getElem?_cons_succ, lvF_get k (i + 1) j (by omega), show i + 1 + j = i + (j + 1) by omega]
theorem tlL_get {i j : Nat} (h : i + j < O.length) : (tlL O W J i)[j]? = some (lvA O W J (i + j)) := lvF_get _ _ _ (by omega)
theorem El.drop_of : ∀ (d i : Nat) {v : List Int}, O.length - i = d → v.length = O.length → (∀ j, i ≤ j → j < O.length → 0 ≤ v.getD j 0 ∧ v.getD j 0 < O.getD j 0) → El (tlL O W J i) (v.drop i)
  | 0, i, v, hd, hl, _ => by
    rw [tlL_end (by omega), List.drop_of_length_le (by omega)]
    rfl
  | d + 1, i, v, hd, hl, h => by
    rw [tlL_step (by omega), List.drop_eq_getElem_cons (by omega)]
    refine ⟨_, _, rfl, ?_, ?_, El.drop_of d (i + 1) (by omega) hl fun j hj => h j (by omega)⟩
    · have := (h i (by omega) (by omega)).1
      simpa [show i < v.length by omega] using this
    · have := (h i (by omega) (by omega)).2
      show v[i] < O.getD i 0
      rw [List.getD_eq_getElem?_getD, List.getElem?_eq_getElem (by omega)] at this
      exact this
theorem El.fit {v : List Int} {z i : Nat} (h : fitB O v z = true) : El (tlL O W J i) (v.drop i) := by
  obtain ⟨h1, h2⟩ := fitB_out h
  exact El.drop_of _ i rfl h1 fun j _ hj => ⟨(h2 j (by omega)).1, (h2 j (by omega)).2.1⟩
theorem El.at : ∀ (d i : Nat) {a : List Int}, O.length - i = d → El (tlL O W J i) a → ∀ k, i + k < O.length → 0 ≤ a.getD k 0 ∧ a.getD k 0 < O.getD (i + k) 0
  | 0, i, a, hd, _, k, hk => by omega
  | d + 1, i, a, hd, h, k, hk => by
    rw [tlL_step (by omega)] at h
    obtain ⟨x, a', rfl, x0, x1, ha⟩ := h
    cases k with
    | zero => exact ⟨x0, x1⟩
    | succ k =>
      have := El.at d (i + 1) (by omega) ha k (by omega)
      rw [show i + (k + 1) = i + 1 + k by omega]
      simpa using this
theorem OkL.of (h : preB O W J = true) : ∀ (d i : Nat), O.length - i = d → OkL (tlL O W J i)
  | 0, i, hd => by rw [tlL_end (by omega)]; trivial
  | d + 1, i, hd => by
    obtain ⟨ho, hw, hj, hW, hJ⟩ := preB_out h
    obtain ⟨h6, hg, _⟩ := ordC_zero ho
    rw [tlL_step (by omega)]
    obtain ⟨c1, c2⟩ := conB_out (hJ i (by omega))
    refine ⟨(gpsB_at hg (by omega)).1, El.fit (hW i (by omega)), ?_, fun c hc => ?_, OkL.of h d (i + 1) (by omega)⟩
    · show ((J.getD i []).map _).length = _
      rw [List.length_map, tlL_len, c1]; omega
    · obtain ⟨c', hc', rfl⟩ := List.mem_map.mp hc
      obtain ⟨k, hk, rfl⟩ := List.getElem_of_mem hc'
      have := c2 k hk
      rw [List.getD_eq_getElem?_getD, List.getElem?_eq_getElem hk] at this
      exact El.fit this
end

/-- Zeros ahead of a vector. -/
theorem ev_zeros {α : Type} (m : α → α → α) (e : α) : ∀ (k : Nat) (x : List Int) (cs : List α), ev m e cs (zer k ++ x) = ev m e (cs.drop k) x
  | 0, x, cs => rfl
  | k + 1, x, [] => by rw [List.drop_nil]; cases x <;> rfl
  | k + 1, x, c :: cs => ev_zeros m e k x cs
theorem drop_pad {v : List Int} {i z : Nat} (hz : ∀ j, j < z → v.getD j 0 = 0) (h : z ≤ v.length) (hi : i ≤ z) : v.drop i = zer (z - i) ++ v.drop z := by
  apply List.ext_getElem?
  intro j
  by_cases hj : j < z - i
  · rw [List.getElem?_drop, List.getElem?_append_left (by simpa using hj)]
    have := hz (i + j) (by omega)
    rw [List.getD_eq_getElem?_getD, List.getElem?_eq_getElem (by omega)] at this
    rw [List.getElem?_eq_getElem (by omega)]
    unfold zer
    rw [List.getElem?_replicate, if_pos hj]
    exact congrArg some this
  · rw [List.getElem?_drop, List.getElem?_append_right (by simp; omega), List.getElem?_drop]
    congr 1
    simp
    omega

/-! ### The four conditions at a level -/
def lv0 : Lv := ⟨0, [], []⟩
def okP (L : Lv) (Ls : List Lv) (j : Nat) : Bool := decide (pw (mulL Ls) (zer Ls.length) (L.cj.getD j []) (Ls.getD j lv0).o.toNat = imgL L Ls (zer (j + 1) ++ (Ls.getD j lv0).w))
def okC (L : Lv) (Ls : List Lv) (j k : Nat) : Bool := decide (mulL Ls (L.cj.getD k []) (L.cj.getD j []) = mulL Ls (L.cj.getD j []) (imgL L Ls (zer (j + 1) ++ (Ls.getD j lv0).cj.getD (k - j - 1) [])))
def okF (L : Lv) (Ls : List Lv) : Bool := decide (imgL L Ls L.w = L.w)
def okI (L : Lv) (Ls : List Lv) (j : Nat) : Bool := decide (mulL Ls L.w (iter (imgL L Ls) L.o.toNat ((gensL Ls).getD j [])) = mulL Ls ((gensL Ls).getD j []) L.w)
theorem rel_of {α : Type} (m : α → α → α) (e : α) : ∀ (Ls : List Lv) (cs : List α), cs.length = Ls.length →
    (∀ j, j < Ls.length → pw m e (cs.getD j e) (Ls.getD j lv0).o.toNat = ev m e cs (zer (j + 1) ++ (Ls.getD j lv0).w)) →
    (∀ j k, j < k → k < Ls.length → m (cs.getD k e) (cs.getD j e) = m (cs.getD j e) (ev m e cs (zer (j + 1) ++ (Ls.getD j lv0).cj.getD (k - j - 1) []))) → RelL m e Ls cs
  | [], cs, hl, _, _ => by cases cs with | nil => rfl | cons c cs => simp at hl
  | L :: Ls, [], hl, _, _ => by simp at hl
  | L :: Ls, c :: cs, hl, hP, hC => by
    refine ⟨c, cs, rfl, rel_of m e Ls cs (by simpa using hl) (fun j hj => ?_) (fun j k hjk hk => ?_), ?_, fun k hk => ?_⟩
    · have := hP (j + 1) (by simpa using hj)
      simp only [List.getD_cons_succ] at this
      rw [this, ev_zeros, ev_zeros]
      rfl
    · have := hC (j + 1) (k + 1) (by omega) (by simpa using hk)
      simp only [List.getD_cons_succ] at this
      rw [show k + 1 - (j + 1) - 1 = k - j - 1 by omega] at this
      rw [this, ev_zeros, ev_zeros]
      rfl
    · have := hP 0 (by simp)
      rw [ev_zeros] at this
      simpa using this
    · have := hC 0 (k + 1) (by omega) (by simpa using hk)
      rw [ev_zeros] at this
      simpa using this
theorem getD_out {α : Type} (cs : List α) {k : Nat} (a b : α) (h : k < cs.length) : cs.getD k a = cs.getD k b := by
  simp [List.getD_eq_getElem?_getD, List.getElem?_eq_getElem h]
theorem NoFault.of {L : Lv} {Ls : List Lv} (hL : L.cj.length = Ls.length) (h1 : ∀ j, j < Ls.length → okP L Ls j = true) (h2 : ∀ j k, j < k → k < Ls.length → okC L Ls j k = true)
    (h3 : okF L Ls = true) (h4 : ∀ j, j < Ls.length → okI L Ls j = true) : NoFault L Ls := by
  refine ⟨rel_of _ _ _ _ hL (fun j hj => ?_) (fun j k hjk hk => ?_), of_decide_eq_true h3, fun g hg => ?_⟩
  · have := of_decide_eq_true (h1 j hj)
    rw [getD_out L.cj _ [] (by omega)]
    exact this
  · have := of_decide_eq_true (h2 j k hjk hk)
    rw [getD_out L.cj (zer Ls.length) [] (by omega), getD_out L.cj (k := j) (zer Ls.length) [] (by omega)]
    exact this
  · obtain ⟨j, hj, rfl⟩ := List.getElem_of_mem hg
    rw [gensL_len] at hj
    have := of_decide_eq_true (h4 j hj)
    rw [List.getD_eq_getElem?_getD, List.getElem?_eq_getElem (by rw [gensL_len]; exact hj)] at this
    exact this

/-! ### The first fault -/
/-- The first index from a on, of n, at which a test fails. -/
def fst? (p : Nat → Bool) : Nat → Nat → Option Nat
  | _, 0 => none
  | a, n + 1 => if p a = false then some a else fst? p (a + 1) n
theorem fst?_none {p : Nat → Bool} : ∀ (n a : Nat), (∀ j, a ≤ j → j < a + n → p j = true) → fst? p a n = none
  | 0, _, _ => rfl
  | n + 1, a, h => by
    rw [fst?, h a (by omega) (by omega), if_neg (by simp)]
    exact fst?_none n (a + 1) fun j h1 h2 => h j (by omega) (by omega)
theorem fst?_some {p : Nat → Bool} : ∀ (n a j : Nat), a ≤ j → j < a + n → p j = false → (∀ i, a ≤ i → i < j → p i = true) → fst? p a n = some j
  | 0, a, j, h1, h2, _, _ => by omega
  | n + 1, a, j, h1, h2, hj, h => by
    rw [fst?]
    by_cases he : a = j
    · subst he; rw [if_pos hj]
    · rw [h a (by omega) (by omega), if_neg (by simp)]
      exact fst?_some n (a + 1) j (by omega) (by omega) hj fun i h3 h4 => h i (by omega) h4
theorem fst?_all {p : Nat → Bool} : ∀ (n a : Nat), fst? p a n = none → ∀ j, a ≤ j → j < a + n → p j = true
  | 0, a, _, j, h1, h2 => by omega
  | n + 1, a, h, j, h1, h2 => by
    rw [fst?] at h
    cases hp : p a with
    | false => rw [hp, if_pos rfl] at h; cases h
    | true =>
      rw [hp, if_neg (by simp)] at h
      by_cases he : a = j
      · subst he; exact hp
      · exact fst?_all n (a + 1) h j (by omega) (by omega)
structure Flt where
  k : Int
  l : Int
  f : Int
  s : Int
deriving DecidableEq
/-- The fault of a level. -/
def fltL (L : Lv) (Ls : List Lv) (i : Nat) : Flt :=
  match fst? (okP L Ls) 0 Ls.length with
  | some j => ⟨1, i, (i : Int) + 1 + j, 0⟩
  | none => match fst? (fun j => (fst? (okC L Ls j) (j + 1) (Ls.length - (j + 1))).isNone) 0 Ls.length with
    | some j => ⟨2, i, (i : Int) + 1 + j, (i : Int) + 1 + ((fst? (okC L Ls j) (j + 1) (Ls.length - (j + 1))).getD 0 : Nat)⟩
    | none => if okF L Ls = false then ⟨3, i, 0, 0⟩ else
      match fst? (okI L Ls) 0 Ls.length with
      | some j => ⟨4, i, (i : Int) + 1 + j, 0⟩
      | none => ⟨0, 0, 0, 0⟩
def allC (L : Lv) (Ls : List Lv) : Prop := ∀ j k, j < k → k < Ls.length → okC L Ls j k = true
theorem allC_none {L : Lv} {Ls : List Lv} (h2 : allC L Ls) (j : Nat) : (fst? (okC L Ls j) (j + 1) (Ls.length - (j + 1))).isNone = true := by
  rw [fst?_none (p := okC L Ls j) (Ls.length - (j + 1)) (j + 1) fun k' h3 h4 => h2 j k' (by omega) (by omega)]
  rfl
theorem fltL_P {L : Lv} {Ls : List Lv} {i j : Nat} (hj : j < Ls.length) (hb : okP L Ls j = false) (h : ∀ k, k < j → okP L Ls k = true) : fltL L Ls i = ⟨1, i, (i : Int) + 1 + j, 0⟩ := by
  unfold fltL
  rw [fst?_some Ls.length 0 j (by omega) (by omega) hb fun k _ hk => h k hk]
theorem fltL_C {L : Lv} {Ls : List Lv} {i j k : Nat} (h1 : ∀ j, j < Ls.length → okP L Ls j = true) (hjk : j < k) (hk : k < Ls.length) (hb : okC L Ls j k = false) (h : ∀ k', j < k' → k' < k → okC L Ls j k' = true)
    (h2 : ∀ j', j' < j → ∀ k', j' < k' → k' < Ls.length → okC L Ls j' k' = true) : fltL L Ls i = ⟨2, i, (i : Int) + 1 + j, (i : Int) + 1 + k⟩ := by
  have e : fst? (okC L Ls j) (j + 1) (Ls.length - (j + 1)) = some k := fst?_some _ _ k (by omega) (by omega) hb fun k' h3 h4 => h k' (by omega) h4
  unfold fltL
  rw [fst?_none _ _ fun j _ hj => h1 j (by omega)]
  have hn : ∀ j', j' < j → (fst? (okC L Ls j') (j' + 1) (Ls.length - (j' + 1))).isNone = true := fun j' hj' => by
    rw [fst?_none (p := okC L Ls j') (Ls.length - (j' + 1)) (j' + 1) fun k' h3 h4 => h2 j' hj' k' (by omega) (by omega)]
    rfl
  rw [fst?_some Ls.length 0 j (by omega) (by omega) (by simp [e]) fun j' _ hj' => hn j' hj']
  simp [e]
theorem fltL_F {L : Lv} {Ls : List Lv} {i : Nat} (h1 : ∀ j, j < Ls.length → okP L Ls j = true) (h2 : allC L Ls) (hb : okF L Ls = false) : fltL L Ls i = ⟨3, i, 0, 0⟩ := by
  unfold fltL
  rw [fst?_none _ _ fun j _ hj => h1 j (by omega)]
  rw [fst?_none _ _ fun j _ hj => allC_none h2 j]
  simp [hb]
theorem fltL_I {L : Lv} {Ls : List Lv} {i j : Nat} (h1 : ∀ j, j < Ls.length → okP L Ls j = true) (h2 : allC L Ls) (h3 : okF L Ls = true) (hj : j < Ls.length) (hb : okI L Ls j = false) (h : ∀ k, k < j → okI L Ls k = true) :
    fltL L Ls i = ⟨4, i, (i : Int) + 1 + j, 0⟩ := by
  unfold fltL
  rw [fst?_none _ _ fun j _ hj => h1 j (by omega)]
  rw [fst?_none _ _ fun j _ hj => allC_none h2 j]
  rw [fst?_some Ls.length 0 j (by omega) (by omega) hb fun k _ hk => h k hk]
  simp [h3]
theorem fltL_0 {L : Lv} {Ls : List Lv} {i : Nat} (h1 : ∀ j, j < Ls.length → okP L Ls j = true) (h2 : allC L Ls) (h3 : okF L Ls = true) (h : ∀ j, j < Ls.length → okI L Ls j = true) : fltL L Ls i = ⟨0, 0, 0, 0⟩ := by
  unfold fltL
  rw [fst?_none _ _ fun j _ hj => h1 j (by omega)]
  rw [fst?_none _ _ fun j _ hj => allC_none h2 j]
  rw [fst?_none _ _ fun j _ hj => h j (by omega)]
  simp [h3]
/-- The first fault of the tails below an index. -/
def fltF (O : List Int) (W : List (List Int)) (J : List (List (List Int))) : Nat → Flt
  | 0 => ⟨0, 0, 0, 0⟩
  | i + 1 => if (fltL (lvA O W J i) (tlL O W J (i + 1)) i).k = 0 then fltF O W J i else fltL (lvA O W J i) (tlL O W J (i + 1)) i
def fltP (O : List Int) (W : List (List Int)) (J : List (List (List Int))) : Flt := fltF O W J O.length
end Go.Proofs.Yteappjgdcbploaa.Num
