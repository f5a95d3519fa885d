/- The list as the model builds it when a row is put in. -/
import Derived.Test.YtggkoihlmijacaaNumS
namespace Go.Proofs.Ytggkoihlmijacaa.Num
set_option linter.unusedVariables false
set_option linter.unusedSimpArgs false

/-- What has been laid behind j rows: v at its place. -/
def nx (E : List (List Int)) (pl : Nat) (v : List Int) (j : Nat) : List (List Int) := if j ≤ pl then E.take j else (putAt E pl v).take (j + 1)
theorem nx_zero (E : List (List Int)) (pl : Nat) (v : List Int) : nx E pl v 0 = [] := by simp [nx]
theorem nx_length {E : List (List Int)} {pl : Nat} {v : List Int} {j : Nat} (hp : pl ≤ E.length) (hj : j ≤ E.length) : (nx E pl v j).length = if j ≤ pl then j else j + 1 := by
  unfold nx
  split
  · rw [List.length_take]; omega
  · rw [List.length_take, putAt_length hp]; omega
theorem take_snoc {α : Type} (l : List α) (d : α) {j : Nat} (h : j < l.length) : l.take (j + 1) = l.take j ++ [l.getD j d] := by
  rw [List.take_succ_eq_append_getElem h, getD_lt _ _ h]
theorem nx_ahead {E : List (List Int)} {pl : Nat} {v : List Int} {j : Nat} (hp : pl ≤ E.length) (hj : j < pl) : nx E pl v (j + 1) = nx E pl v j ++ [E.getD j []] := by
  unfold nx
  rw [if_pos (by omega), if_pos (by omega), take_snoc E [] (by omega)]
theorem nx_at {E : List (List Int)} {pl : Nat} {v : List Int} (hp : pl < E.length) : nx E pl v (pl + 1) = (nx E pl v pl ++ [v]) ++ [E.getD pl []] := by
  unfold nx
  have h1 : (putAt E pl v).length = E.length + 1 := putAt_length (by omega)
  rw [if_neg (by omega), if_pos (by omega), take_snoc _ [] (by omega : pl + 1 < (putAt E pl v).length), take_snoc _ [] (by omega : pl < (putAt E pl v).length), putAt_get (by omega) pl, putAt_get (by omega) (pl + 1), if_neg (by omega), if_pos rfl, if_neg (by omega), if_neg (by omega)]
  have e : (putAt E pl v).take pl = E.take pl := by
    unfold putAt
    rw [List.take_append_of_le_length (by rw [List.length_take]; omega), List.take_take, Nat.min_self]
  rw [e, Nat.add_sub_cancel]
theorem nx_behind {E : List (List Int)} {pl : Nat} {v : List Int} {j : Nat} (hp : pl ≤ E.length) (hj : pl < j) (hl : j < E.length) : nx E pl v (j + 1) = nx E pl v j ++ [E.getD j []] := by
  unfold nx
  have h1 : (putAt E pl v).length = E.length + 1 := putAt_length hp
  rw [if_neg (by omega), if_neg (by omega), take_snoc _ [] (by omega : j + 1 < (putAt E pl v).length), putAt_get hp, if_neg (by omega), if_neg (by omega)]
  rfl
theorem nx_end {E : List (List Int)} {pl : Nat} {v : List Int} (hp : pl < E.length) : nx E pl v E.length = putAt E pl v := by
  unfold nx
  rw [if_neg (by omega), List.take_of_length_le (by rw [putAt_length (by omega)]; omega)]
theorem nx_end' {E : List (List Int)} {v : List Int} : nx E E.length v E.length ++ [v] = putAt E E.length v := by
  unfold nx putAt
  rw [if_pos (Nat.le_refl _), List.drop_length]
theorem addV_c {p c : Int} {v w : List Int} : addV p c v w = addV p (c % p) v w := tab_congr fun i _ => by
  unfold addF
  apply mod_eq
  rw [Int.emod_def]
  exact ⟨c / p * w.getD i 0, by grind⟩
theorem sub_mod_neg (p x : Int) : (p - x) % p = neg p x := by
  unfold neg
  apply mod_eq
  exact ⟨1, by omega⟩
theorem cut_sub {p : Int} {v r : List Int} {k : Nat} : addV p (p - r.getD k 0) r v = cut p v k r := by
  unfold cut
  rw [addV_c, sub_mod_neg]
/-- A row in reduced form leads elsewhere. -/
theorem Ech.lead_ne {p : Int} {n : Nat} {e : List (List Int)} (h : Ech p n e) {y : List Int} (h0 : ∀ i, i < e.length → y.getD (lead (e.getD i [])) 0 = 0) {k : Nat} (hk : y.getD k 0 ≠ 0) {j : Nat} (hj : j < e.length) : lead (e.getD j []) ≠ k := fun e1 => hk (e1 ▸ h0 j hj)
end Go.Proofs.Ytggkoihlmijacaa.Num
