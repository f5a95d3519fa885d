/- Slices of int64: what reads as a list; the comparisons and marks of the laws. -/
import Derived.Test.YtggkoihlmijacaaL01A
import Derived.Deep.QuietTactic
import Derived.BigQuiet
import Derived.Lib.Hide
import Derived.Handy
namespace Go.Proofs.Ytggkoihlmijacaa
open Go.RowKit
set_option linter.unusedVariables false
set_option linter.unusedSimpArgs false

/-- The cells that a slice of int64 leads to hold these numbers. -/
def RdI (w : World) (A : Option Addr) (xs : List Int) : Prop :=
  ∀ j, j < xs.length → ∃ g o, A = some ⟨g, o, none⟩ ∧ g < w.heap.size ∧ w.cell? ⟨g, o + j, none⟩ = some (.int .i64 (xs.getD j 0))
theorem RdI.nil (w : World) (A : Option Addr) : RdI w A [] := fun j h => by simp at h
theorem RdI.below {w w' : World} {A : Option Addr} {xs : List Int} {B : Nat} (h : RdI w A xs) (hb : Below B w w') (hB : ∀ g o, A = some ⟨g, o, none⟩ → g < B) : RdI w' A xs := by
  intro j hj
  obtain ⟨g, o, rfl, hg, hc⟩ := h j hj
  exact ⟨g, o, rfl, by have := hb.size; omega, by rw [hb.cell (hB g o rfl)]; exact hc⟩
theorem RdI.below' {w w' : World} {A : Option Addr} {xs : List Int} (h : RdI w A xs) (hb : Below w.heap.size w w') : RdI w' A xs := by
  intro j hj
  obtain ⟨g, o, rfl, hg, hc⟩ := h j hj
  exact ⟨g, o, rfl, by have := hb.size; omega, by rw [hb.cell hg]; exact hc⟩
theorem RdI.grown {w w' : World} {A : Option Addr} {xs : List Int} {row : Option Nat} (h : RdI w A xs) (hg : w.grownBy w' row) (hne : ∀ g o, A = some ⟨g, o, none⟩ → some g ≠ row) : RdI w' A xs := by
  intro j hj
  obtain ⟨g, o, rfl, hl, hc⟩ := h j hj
  exact ⟨g, o, rfl, by have := hg.size; omega, hg.cell hc (hne g o rfl)⟩
/-- A row of the call's own reads as its list. -/
theorem RdI.own {w : World} {base : Nat} {e : TypeId} {A : Option Addr} {n cap : Nat} {xs : List Int} (h : w.ownsRow base e 1 (.slice A n cap) n (xs.map (Value.int .i64))) : RdI w A xs := by
  intro j hj
  have hn : xs.length = n := by have := h.1; simpa using this
  rcases h.2 with ⟨hv, h0⟩ | ⟨g, c, cur, hv, hb, hg, h1⟩
  · omega
  · simp only [Value.slice.injEq] at hv
    obtain ⟨rfl, -, rfl⟩ := hv
    have hc := h.cellAt j (by omega)
    refine ⟨g, 0, rfl, ?_, ?_⟩
    · exact (h.lt g rfl).2
    · rw [Nat.zero_add, hc, List.getElem?_map]
      simp [hj]
theorem World.grownBy.trans_ {a b c : World} {row : Option Nat} (h : a.grownBy b row) (k : b.grownBy c row) : a.grownBy c row :=
  ⟨k.os.trans h.os, k.tape.trans h.tape, k.output.trans h.output, Nat.le_trans h.size k.size, fun i hi hr => (k.block i (by have := h.size; omega) hr).trans (h.block i hi hr)⟩

set_option maxHeartbeats 400000 in
theorem eqI_yes (A B : Option Addr) (c d : Nat) (xs : List Int) (w : World) (hA : RdI w A xs) (hB : RdI w B xs) (hl : xs.length ≤ 1000000000) :
    Calls Try.prog 21 #[.slice A xs.length c, .slice B xs.length d] w fun e w' => e = .returned (.bool true) ∧ Below w.heap.size w w' := by
  go_enter Try.func21, Try.ntmps21
  go_wp2
  go_loopw [5] (fun s5 wr => ∃ k : Nat, k ≤ xs.length ∧ s5 = .int .i64 k ∧ Below w.heap.size w wr) (fun s5 _ => xs.length - (intOf s5).toNat)
  case atStart => exact ⟨0, by omega, rfl, Below.refl _ _⟩
  case round =>
    obtain ⟨k, hk, rfl, hbel⟩ := hrel
    by_cases hlt : k < xs.length
    · obtain ⟨g, o, rfl, hg, hc⟩ := (hA.below' hbel) k hlt
      obtain ⟨g', o', rfl, hg', hc'⟩ := (hB.below' hbel) k hlt
      have i0 : (0 : Int) ≤ (k : Int) := by omega
      have i1 : (k : Int) < (xs.length : Int) := by omega
      go_wp2
      go_quiet (fail)
      go_wp2
      exact ⟨⟨k + 1, by omega, by go_num, below_drewN hbel _⟩, by simp [intOf]; omega⟩
    · have hge : ¬ ((k : Int) < (xs.length : Int)) := by omega
      go_wp2
      go_ret
      exact ⟨rfl, hbel⟩

/-- The numbers that the laws write: k, k + 1, .. -/
def marks (k : Int) (n : Nat) : List Int := (List.range n).map fun (i : Nat) => k + (i : Int)
theorem marks_length (k : Int) (n : Nat) : (marks k n).length = n := by simp [marks]
theorem marks_get (k : Int) (n j : Nat) (h : j < n) : (marks k n).getD j 0 = k + j := by simp [marks, h]
theorem marks_set (k : Int) (n m : Nat) (h : m < n) (l : List Value) (hl : l.length = n) (ht : l.take m = (marks k m).map (Value.int .i64)) :
    (l.set m (.int .i64 (k + m))).take (m + 1) = (marks k (m + 1)).map (Value.int .i64) := by
  rw [List.take_set, List.take_succ_eq_append_getElem (by omega), ht, marks, marks, List.range_succ]
  rw [List.set_append_right _ _ (by simp)]
  simp

set_option maxHeartbeats 400000 in
theorem markI_any (base T : Nat) (A : Option Addr) (n cap : Nat) (ys : List Value) (k : Int) (w : World) (h : w.ownsRow base T 1 (.slice A n cap) n ys) (hk0 : 0 ≤ k) (hk1 : k ≤ 1000000000000) (hn : n ≤ 1000000000) :
    Calls Try.prog 38 #[.slice A n cap, .int .i64 k] w fun e w' => e = .returned (.int .i64 (k + n)) ∧ w'.ownsRow base T 1 (.slice A n cap) n ((marks k n).map (Value.int .i64)) ∧ w.grownBy w' (Value.slice A n cap).ownBlock := by
  go_enter Try.func38, Try.ntmps38
  go_wp2
  go_loopw [1, 5] (fun s1 s5 wr => ∃ (m : Nat) (zs : List Value), m ≤ n ∧ s5 = .int .i64 m ∧ s1 = .int .i64 (k + m) ∧ wr.ownsRow base T 1 (.slice A n cap) n zs ∧ zs.take m = (marks k m).map (Value.int .i64) ∧ w.grownBy wr (Value.slice A n cap).ownBlock) (fun _ s5 _ => n - (intOf s5).toNat)
  case atStart => exact ⟨0, ys, by omega, rfl, by simp, h, by simp [marks], World.grownBy.refl _ _⟩
  case round =>
    obtain ⟨m, zs, hm, rfl, rfl, hown, htake, hgrow⟩ := hrel
    by_cases hlt : m < n
    · rcases hown.2 with ⟨hv, h0⟩ | ⟨g, c, cur, hv, hb, hg, h1⟩
      · omega
      · simp only [Value.slice.injEq] at hv
        obtain ⟨rfl, -, rfl⟩ := hv
        have hz : zs.length = n := by have := hown.1; simpa using this
        have hc := hown.cellAt m (by omega)
        obtain ⟨ov, hc2⟩ : ∃ ov, wr.cell? ⟨g, m, none⟩ = some ov := ⟨_, by rw [hc]; exact List.getElem?_eq_getElem (by omega)⟩
        have hf := hown.frozenAt m
        have i0 : (0 : Int) ≤ (m : Int) := by omega
        have i1 : (m : Int) < (n : Int) := by omega
        obtain ⟨hs1, hs2⟩ := hown.stored m (.int .i64 (k + m))
        have hset := marks_set k n m hlt zs hz htake
        have HS := Lib.hid hset
        clear hset htake hc hz h1 hg
        go_wp2
        exact ⟨⟨m + 1, _, by omega, by go_num, by (congr 1; omega), hs1, HS.out, World.grownBy.trans_ hgrow hs2⟩, by simp [intOf]; omega⟩
    · obtain rfl : m = n := by omega
      have hge : ¬ ((m : Int) < (m : Int)) := by omega
      have hz : zs.length = m := by have := hown.1; simpa using this
      have HZ : Hid (zs = (marks k m).map (Value.int .i64)) := Lib.hid (by rw [← htake, List.take_of_length_le (by omega)])
      clear htake hz
      go_wp2
      go_ret
      exact ⟨rfl, by rw [← HZ.out]; exact hown, hgrow⟩
set_option maxHeartbeats 400000 in
theorem heldI_any (A : Option Addr) (n cap : Nat) (k : Int) (w : World) (h : RdI w A (marks k n)) (hk0 : 0 ≤ k) (hk1 : k ≤ 1000000000000) (hn : n ≤ 1000000000) :
    Calls Try.prog 39 #[.slice A n cap, .int .i64 k] w fun e w' => e = .returned (.int .i64 (k + n)) ∧ w = w' := by
  go_enter Try.func39, Try.ntmps39
  go_wp2
  go_loop [1, 5] (fun s1 s5 => ∃ m : Nat, m ≤ n ∧ s5 = .int .i64 m ∧ s1 = .int .i64 (k + m)) (fun _ s5 => n - (intOf s5).toNat)
  case atStart => exact ⟨0, by omega, rfl, by simp⟩
  case round =>
    obtain ⟨m, hm, rfl, rfl⟩ := hrel
    by_cases hlt : m < n
    · obtain ⟨g, o, rfl, hg, hc⟩ := h m (by rw [marks_length]; exact hlt)
      rw [marks_get k n m hlt] at hc
      have i0 : (0 : Int) ≤ (m : Int) := by omega
      have i1 : (m : Int) < (n : Int) := by omega
      go_wp2
      exact ⟨⟨m + 1, by omega, by go_num, by (congr 1; omega)⟩, by simp [intOf]; omega⟩
    · obtain rfl : m = n := by omega
      have hge : ¬ ((m : Int) < (m : Int)) := by omega
      go_wp2
      go_ret
      exact ⟨rfl, rfl⟩
end Go.Proofs.Ytggkoihlmijacaa
