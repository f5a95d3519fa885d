/- L01A, L01C, L01B, Sl, Ow, Sm, Shape, ShapeL, ShII, Base, Blk, App, ShMat, Own, AppN, ShapeP, ShapeG, Bag in one. -/
import Derived.Test.YteappjgdcbploaaRows
import Derived.Test.YteappjgdcbploaaKA
import Derived.WalkKit
import Derived.WalkSpells
import Derived.WalkLawsBesides
import Derived.Deep.QuietTactic
import Derived.BigQuiet
import Derived.Lib.Hide
import Derived.Deep.RegionWith
import Derived.Deep.RegionHeld3
import Derived.Handy
import Derived.Maps.AppendAt
import Derived.ProofKit
import Derived.OpenShut
import Derived.Lib.SmallJoins
import Derived.Deep.Matrix
import Derived.OwnWalk
import Derived.OneCell
import Derived.Deep.AppendLies
import Derived.RegionTactic
import Derived.Deep.RegionLaw
namespace Go.Proofs.Yteappjgdcbploaa
open Go.RowKit
set_option linter.unusedVariables false
set_option linter.unusedSimpArgs false

theorem ret_int {k : IntKind} {a b : Int} (h : a = b) : Ending.returned (.int k a) = .returned (.int k b) := by rw [h]

theorem ret_int2 {k l : IntKind} {a b c d : Int} (h : a = b) (h' : c = d) : Ending.returned (.tuple #[.int k a, .int l c]) = .returned (.tuple #[.int k b, .int l d]) := by rw [h, h']
/-! ### impl -/
theorem isNumber_yes (n : Int) (w : World) (h1 : 1 ≤ n) (h2 : n ≤ 1000000) :
    Calls Try.prog 139 #[.int .i64 n] w fun e w' => e = .returned (.bool true) ∧ w = w' := by
  go_enter Try.func139, Try.ntmps139
  go_wp2
  go_ret
  exact ⟨rfl, rfl⟩
theorem isNumber_no (n : Int) (w : World) (h1 : n < 1 ∨ 1000000 < n) :
    Calls Try.prog 139 #[.int .i64 n] w fun e w' => e = .returned (.bool false) ∧ w = w' := by
  by_cases h : 1 ≤ n
  · have h2 : decide (n ≤ 1000000) = false := by simp; omega
    clear h1
    go_enter Try.func139, Try.ntmps139
    go_wp2
    go_ret
    exact ⟨rfl, rfl⟩
  · clear h1
    go_enter Try.func139, Try.ntmps139
    go_wp2
    go_ret
    exact ⟨rfl, rfl⟩
theorem isSigned_yes (n : Int) (w : World) (h1 : -1000000 ≤ n) (h2 : n ≤ 1000000) :
    Calls Try.prog 73 #[.int .i64 n] w fun e w' => e = .returned (.bool true) ∧ w = w' := by
  go_enter Try.func73, Try.ntmps73
  go_wp2
  go_ret
  exact ⟨rfl, rfl⟩
theorem isSigned_no (n : Int) (w : World) (h1 : n < -1000000 ∨ 1000000 < n) :
    Calls Try.prog 73 #[.int .i64 n] w fun e w' => e = .returned (.bool false) ∧ w = w' := by
  by_cases h : -1000000 ≤ n
  · have h2 : decide (n ≤ 1000000) = false := by simp; omega
    clear h1
    go_enter Try.func73, Try.ntmps73
    go_wp2
    go_ret
    exact ⟨rfl, rfl⟩
  · clear h1
    go_enter Try.func73, Try.ntmps73
    go_wp2
    go_ret
    exact ⟨rfl, rfl⟩
theorem gp_any (n : Int) (w : World) :
    Calls Try.prog 159 #[.int .i64 n] w fun e w' => e = .returned (.bool (Num.gp n)) ∧ w = w' := by
  by_cases h2 : n = 2
  · subst h2; go_enter Try.func159, Try.ntmps159; go_wp2; go_ret; exact ⟨rfl, rfl⟩
  by_cases h3 : n = 3
  · subst h3; go_enter Try.func159, Try.ntmps159; go_wp2; go_ret; exact ⟨rfl, rfl⟩
  by_cases h5 : n = 5
  · subst h5; go_enter Try.func159, Try.ntmps159; go_wp2; go_ret; exact ⟨rfl, rfl⟩
  by_cases h7 : n = 7
  · subst h7; go_enter Try.func159, Try.ntmps159; go_wp2; go_ret; exact ⟨rfl, rfl⟩
  rw [Num.gp_mk' h2 h3 h5 h7]
  have e2 : (n == 2) = false := by simpa using h2
  have e3 : (n == 3) = false := by simpa using h3
  have e5 : (n == 5) = false := by simpa using h5
  have e7 : (n == 7) = false := by simpa using h7
  clear h2 h3 h5 h7
  go_enter Try.func159, Try.ntmps159
  go_wp2
  go_ret
  exact ⟨rfl, rfl⟩
theorem gp_yes (n : Int) (w : World) (h : Num.gp n = true) :
    Calls Try.prog 159 #[.int .i64 n] w fun e w' => e = .returned (.bool true) ∧ w = w' := by
  have := gp_any n w; rwa [h] at this
theorem gp_no (n : Int) (w : World) (h : Num.gp n = false) :
    Calls Try.prog 159 #[.int .i64 n] w fun e w' => e = .returned (.bool false) ∧ w = w' := by
  have := gp_any n w; rwa [h] at this
theorem residueOf_any (a m : Int) (w : World) (h1 : 1 ≤ m) (h2 : m ≤ 1000000) :
    Calls Try.prog 113 #[.int .i64 a, .int .i64 m] w fun e w' => e = .returned (.agg #[.int .i64 (a % m), .int .i64 m]) ∧ Below w.heap.size w w' := by
  have ⟨b1, b2⟩ := Num.mod_bd a (m := m) (by omega)
  by_cases h : 0 ≤ a
  · go_enter Try.func113, Try.ntmps113
    go_wp2
    refine bodyPost_ret (v := .agg #[.int .i64 (a % m), .int .i64 m]) (by simp [results, Try.results113, go_sem]) rfl ⟨rfl, ?_⟩
    exact (Below.refl _ _).alloc (Nat.le_refl _) _
  · have ⟨b3, b4⟩ := Num.tmod_bd a (m := m) (by omega)
    by_cases h' : a.tmod m < 0
    · rw [Num.tmod_neg (by omega) h'] at *
      go_enter Try.func113, Try.ntmps113
      go_wp2
      refine bodyPost_ret (v := .agg #[.int .i64 (a.tmod m + m), .int .i64 m]) (by simp [results, Try.results113, go_sem]) rfl ⟨rfl, ?_⟩
      exact (Below.refl _ _).alloc (Nat.le_refl _) _
    · rw [Num.tmod_pos (by omega) (by omega)] at *
      go_enter Try.func113, Try.ntmps113
      go_wp2
      refine bodyPost_ret (v := .agg #[.int .i64 (a.tmod m), .int .i64 m]) (by simp [results, Try.results113, go_sem]) rfl ⟨rfl, ?_⟩
      exact (Below.refl _ _).alloc (Nat.le_refl _) _
end Go.Proofs.Yteappjgdcbploaa
namespace Go.Proofs.Yteappjgdcbploaa
open Go.RowKit
set_option linter.unusedVariables false
set_option linter.unusedSimpArgs false

theorem sIn_yes (n l h : Int) (w : World) (h1 : l ≤ n) (h2 : n ≤ h) :
    Calls Try.prog 71 #[.int .i64 n, .int .i64 l, .int .i64 h] w fun e w' => e = .returned (.bool true) ∧ w = w' := by
  go_enter Try.func71, Try.ntmps71
  go_wp2
  go_ret
  exact ⟨rfl, rfl⟩
theorem sIn_no (n l h : Int) (w : World) (h1 : n < l ∨ h < n) :
    Calls Try.prog 71 #[.int .i64 n, .int .i64 l, .int .i64 h] w fun e w' => e = .returned (.bool false) ∧ w = w' := by
  by_cases h3 : l ≤ n
  · have h2 : decide (n ≤ h) = false := by simp; omega
    clear h1
    go_enter Try.func71, Try.ntmps71
    go_wp2
    go_ret
    exact ⟨rfl, rfl⟩
  · clear h1
    go_enter Try.func71, Try.ntmps71
    go_wp2
    go_ret
    exact ⟨rfl, rfl⟩
theorem sPrime_any (n : Int) (w : World) :
    Calls Try.prog 121 #[.int .i64 n] w fun e w' => e = .returned (.bool (Num.gp n)) ∧ w = w' := by
  by_cases h2 : n = 2
  · subst h2; go_enter Try.func121, Try.ntmps121; go_wp2; go_ret; exact ⟨rfl, rfl⟩
  by_cases h3 : n = 3
  · subst h3; go_enter Try.func121, Try.ntmps121; go_wp2; go_ret; exact ⟨rfl, rfl⟩
  by_cases h5 : n = 5
  · subst h5; go_enter Try.func121, Try.ntmps121; go_wp2; go_ret; exact ⟨rfl, rfl⟩
  by_cases h7 : n = 7
  · subst h7; go_enter Try.func121, Try.ntmps121; go_wp2; go_ret; exact ⟨rfl, rfl⟩
  rw [Num.gp_mk' h2 h3 h5 h7]
  have e2 : (n == 2) = false := by simpa using h2
  have e3 : (n == 3) = false := by simpa using h3
  have e5 : (n == 5) = false := by simpa using h5
  have e7 : (n == 7) = false := by simpa using h7
  clear h2 h3 h5 h7
  go_enter Try.func121, Try.ntmps121
  go_wp2
  go_ret
  exact ⟨rfl, rfl⟩
theorem sPrime_yes (n : Int) (w : World) (h : Num.gp n = true) :
    Calls Try.prog 121 #[.int .i64 n] w fun e w' => e = .returned (.bool true) ∧ w = w' := by
  have := sPrime_any n w; rwa [h] at this
theorem sPrime_no (n : Int) (w : World) (h : Num.gp n = false) :
    Calls Try.prog 121 #[.int .i64 n] w fun e w' => e = .returned (.bool false) ∧ w = w' := by
  have := sPrime_any n w; rwa [h] at this
theorem sGcd_any (a b : Int) (w : World) (ha0 : 0 ≤ a) (ha1 : a ≤ 1000000) (hb0 : 0 ≤ b) (hb1 : b ≤ 1000000) :
    Calls Try.prog 91 #[.int .i64 a, .int .i64 b] w fun e w' => e = .returned (.int .i64 (Int.gcd a b)) ∧ w = w' := by
  go_enter Try.func91, Try.ntmps91
  go_wp2
  go_loop [0, 1] (fun x y => ∃ c d : Int, x = .int .i64 c ∧ y = .int .i64 d ∧ 0 ≤ c ∧ c ≤ 1000000 ∧ 0 ≤ d ∧ d ≤ 1000000 ∧ Int.gcd c d = Int.gcd a b) (fun _ y => (intOf y).toNat)
  case atStart => exact ⟨a, b, rfl, rfl, ha0, ha1, hb0, hb1, rfl⟩
  case round =>
    obtain ⟨c, d, rfl, rfl, hc0, hc1, hd0, hd1, hg⟩ := hrel
    have HG := Lib.hid hg
    clear hg
    by_cases hd : d = 0
    · subst hd
      have hg : Hid (c = Int.gcd a b) := Lib.hid (by rw [← HG.out, Int.gcd_zero_right]; omega)
      go_wp2
      go_ret
      exact ⟨ret_int hg.out, rfl⟩
    · obtain ⟨m1, m2⟩ := Num.mod_bd c (m := d) (by omega)
      have HG' : Hid (Int.gcd d (c % d) = Int.gcd a b) := Lib.hid (by rw [Num.gcd_step]; exact HG.out)
      have hp : 0 < d := by omega
      go_wp2
      exact ⟨⟨d, c % d, rfl, rfl, hd0, hd1, by omega, by omega, HG'.out⟩, by simp [intOf]; omega⟩
end Go.Proofs.Yteappjgdcbploaa
namespace Go.Proofs.Yteappjgdcbploaa
open Go.RowKit
set_option linter.unusedVariables false
set_option linter.unusedSimpArgs false

theorem bcell {W w1 : World} (hb : Below W.heap.size W w1) : (∀ b o, b < W.heap.size → w1.cell? ⟨b, o, none⟩ = W.cell? ⟨b, o, none⟩) ∧ (∀ b o, b < W.heap.size → w1.frozen? ⟨b, o, none⟩ = W.frozen? ⟨b, o, none⟩) :=
  ⟨fun b o h => hb.cell (p := ⟨b, o, none⟩) h, fun b o h => hb.frozen (p := ⟨b, o, none⟩) h⟩

/-- A block of two cells, both known and free to be written. -/
def Own2 (w : World) (q : Nat) (a b : Value) : Prop :=
  w.cell? ⟨q, 0, none⟩ = some a ∧ w.cell? ⟨q, 1, none⟩ = some b ∧ w.frozen? ⟨q, 0, none⟩ = false ∧ w.frozen? ⟨q, 1, none⟩ = false ∧ q < w.heap.size
theorem Own2.new (w : World) (a b : Value) (t : TypeId) : Own2 (w.alloc (.cells #[a, b] t)) w.heap.size a b :=
  ⟨by simp, by simp, by simp, by simp, by simp⟩
theorem Own2.alloc {w : World} {q : Nat} {a b : Value} (h : Own2 w q a b) (c : Array Value) (t : TypeId) : Own2 (w.alloc (.cells c t)) q a b := by
  obtain ⟨h1, h2, h3, h4, h5⟩ := h
  exact ⟨by rw [World.cell?_alloc_lt w _ _ h5]; exact h1, by rw [World.cell?_alloc_lt w _ _ h5]; exact h2, by rw [World.frozen?_alloc_old w _ _ (by simp; omega)]; exact h3, by rw [World.frozen?_alloc_old w _ _ (by simp; omega)]; exact h4, by simp; omega⟩
theorem Own2.below {w w' : World} {q B : Nat} {a b : Value} (h : Own2 w q a b) (hb : Below B w w') (hq : q < B) : Own2 w' q a b := by
  obtain ⟨h1, h2, h3, h4, h5⟩ := h
  exact ⟨by rw [hb.cell hq]; exact h1, by rw [hb.cell hq]; exact h2, by rw [hb.frozen hq]; exact h3, by rw [hb.frozen hq]; exact h4, by have := hb.size; omega⟩
theorem Own2.other {w : World} {q : Nat} {a b : Value} (h : Own2 w q a b) (p : Addr) (v : Value) (hq : p.block ≠ q) : Own2 (w.setCell p v) q a b := by
  obtain ⟨h1, h2, h3, h4, h5⟩ := h
  have e : (w.setCell p v).heap[q]? = w.heap[q]? := Below.heap_setCell _ _ _ _ (Ne.symm hq)
  exact ⟨by rw [World.cell?_of_block (w := w) e]; exact h1, by rw [World.cell?_of_block (w := w) e]; exact h2, by rw [World.frozen?_of_block (w := w) e]; exact h3, by rw [World.frozen?_of_block (w := w) e]; exact h4, by simpa [World.setCell] using h5⟩
theorem Own2.set {w : World} {q : Nat} {a b : Value} (h : Own2 w q a b) (c d : Value) : Own2 ((w.setCell ⟨q, 0, none⟩ c).setCell ⟨q, 1, none⟩ d) q c d := by
  obtain ⟨h1, h2, h3, h4, h5⟩ := h
  have g1 : (w.setCell ⟨q, 0, none⟩ c).cell? ⟨q, 0, none⟩ = some c := World.cell?_setCell_same _ _ _ h1
  have g2 : (w.setCell ⟨q, 0, none⟩ c).cell? ⟨q, 1, none⟩ = some b := by rw [World.cell?_setCell_other _ _ _ _ (by simp)]; exact h2
  refine ⟨by rw [World.cell?_setCell_other _ _ _ _ (by simp)]; exact g1, World.cell?_setCell_same _ _ _ g2, by simp [h3], by simp [h4], by simpa [World.setCell] using h5⟩
theorem Own2.drew {w : World} {q : Nat} {a b : Value} (h : Own2 w q a b) : Own2 w.drew q a b := h
theorem Own2.drewN {w : World} {q : Nat} {a b : Value} (h : Own2 w q a b) (n : Nat) : Own2 (w.drewN n) q a b := h

end Go.Proofs.Yteappjgdcbploaa
namespace Go.Proofs.Yteappjgdcbploaa
open Go.RowKit
set_option linter.unusedVariables false
set_option linter.unusedSimpArgs false

/-- The cells that a slice of int64 leads to hold these numbers. -/
def RdI (w : World) (A : Option Addr) (xs : List Int) : Prop :=
  ∀ j, j < xs.length → ∃ g o, A = some ⟨g, o, none⟩ ∧ g < w.heap.size ∧ w.cell? ⟨g, o + j, none⟩ = some (.int .i64 (xs.getD j 0))
theorem RdI.nil (w : World) (A : Option Addr) : RdI w A [] := fun j h => by simp at h
theorem RdI.below {w w' : World} {A : Option Addr} {xs : List Int} {B : Nat} (h : RdI w A xs) (hb : Below B w w') (hB : ∀ g o, A = some ⟨g, o, none⟩ → g < B) : RdI w' A xs := by
  intro j hj
  obtain ⟨g, o, rfl, hg, hc⟩ := h j hj
  exact ⟨g, o, rfl, by have := hb.size; omega, by rw [hb.cell (hB g o rfl)]; exact hc⟩
theorem RdI.below' {w w' : World} {A : Option Addr} {xs : List Int} (h : RdI w A xs) (hb : Below w.heap.size w w') : RdI w' A xs := by
  intro j hj
  obtain ⟨g, o, rfl, hg, hc⟩ := h j hj
  exact ⟨g, o, rfl, by have := hb.size; omega, by rw [hb.cell hg]; exact hc⟩
theorem RdI.grown {w w' : World} {A : Option Addr} {xs : List Int} {row : Option Nat} (h : RdI w A xs) (hg : w.grownBy w' row) (hne : ∀ g o, A = some ⟨g, o, none⟩ → some g ≠ row) : RdI w' A xs := by
  intro j hj
  obtain ⟨g, o, rfl, hl, hc⟩ := h j hj
  exact ⟨g, o, rfl, by have := hg.size; omega, hg.cell hc (hne g o rfl)⟩
/-- A row of the call's own reads as its list. -/
theorem RdI.own {w : World} {base : Nat} {e : TypeId} {A : Option Addr} {n cap : Nat} {xs : List Int} (h : w.ownsRow base e 1 (.slice A n cap) n (xs.map (Value.int .i64))) : RdI w A xs := by
  intro j hj
  have hn : xs.length = n := by have := h.1; simpa using this
  rcases h.2 with ⟨hv, h0⟩ | ⟨g, c, cur, hv, hb, hg, h1⟩
  · omega
  · simp only [Value.slice.injEq] at hv
    obtain ⟨rfl, -, rfl⟩ := hv
    have hc := h.cellAt j (by omega)
    refine ⟨g, 0, rfl, ?_, ?_⟩
    · exact (h.lt g rfl).2
    · rw [Nat.zero_add, hc, List.getElem?_map]
      simp [hj]
theorem World.grownBy.trans_ {a b c : World} {row : Option Nat} (h : a.grownBy b row) (k : b.grownBy c row) : a.grownBy c row :=
  ⟨k.os.trans h.os, k.tape.trans h.tape, k.output.trans h.output, Nat.le_trans h.size k.size, fun i hi hr => (k.block i (by have := h.size; omega) hr).trans (h.block i hi hr)⟩

set_option maxHeartbeats 400000 in
theorem eqI_yes (A B : Option Addr) (c d : Nat) (xs : List Int) (w : World) (hA : RdI w A xs) (hB : RdI w B xs) (hl : xs.length ≤ 1000000000) :
    Calls Try.prog 22 #[.slice A xs.length c, .slice B xs.length d] w fun e w' => e = .returned (.bool true) ∧ Below w.heap.size w w' := by
  go_enter Try.func22, Try.ntmps22
  go_wp2
  go_loopw [5] (fun s5 wr => ∃ k : Nat, k ≤ xs.length ∧ s5 = .int .i64 k ∧ Below w.heap.size w wr) (fun s5 _ => xs.length - (intOf s5).toNat)
  case atStart => exact ⟨0, by omega, rfl, Below.refl _ _⟩
  case round =>
    obtain ⟨k, hk, rfl, hbel⟩ := hrel
    by_cases hlt : k < xs.length
    · obtain ⟨g, o, rfl, hg, hc⟩ := (hA.below' hbel) k hlt
      obtain ⟨g', o', rfl, hg', hc'⟩ := (hB.below' hbel) k hlt
      have i0 : (0 : Int) ≤ (k : Int) := by omega
      have i1 : (k : Int) < (xs.length : Int) := by omega
      go_wp2
      go_quiet (fail)
      go_wp2
      exact ⟨⟨k + 1, by omega, by go_num, below_drewN hbel _⟩, by simp [intOf]; omega⟩
    · have hge : ¬ ((k : Int) < (xs.length : Int)) := by omega
      go_wp2
      go_ret
      exact ⟨rfl, hbel⟩

/-- The numbers that the laws write: k, k + 1, .. -/
def marks (k : Int) (n : Nat) : List Int := (List.range n).map fun (i : Nat) => k + (i : Int)
theorem marks_length (k : Int) (n : Nat) : (marks k n).length = n := by simp [marks]
theorem marks_get (k : Int) (n j : Nat) (h : j < n) : (marks k n).getD j 0 = k + j := by simp [marks, h]
theorem marks_set (k : Int) (n m : Nat) (h : m < n) (l : List Value) (hl : l.length = n) (ht : l.take m = (marks k m).map (Value.int .i64)) :
    (l.set m (.int .i64 (k + m))).take (m + 1) = (marks k (m + 1)).map (Value.int .i64) := by
  rw [List.take_set, List.take_succ_eq_append_getElem (by omega), ht, marks, marks, List.range_succ]
  rw [List.set_append_right _ _ (by simp)]
  simp

set_option maxHeartbeats 400000 in
theorem markI_any (base T : Nat) (A : Option Addr) (n cap : Nat) (ys : List Value) (k : Int) (w : World) (h : w.ownsRow base T 1 (.slice A n cap) n ys) (hk0 : 0 ≤ k) (hk1 : k ≤ 1000000000000) (hn : n ≤ 1000000000) :
    Calls Try.prog 26 #[.slice A n cap, .int .i64 k] w fun e w' => e = .returned (.int .i64 (k + n)) ∧ w'.ownsRow base T 1 (.slice A n cap) n ((marks k n).map (Value.int .i64)) ∧ w.grownBy w' (Value.slice A n cap).ownBlock := by
  go_enter Try.func26, Try.ntmps26
  go_wp2
  go_loopw [1, 5] (fun s1 s5 wr => ∃ (m : Nat) (zs : List Value), m ≤ n ∧ s5 = .int .i64 m ∧ s1 = .int .i64 (k + m) ∧ wr.ownsRow base T 1 (.slice A n cap) n zs ∧ zs.take m = (marks k m).map (Value.int .i64) ∧ w.grownBy wr (Value.slice A n cap).ownBlock) (fun _ s5 _ => n - (intOf s5).toNat)
  case atStart => exact ⟨0, ys, by omega, rfl, by simp, h, by simp [marks], World.grownBy.refl _ _⟩
  case round =>
    obtain ⟨m, zs, hm, rfl, rfl, hown, htake, hgrow⟩ := hrel
    by_cases hlt : m < n
    · rcases hown.2 with ⟨hv, h0⟩ | ⟨g, c, cur, hv, hb, hg, h1⟩
      · omega
      · simp only [Value.slice.injEq] at hv
        obtain ⟨rfl, -, rfl⟩ := hv
        have hz : zs.length = n := by have := hown.1; simpa using this
        have hc := hown.cellAt m (by omega)
        obtain ⟨ov, hc2⟩ : ∃ ov, wr.cell? ⟨g, m, none⟩ = some ov := ⟨_, by rw [hc]; exact List.getElem?_eq_getElem (by omega)⟩
        have hf := hown.frozenAt m
        have i0 : (0 : Int) ≤ (m : Int) := by omega
        have i1 : (m : Int) < (n : Int) := by omega
        obtain ⟨hs1, hs2⟩ := hown.stored m (.int .i64 (k + m))
        have hset := marks_set k n m hlt zs hz htake
        have HS := Lib.hid hset
        clear hset htake hc hz h1 hg
        go_wp2
        exact ⟨⟨m + 1, _, by omega, by go_num, by (congr 1; omega), hs1, HS.out, World.grownBy.trans_ hgrow hs2⟩, by simp [intOf]; omega⟩
    · obtain rfl : m = n := by omega
      have hge : ¬ ((m : Int) < (m : Int)) := by omega
      have hz : zs.length = m := by have := hown.1; simpa using this
      have HZ : Hid (zs = (marks k m).map (Value.int .i64)) := Lib.hid (by rw [← htake, List.take_of_length_le (by omega)])
      clear htake hz
      go_wp2
      go_ret
      exact ⟨rfl, by rw [← HZ.out]; exact hown, hgrow⟩
set_option maxHeartbeats 400000 in
theorem heldI_any (A : Option Addr) (n cap : Nat) (k : Int) (w : World) (h : RdI w A (marks k n)) (hk0 : 0 ≤ k) (hk1 : k ≤ 1000000000000) (hn : n ≤ 1000000000) :
    Calls Try.prog 27 #[.slice A n cap, .int .i64 k] w fun e w' => e = .returned (.int .i64 (k + n)) ∧ w = w' := by
  go_enter Try.func27, Try.ntmps27
  go_wp2
  go_loop [1, 5] (fun s1 s5 => ∃ m : Nat, m ≤ n ∧ s5 = .int .i64 m ∧ s1 = .int .i64 (k + m)) (fun _ s5 => n - (intOf s5).toNat)
  case atStart => exact ⟨0, by omega, rfl, by simp⟩
  case round =>
    obtain ⟨m, hm, rfl, rfl⟩ := hrel
    by_cases hlt : m < n
    · obtain ⟨g, o, rfl, hg, hc⟩ := h m (by rw [marks_length]; exact hlt)
      rw [marks_get k n m hlt] at hc
      have i0 : (0 : Int) ≤ (m : Int) := by omega
      have i1 : (m : Int) < (n : Int) := by omega
      go_wp2
      exact ⟨⟨m + 1, by omega, by go_num, by (congr 1; omega)⟩, by simp [intOf]; omega⟩
    · obtain rfl : m = n := by omega
      have hge : ¬ ((m : Int) < (m : Int)) := by omega
      go_wp2
      go_ret
      exact ⟨rfl, rfl⟩
end Go.Proofs.Yteappjgdcbploaa
namespace Go.Proofs.Yteappjgdcbploaa
open Go.RowKit
set_option linter.unusedVariables false
set_option linter.unusedSimpArgs false

theorem infoI : (Try.prog.info? 2).map (fun i => (i.zero, i.size, i.bytes)) = some (some (.int .i64 0), 1, 8) := by kernel_rfl

/-- A list of numbers in memory of the call's own. -/
def OwnI (w : World) (base : Nat) (v : Value) (xs : List Int) : Prop := w.ownsRow base 2 1 v xs.length (xs.map (Value.int .i64))
/-- Two rows do not share their block. -/
def ApartV (v1 v2 : Value) : Prop := v1.ownBlock = none ∨ v1.ownBlock ≠ v2.ownBlock
theorem ApartV.symm {v1 v2 : Value} (h : ApartV v1 v2) : ApartV v2 v1 := by
  rcases h with h | h
  · cases h2 : v2.ownBlock with
    | none => exact .inl h2
    | some k => exact .inr (by rw [h]; simp [h2])
  · exact .inr (Ne.symm h)
theorem OwnI.alloc {w : World} {base : Nat} {v : Value} {xs : List Int} (h : OwnI w base v xs) (o : Obj) : OwnI (w.alloc o) base v xs := World.ownsRow.alloc h o
theorem OwnI.drewN {w : World} {base : Nat} {v : Value} {xs : List Int} (h : OwnI w base v xs) (n : Nat) : OwnI (w.drewN n) base v xs := h
theorem OwnI.kept {w w' : World} {base : Nat} {v : Value} {xs : List Int} {row : Option Nat} (h : OwnI w base v xs) (hg : w.grownBy w' row) (hne : v.ownBlock = none ∨ v.ownBlock ≠ row) : OwnI w' base v xs := World.ownsRow.kept h hg hne
theorem OwnI.snoc {w : World} {base : Nat} {v : Value} {xs : List Int} {x : Int} (h : w.ownsRow base 2 1 v (xs.length + 1) (xs.map (Value.int .i64) ++ [.int .i64 x])) : OwnI w base v (xs ++ [x]) := by
  unfold OwnI
  simpa using h
theorem OwnI.base_le {w : World} {base : Nat} {v : Value} {xs : List Int} (h : OwnI w base v xs) : ∀ k, v.ownBlock = some k → base ≤ k := fun k hk => (World.ownsRow.lt h k hk).1

theorem OwnI.below {w w' : World} {base : Nat} {v : Value} {xs : List Int} (h : OwnI w base v xs) (hb : Below w.heap.size w w') : OwnI w' base v xs := by
  refine World.ownsRow.kept (row := none) h ⟨hb.os, hb.tape, hb.output, hb.size, fun k hk _ => hb.block k hk⟩ ?_
  cases hv : v.ownBlock with
  | none => exact .inl rfl
  | some k => exact .inr (by simp)
theorem OwnI.form {w : World} {base : Nat} {v : Value} {xs : List Int} (h : OwnI w base v xs) : ∃ A cap, v = .slice A xs.length cap := by
  rcases h.2 with ⟨rfl, h0⟩ | ⟨g, cap, cur, rfl, _⟩
  · rw [h0]; exact ⟨_, _, rfl⟩
  · exact ⟨_, _, rfl⟩
theorem OwnI.reads {w : World} {base : Nat} {A : Option Addr} {n cap : Nat} {xs : List Int} (h : OwnI w base (.slice A n cap) xs) : RdI w A xs := by
  obtain ⟨A', cap', e⟩ := h.form
  simp only [Value.slice.injEq] at e
  obtain ⟨rfl, rfl, rfl⟩ := e
  exact RdI.own h
/-- A row from a later base on lies apart from an elder row. -/
theorem OwnI.apart {w : World} {base : Nat} {v v' : Value} {xs : List Int} (h : OwnI w base v xs) (hlt : ∀ k, v'.ownBlock = some k → k < base) : ApartV v v' := by
  cases hv : v.ownBlock with
  | none => exact .inl hv
  | some k =>
    refine .inr ?_
    rw [hv]
    intro e
    have := hlt k e.symm
    have := (World.ownsRow.lt h k hv).1
    omega

theorem OwnI.lit (w : World) (xs : List Int) {base : Nat} (hb : base ≤ w.heap.size) (hl : xs.length ≤ 1000000) : OwnI (w.alloc (.cells (xs.map (Value.int .i64)).toArray 2)) base (.slice (some ⟨w.heap.size, 0, none⟩) xs.length xs.length) xs := by
  have h := World.ownsRow_lit (e := 2) (size := 1) w (xs.map (Value.int .i64)).toArray xs.length hb (by unfold maxLen; omega) (by simp)
  simpa [OwnI] using h
theorem OwnI.set {w : World} {base g n cap : Nat} {xs : List Int} (h : OwnI w base (.slice (some ⟨g, 0, none⟩) n cap) xs) (k : Nat) (x : Int) :
    OwnI (w.setCell ⟨g, k, none⟩ (.int .i64 x)) base (.slice (some ⟨g, 0, none⟩) n cap) (xs.set k x) := by
  obtain ⟨A, c, e⟩ := h.form
  simp only [Value.slice.injEq] at e
  obtain ⟨rfl, rfl, rfl⟩ := e
  have h1 := (World.ownsRow.stored h k (.int .i64 x)).1
  unfold OwnI
  rw [List.length_set, List.map_set]
  exact h1
theorem OwnI.at_ {w : World} {base g n cap : Nat} {xs : List Int} (h : OwnI w base (.slice (some ⟨g, 0, none⟩) n cap) xs) (k : Nat) (hk : k < xs.length) :
    w.cell? ⟨g, k, none⟩ = some (.int .i64 (xs.getD k 0)) ∧ w.frozen? ⟨g, k, none⟩ = false := by
  obtain ⟨A, c, e⟩ := h.form
  simp only [Value.slice.injEq] at e
  obtain ⟨rfl, rfl, rfl⟩ := e
  refine ⟨?_, World.ownsRow.frozenAt h k⟩
  rw [World.ownsRow.cellAt h k (by omega), List.getElem?_map]
  simp [hk]

end Go.Proofs.Yteappjgdcbploaa
namespace Go.Proofs.Yteappjgdcbploaa
open Go.RowKit Go.ChangeShapes Go.WideShapes Go.ChangeAt
set_option linter.unusedVariables false
set_option linter.unusedSimpArgs false

/-- The rows that a slice of slices leads to: for each its slice value and its numbers. -/
def RdII (w : World) (A : Option Addr) (xss : List (List Int)) : Prop :=
  ∀ j, j < xss.length → ∃ g o B c, A = some ⟨g, o, none⟩ ∧ g < w.heap.size ∧ w.cell? ⟨g, o + j, none⟩ = some (.slice B (xss.getD j []).length c) ∧ RdI w B (xss.getD j [])
theorem plain_of {w : World} {a : Addr} {v : Value} (h : w.cell? (a.add 0) = some v) : ∃ b o, a = ⟨b, o, none⟩ := by
  obtain ⟨b, o, spot⟩ := a
  have hs : spot = none := by simpa [Addr.add] using World.cell?_spot h
  subst hs
  exact ⟨b, o, rfl⟩

theorem RdII.below' {w w' : World} {A : Option Addr} {xss : List (List Int)} (h : RdII w A xss) (hb : Below w.heap.size w w') : RdII w' A xss := by
  intro j hj
  obtain ⟨g, o, B, c, rfl, hg, hc, hr⟩ := h j hj
  exact ⟨g, o, B, c, rfl, by have := hb.size; omega, by rw [hb.cell hg]; exact hc, hr.below' hb⟩

set_option maxRecDepth 100000 in
/-- What a slice of int64 that came in says. -/
theorem open_list {H : Type} {enc : TypeId × Value → H} {W : World} {base : Nat} {v : Value} {d : DataW H} {p : List MemPlace}
    (hv : Value.okWide Try.prog W .any base 22 v) (h : DataW.Trod enc Try.prog W 0 (fun _ => true) true 22 v d p) :
    ∃ (A : Option Addr) (cap : Nat) (xs : List Int), v = .slice A xs.length cap ∧ RdI W A xs ∧ xs.length ≤ maxLen := by
  obtain ⟨a0, len0, cap0, rfl⟩ := okWide_slice Try.underlying22 hv
  obtain ⟨fuel, hf⟩ := h
  rcases open_ints Try.underlying22 Try.underlying2 (by kernel_rfl) hf with ⟨hcs, _⟩ | ⟨x, l, c, zs, hcs, _, hl, hm, hz, _, hcell, hwz⟩
  · simp [Value.cells] at hcs
    obtain ⟨rfl, rfl, rfl⟩ := hcs
    exact ⟨none, 0, [], rfl, fun j hj => by simp at hj, by simp⟩
  · simp [Value.cells] at hcs
    obtain ⟨rfl, rfl, rfl⟩ := hcs
    have hz' : zs.length = cap0 := by simpa using hz
    have hlen : (zs.take len0).length = len0 := by simp; omega
    refine ⟨some x, cap0, zs.take len0, by rw [hlen], fun j hj => ?_, by rw [hlen]; omega⟩
    rw [hlen] at hj
    obtain ⟨b, o, rfl, hc⟩ := ints_at hcell (by omega)
    have h1 := hc j (by omega)
    refine ⟨b, o, rfl, World.block_lt_of_cell? W _ h1, ?_⟩
    rw [h1]
    simp [List.getElem?_take, hj]

/-! ### How much there is -/
def rowsum (xss : List (List Int)) : Nat := (xss.map List.length).sum
def bulk (xss : List (List Int)) : Nat := xss.length + rowsum xss
/-- What is left of a measure, -1 if it isn't enough. -/
def szOf (xss : List (List Int)) (left : Int) : Int := if (bulk xss : Int) ≤ left then left - bulk xss else -1
theorem szOf_yes {xss : List (List Int)} {left : Int} (h : (bulk xss : Int) ≤ left) : szOf xss left = left - bulk xss := if_pos h
theorem szOf_no {xss : List (List Int)} {left : Int} (h : left < bulk xss) : szOf xss left = -1 := if_neg (by omega)
theorem ret_i {k : IntKind} {a b : Int} (h : a = b) : Ending.returned (.int k a) = .returned (.int k b) := by rw [h]
theorem rowsum_take (xss : List (List Int)) (j : Nat) (hj : j < xss.length) : rowsum (xss.take (j + 1)) = rowsum (xss.take j) + (xss.getD j []).length := by
  unfold rowsum
  rw [List.take_succ_eq_append_getElem hj, List.map_append, List.sum_append]
  simp [hj]
theorem rowsum_le (xss : List (List Int)) (j : Nat) : rowsum (xss.take j) ≤ rowsum xss := by
  unfold rowsum
  conv => rhs; rw [← List.take_append_drop j xss, List.map_append, List.sum_append]
  omega
theorem RdII.row {w : World} {A : Option Addr} {xss : List (List Int)} (h : RdII w A xss) {j : Nat} (hj : j < xss.length) :
    ∃ g o B c, A = some ⟨g, o, none⟩ ∧ w.cell? ⟨g, o + j, none⟩ = some (.slice B (xss.getD j []).length c) ∧ RdI w B (xss.getD j []) := by
  obtain ⟨g, o, B, c, h1, _, h2, h3⟩ := h j hj
  exact ⟨g, o, B, c, h1, h2, h3⟩

theorem szI_yes (A : Option Addr) (n c : Nat) (left : Int) (w : World) (h : (n : Int) ≤ left) (hl : left ≤ 1048576) :
    Calls Try.prog 57 #[.slice A n c, .int .i64 left] w fun e w' => e = .returned (.int .i64 (left - n)) ∧ w = w' := by
  go_enter Try.func57, Try.ntmps57
  go_wp2
  go_ret
  exact ⟨rfl, rfl⟩
theorem szI_no (A : Option Addr) (n c : Nat) (left : Int) (w : World) (h0 : 0 ≤ left) (h : left < n) (hl : left ≤ 1048576) (hn : n ≤ maxLen) :
    Calls Try.prog 57 #[.slice A n c, .int .i64 left] w fun e w' => e = .returned (.int .i64 (-1)) ∧ w = w' := by
  unfold maxLen at hn
  go_enter Try.func57, Try.ntmps57
  go_wp2
  go_ret
  exact ⟨rfl, rfl⟩
set_option maxHeartbeats 400000 in
theorem szII_any (A : Option Addr) (c : Nat) (xss : List (List Int)) (left : Int) (w : World) (h : RdII w A xss) (hm : ∀ j, j < xss.length → (xss.getD j []).length ≤ maxLen) (hx : xss.length ≤ maxLen) (h0 : 0 ≤ left) (hl : left ≤ 1048576) :
    Calls Try.prog 42 #[.slice A xss.length c, .int .i64 left] w fun e w' => e = .returned (.int .i64 (szOf xss left)) ∧ w = w' := by
  have hx' := hx
  unfold maxLen at hx'
  by_cases hs : left < xss.length
  · rw [szOf_no (by unfold bulk; omega)]
    go_enter Try.func42, Try.ntmps42
    go_wp2
    go_ret
    exact ⟨rfl, rfl⟩
  · go_enter Try.func42, Try.ntmps42
    go_wp2
    go_loop [1, 5] (fun s1 s5 => ∃ (j : Nat), s5 = .int .i64 j ∧ j ≤ xss.length ∧ s1 = .int .i64 (left - xss.length - rowsum (xss.take j)) ∧ 0 ≤ left - xss.length - rowsum (xss.take j)) (fun _ s5 => xss.length - (intOf s5).toNat)
    case atStart => exact ⟨0, rfl, by omega, by simp [rowsum], by simp [rowsum]; omega⟩
    case round =>
      obtain ⟨j, rfl, hj, rfl, hp⟩ := hrel
      have hle := rowsum_le xss j
      by_cases hlt : j < xss.length
      · obtain ⟨g, o, B, cc, rfl, hc, _⟩ := h.row hlt
        have hlen := hm j hlt
        have hst := rowsum_take xss j hlt
        have hle2 := rowsum_le xss (j + 1)
        have HST := Lib.hid hst
        clear hst
        generalize hL : left - (xss.length : Int) - (rowsum (xss.take j) : Int) = L at *
        have HL := Lib.hid hL
        clear hL
        have L1 : L ≤ 1048576 := by have := HL.out; omega
        have i0 : (0 : Int) ≤ (j : Int) := by omega
        have i1 : (j : Int) < (xss.length : Int) := by omega
        by_cases hfit : ((xss.getD j []).length : Int) ≤ L
        · have HR : Hid (L - ((xss.getD j []).length : Int) = left - xss.length - rowsum (xss.take (j + 1))) := Lib.hid (by have := HST.out; have := HL.out; omega)
          generalize (xss.getD j []).length = n at *
          go_wp2_with (go_at_call 57; refine (szI_yes _ _ _ _ _ hfit L1).mono ?_; rintro e w' ⟨rfl, rfl⟩)
          exact ⟨⟨j + 1, by go_num, by omega, by rw [HR.out], by have := HR.out; omega⟩, by simp [intOf]; omega⟩
        · have HB : Hid (szOf xss left = -1) := Lib.hid (szOf_no (by unfold bulk; have := HST.out; have := HL.out; omega))
          generalize (xss.getD j []).length = n at *
          go_wp2_with (go_at_call 57; refine (szI_no _ _ _ _ _ hp (by omega) L1 hlen).mono ?_; rintro e w' ⟨rfl, rfl⟩)
          go_ret
          exact ⟨ret_i HB.out.symm, rfl⟩
      · obtain rfl : j = xss.length := by omega
        have hge : ¬ ((xss.length : Int) < (xss.length : Int)) := by omega
        have HB : Hid (left - (xss.length : Int) - (rowsum (xss.take xss.length) : Int) = szOf xss left) := Lib.hid (by
          rw [List.take_length] at hp ⊢
          rw [szOf_yes (by unfold bulk; omega)]
          unfold bulk
          omega)
        go_wp2
        go_ret
        exact ⟨ret_i (by have := HB.out; rwa [List.take_length] at this), rfl⟩
theorem infoS : (Try.prog.info? 22).map (fun i => (i.zero, i.size, i.bytes)) = some (some (.slice none 0 0), 1, 24) := by kernel_rfl

/-! ### Copies -/
theorem copy_step (xs : List Int) (zs : List Value) (j : Nat) (hj : j < xs.length) (hz : zs.length = xs.length) (h : zs.take j = (xs.take j).map (Value.int .i64)) :
    (zs.set j (.int .i64 (xs.getD j 0))).take (j + 1) = (xs.take (j + 1)).map (Value.int .i64) := by
  rw [List.take_set, List.take_succ_eq_append_getElem (by omega), h, List.take_succ_eq_append_getElem hj, List.map_append]
  rw [List.set_append_right _ _ (by simp; omega)]
  have e : j - (List.map (Value.int .i64) (xs.take j)).length = 0 := by simp; omega
  rw [e]
  simp [hj]
set_option maxHeartbeats 400000 in
theorem toI_any (A : Option Addr) (c : Nat) (xs : List Int) (w : World) (hA : RdI w A xs) (hl : xs.length ≤ 1048576) :
    Calls Try.prog 19 #[.slice A xs.length c] w fun e w' => e = .returned (.slice (some ⟨w.heap.size, 0, none⟩) xs.length xs.length) ∧ OwnI w' w.heap.size (.slice (some ⟨w.heap.size, 0, none⟩) xs.length xs.length) xs ∧ Below w.heap.size w w' := by
  obtain ⟨i0, hi, hz0, hz1, hz2⟩ := info_parts infoI
  go_enter Try.func19, Try.ntmps19
  go_wp2_with (refine wpList_make_full _ rfl (.tmp 6) (.tmp 6) 22 rfl w.heap.size 2 i0 (.int .i64 0) 1 Try.underlying22 hi hz0 hz1 .i64 .i64 (xs.length : Int) (xs.length : Int) xs.length rfl rfl rfl rfl (by rw [hz2]; omega) (by unfold maxLen; omega) (Nat.le_refl _) ?_; intro w1 own1 gr1)
  go_loopw [4] (fun s4 wr => ∃ (j : Nat) (zs : List Value), s4 = .int .i64 j ∧ j ≤ xs.length ∧ wr.ownsRow w.heap.size 2 1 (.slice (some ⟨w.heap.size, 0, none⟩) xs.length xs.length) xs.length zs ∧ zs.take j = (xs.take j).map (Value.int .i64) ∧ Below w.heap.size w wr) (fun s4 _ => xs.length - (intOf s4).toNat)
  case atStart => exact ⟨0, _, rfl, by omega, own1, by simp, (Below.refl _ _).grown gr1 (Nat.le_refl _) (fun k hk => by simp at hk)⟩
  case round =>
    obtain ⟨j, zs, rfl, hj, own, htk, bel⟩ := hrel
    clear own1 gr1
    have hz : zs.length = xs.length := by have := own.1; simpa using this
    by_cases hlt : j < xs.length
    · obtain ⟨g, o, rfl, hg, hc⟩ := (hA.below' bel) j hlt
      obtain ⟨ov, hov⟩ : ∃ ov, wr.cell? ⟨w.heap.size, j, none⟩ = some ov := ⟨_, by rw [own.cellAt j (by omega)]; exact List.getElem?_eq_getElem (by omega)⟩
      have hfz := own.frozenAt j
      obtain ⟨st1, st2⟩ := own.stored j (.int .i64 (xs.getD j 0))
      have HCS := Lib.hid (copy_step xs zs j hlt hz htk)
      have HST := Lib.hid st1
      have bel2 := bel.grown st2 bel.size (fun k hk => by simp at hk; omega)
      have i0 : (0 : Int) ≤ (j : Int) := by omega
      have i1 : (j : Int) < (xs.length : Int) := by omega
      clear st1 st2 htk hz own hA
      generalize xs.getD j 0 = x at *
      go_wp2_with (fail)
      exact ⟨⟨j + 1, _, by go_num, by omega, HST.out, HCS.out, bel2⟩, by simp [intOf]; omega⟩
    · have hge : ¬ ((j : Int) < (xs.length : Int)) := by omega
      have HZ : Hid (zs = xs.map (Value.int .i64)) := Lib.hid (by
        obtain rfl : j = xs.length := by omega
        rw [List.take_of_length_le (by omega), List.take_length] at htk
        exact htk)
      clear htk hz
      go_wp2_with (fail)
      go_ret
      exact ⟨rfl, by unfold OwnI; rw [← HZ.out]; exact own, bel⟩

/-! ### Lists of lists in memory of a call's own -/
def nilS : Value := .slice none 0 0
def OwnII (w : World) (base : Nat) (v : Value) (xss : List (List Int)) : Prop :=
  ∃ vs : List Value, w.ownsRow base 22 1 v xss.length vs ∧ (∀ j, j < xss.length → OwnI w base (vs.getD j nilS) (xss.getD j [])) ∧ ∀ i j, i < j → j < xss.length → ApartV (vs.getD i nilS) (vs.getD j nilS)
theorem ownsRow_base {w : World} {b b' : Nat} {e : TypeId} {size n : Nat} {v : Value} {xs : List Value} (h : w.ownsRow b e size v n xs) (hb : b' ≤ b) : w.ownsRow b' e size v n xs := by
  obtain ⟨h1, h2⟩ := h
  refine ⟨h1, ?_⟩
  rcases h2 with h2 | ⟨g, cap, cur, hv, hg, r⟩
  · exact .inl h2
  · exact .inr ⟨g, cap, cur, hv, by omega, r⟩
/-- A row of numbers and a row of slices never share a block. -/
theorem rows_apart {w : World} {b b' n m : Nat} {v v' : Value} {xs ys : List Value} (h : w.ownsRow b 2 1 v n xs) (h' : w.ownsRow b' 22 1 v' m ys) : ApartV v v' := by
  rcases h.2 with ⟨rfl, _⟩ | ⟨g, cap, cur, rfl, _, hg, _⟩
  · exact .inl rfl
  · rcases h'.2 with ⟨rfl, _⟩ | ⟨g', cap', cur', rfl, _, hg', _⟩
    · exact .inr (by simp [Value.ownBlock])
    · refine .inr ?_
      simp only [Value.ownBlock]
      intro e
      have : g = g' := by simpa using e
      subst this
      rw [hg] at hg'
      simp at hg'
set_option maxHeartbeats 1000000 in
theorem toII_any (A : Option Addr) (c : Nat) (xss : List (List Int)) (w : World) (hA : RdII w A xss) (hl : bulk xss ≤ 1048576) :
    Calls Try.prog 44 #[.slice A xss.length c] w fun e w' => e = .returned (.slice (some ⟨w.heap.size, 0, none⟩) xss.length xss.length) ∧ OwnII w' w.heap.size (.slice (some ⟨w.heap.size, 0, none⟩) xss.length xss.length) xss ∧ Below w.heap.size w w' := by
  obtain ⟨i0, hi, hz0, hz1, hz2⟩ := info_parts infoS
  have hl1 : xss.length ≤ 1048576 := by unfold bulk at hl; omega
  have hl2 : ∀ j, j < xss.length → (xss.getD j []).length ≤ 1048576 := fun j hj => by
    have h1 := rowsum_take xss j hj
    have h2 := rowsum_le xss (j + 1)
    unfold bulk at hl
    omega
  go_enter Try.func44, Try.ntmps44
  go_wp2_with (refine wpList_make_full _ rfl (.tmp 6) (.tmp 6) 23 rfl w.heap.size 22 i0 (.slice none 0 0) 1 Try.underlying23 hi hz0 hz1 .i64 .i64 (xss.length : Int) (xss.length : Int) xss.length rfl rfl rfl rfl (by rw [hz2]; omega) (by unfold maxLen; omega) (Nat.le_refl _) ?_; intro w1 own1 gr1)
  go_loopw [4] (fun s4 wr => ∃ (j : Nat) (vs : List Value), s4 = .int .i64 j ∧ j ≤ xss.length ∧ wr.ownsRow w.heap.size 22 1 (.slice (some ⟨w.heap.size, 0, none⟩) xss.length xss.length) xss.length vs ∧ (∀ i, i < j → OwnI wr w.heap.size (vs.getD i nilS) (xss.getD i [])) ∧ (∀ i k, i < k → k < j → ApartV (vs.getD i nilS) (vs.getD k nilS)) ∧ Below w.heap.size w wr) (fun s4 _ => xss.length - (intOf s4).toNat)
  case atStart => exact ⟨0, _, rfl, by omega, own1, fun i hi => by omega, fun i k _ hk => by omega, (Below.refl _ _).grown gr1 (Nat.le_refl _) (fun k hk => by simp at hk)⟩
  case round =>
    obtain ⟨j, vs, rfl, hj, own, rows, apart, bel⟩ := hrel
    clear own1 gr1
    have hvl : vs.length = xss.length := by have := own.1; simpa using this
    by_cases hlt : j < xss.length
    · obtain ⟨g, o, B, cc, rfl, hc, hrd⟩ := (hA.below' bel).row hlt
      have hlen := hl2 j hlt
      have i0 : (0 : Int) ≤ (j : Int) := by omega
      have i1 : (j : Int) < (xss.length : Int) := by omega
      have HROWS := Lib.hid rows
      have HAP := Lib.hid apart
      have HRD := Lib.hid hrd
      have hz := bel.size
      clear rows apart hrd hl2 hA
      have hT := fun wx h => toI_any B cc (xss.getD j []) wx h hlen
      generalize hx : xss.getD j [] = xs at *
      have HX := Lib.hid hx
      clear hx
      go_wp2_with (fail)
      refine (hT _ HRD.out).mono ?_; rintro e w2 ⟨rfl, ow2, b2⟩
      have own2 := World.ownsRow.kept (row := none) own ⟨b2.os, b2.tape, b2.output, b2.size, fun k hk _ => b2.block k hk⟩ (.inr (by simp [Value.ownBlock]))
      obtain ⟨ov, hov⟩ : ∃ ov, w2.cell? ⟨w.heap.size, j, none⟩ = some ov := ⟨_, by rw [own2.cellAt j (by omega)]; exact List.getElem?_eq_getElem (by omega)⟩
      have hfz := own2.frozenAt j
      obtain ⟨st1, st2⟩ := own2.stored j (.slice (some ⟨wr.heap.size, 0, none⟩) xs.length xs.length)
      have bel2 := (bel.trans (b2.mono hz)).grown st2 (by have := b2.size; omega) (fun k hk => by simp at hk; omega)
      have HR2 : Hid (∀ i, i < j + 1 → OwnI (w2.setCell ⟨w.heap.size, j, none⟩ (.slice (some ⟨wr.heap.size, 0, none⟩) xs.length xs.length)) w.heap.size ((vs.set j (.slice (some ⟨wr.heap.size, 0, none⟩) xs.length xs.length)).getD i nilS) (xss.getD i [])) := Lib.hid (fun i hi => by
        by_cases hij : i = j
        · subst hij
          have e : (vs.set i (.slice (some ⟨wr.heap.size, 0, none⟩) xs.length xs.length)).getD i nilS = .slice (some ⟨wr.heap.size, 0, none⟩) xs.length xs.length := by
            rw [List.getD_eq_getElem?_getD, List.getElem?_set_self (by omega)]; rfl
          rw [e, HX.out]
          exact OwnI.kept (ownsRow_base ow2 hz) st2 (rows_apart ow2 own2)
        · have e : (vs.set j (.slice (some ⟨wr.heap.size, 0, none⟩) xs.length xs.length)).getD i nilS = vs.getD i nilS := by
            rw [List.getD_eq_getElem?_getD, List.getElem?_set_ne (by omega), ← List.getD_eq_getElem?_getD]
          rw [e]
          have h1 := (HROWS.out i (by omega)).below b2
          exact OwnI.kept h1 st2 (rows_apart h1 own2))
      have HA2 : Hid (∀ i k, i < k → k < j + 1 → ApartV ((vs.set j (.slice (some ⟨wr.heap.size, 0, none⟩) xs.length xs.length)).getD i nilS) ((vs.set j (.slice (some ⟨wr.heap.size, 0, none⟩) xs.length xs.length)).getD k nilS)) := Lib.hid (fun i k hik hk => by
        have e : (vs.set j (.slice (some ⟨wr.heap.size, 0, none⟩) xs.length xs.length)).getD i nilS = vs.getD i nilS := by
          rw [List.getD_eq_getElem?_getD, List.getElem?_set_ne (by omega), ← List.getD_eq_getElem?_getD]
        rw [e]
        by_cases hkj : k = j
        · subst hkj
          have e2 : (vs.set k (.slice (some ⟨wr.heap.size, 0, none⟩) xs.length xs.length)).getD k nilS = .slice (some ⟨wr.heap.size, 0, none⟩) xs.length xs.length := by
            rw [List.getD_eq_getElem?_getD, List.getElem?_set_self (by omega)]; rfl
          rw [e2]
          exact (OwnI.apart ow2 (fun q hq => (World.ownsRow.lt (HROWS.out i (by omega)) q hq).2)).symm
        · have e2 : (vs.set j (.slice (some ⟨wr.heap.size, 0, none⟩) xs.length xs.length)).getD k nilS = vs.getD k nilS := by
            rw [List.getD_eq_getElem?_getD, List.getElem?_set_ne (by omega), ← List.getD_eq_getElem?_getD]
          rw [e2]
          exact HAP.out i k hik (by omega))
      have HST := Lib.hid st1
      have hzz : w.heap.size < w2.heap.size := by
        have h1 := b2.size
        have h2 : w.heap.size < wr.heap.size := (World.ownsRow.lt own _ rfl).2
        omega
      clear st1 st2 ow2 own own2 HROWS HAP hT HRD hc
      go_wp2_with (fail)
      exact ⟨⟨j + 1, _, by go_num, by omega, HST.out, HR2.out, HA2.out, bel2⟩, by simp [intOf]; omega⟩
    · have hge : ¬ ((j : Int) < (xss.length : Int)) := by omega
      obtain rfl : j = xss.length := by omega
      have HO : Hid (OwnII wr w.heap.size (.slice (some ⟨w.heap.size, 0, none⟩) xss.length xss.length) xss) := Lib.hid ⟨vs, own, rows, apart⟩
      clear rows apart own
      go_wp2_with (fail)
      go_ret
      exact ⟨rfl, HO.out, bel⟩

theorem OwnII.below {w w' : World} {base : Nat} {v : Value} {xss : List (List Int)} (h : OwnII w base v xss) (hb : Below w.heap.size w w') : OwnII w' base v xss := by
  obtain ⟨vs, h1, h2, h3⟩ := h
  refine ⟨vs, World.ownsRow.kept (row := none) h1 ⟨hb.os, hb.tape, hb.output, hb.size, fun k hk _ => hb.block k hk⟩ ?_, fun j hj => (h2 j hj).below hb, h3⟩
  cases hv : v.ownBlock with
  | none => exact .inl rfl
  | some k => exact .inr (by simp)
theorem OwnII.base_ {w : World} {base b : Nat} {v : Value} {xss : List (List Int)} (h : OwnII w base v xss) (hb : b ≤ base) : OwnII w b v xss := by
  obtain ⟨vs, h1, h2, h3⟩ := h
  exact ⟨vs, ownsRow_base h1 hb, fun j hj => ownsRow_base (h2 j hj) hb, h3⟩
/-- What is owned reads as its lists. -/
theorem OwnII.reads {w : World} {base n cap : Nat} {A : Option Addr} {xss : List (List Int)} (h : OwnII w base (.slice A n cap) xss) : RdII w A xss := by
  obtain ⟨vs, h1, h2, h3⟩ := h
  intro j hj
  have hvl : vs.length = xss.length := by have := h1.1; simpa using this
  rcases h1.2 with ⟨hv, h0⟩ | ⟨g, c, cur, hv, hb, hg, r⟩
  · omega
  · simp only [Value.slice.injEq] at hv
    obtain ⟨rfl, rfl, rfl⟩ := hv
    have hc := h1.cellAt j (by omega)
    obtain ⟨B, cc, hB⟩ := (h2 j hj).form
    refine ⟨g, 0, B, cc, rfl, (h1.lt g rfl).2, ?_, ?_⟩
    · rw [Nat.zero_add, hc, ← hB, List.getD_eq_getElem?_getD, List.getElem?_eq_getElem (by omega)]
      rfl
    · have h4 := h2 j hj
      rw [hB] at h4
      exact h4.reads
theorem OwnII.low {w : World} {base : Nat} {v : Value} {xss : List (List Int)} (h : OwnII w base v xss) {p : Addr} (hp : p.block < base) (u : Value) : OwnII (w.setCell p u) base v xss := by
  obtain ⟨vs, h1, h2, h3⟩ := h
  exact ⟨vs, ownsRow_setCell_below h1 hp u, fun j hj => ownsRow_setCell_below (h2 j hj) hp u, h3⟩
theorem bcellM {W w1 : World} (hb : Below W.heap.size W w1) : (∀ b o, b < W.heap.size → w1.cell? ⟨b, o, none⟩ = W.cell? ⟨b, o, none⟩) ∧ (∀ b o, b < W.heap.size → w1.frozen? ⟨b, o, none⟩ = W.frozen? ⟨b, o, none⟩) :=
  ⟨fun b o h => hb.cell (p := ⟨b, o, none⟩) h, fun b o h => hb.frozen (p := ⟨b, o, none⟩) h⟩
set_option maxHeartbeats 400000 in
theorem eqII_yes (A B : Option Addr) (c d : Nat) (xss : List (List Int)) (w : World) (hA : RdII w A xss) (hB : RdII w B xss) (hl : bulk xss ≤ 1048576) :
    Calls Try.prog 46 #[.slice A xss.length c, .slice B xss.length d] w fun e w' => e = .returned (.bool true) ∧ Below w.heap.size w w' := by
  have hl1 : xss.length ≤ 1048576 := by unfold bulk at hl; omega
  have hl2 : ∀ j, j < xss.length → (xss.getD j []).length ≤ 1000000000 := fun j hj => by
    have h1 := rowsum_take xss j hj
    have h2 := rowsum_le xss (j + 1)
    unfold bulk at hl
    omega
  go_enter Try.func46, Try.ntmps46
  go_wp2
  go_loopw [5] (fun s5 wr => ∃ k : Nat, k ≤ xss.length ∧ s5 = .int .i64 k ∧ Below w.heap.size w wr) (fun s5 _ => xss.length - (intOf s5).toNat)
  case atStart => exact ⟨0, by omega, rfl, Below.refl _ _⟩
  case round =>
    obtain ⟨k, hk, rfl, hbel⟩ := hrel
    by_cases hlt : k < xss.length
    · have hA' := hA.below' hbel
      have hB' := hB.below' hbel
      obtain ⟨g, o, D, cd, rfl, hc, hr⟩ := hA'.row hlt
      obtain ⟨g', o', D', cd', rfl, hc', hr'⟩ := hB'.row hlt
      have hlen := hl2 k hlt
      have i0 : (0 : Int) ≤ (k : Int) := by omega
      have i1 : (k : Int) < (xss.length : Int) := by omega
      have HT : Hid (∀ wx : World, RdI wx D (xss.getD k []) → RdI wx D' (xss.getD k []) → Calls Try.prog 22 #[.slice D (xss.getD k []).length cd, .slice D' (xss.getD k []).length cd'] wx fun e w' => e = .returned (.bool true) ∧ Below wx.heap.size wx w') := Lib.hid fun wx h1 h2 => eqI_yes D D' cd cd' _ wx h1 h2 hlen
      have HR := Lib.hid hr
      have HR' := Lib.hid hr'
      have hg := World.block_lt_of_cell? wr _ hc
      have hg' := World.block_lt_of_cell? wr _ hc'
      simp only at hg hg'
      clear hr hr' hA hB hA' hB' hl2
      generalize hx : xss.getD k [] = xs at *
      clear hx
      generalize xs.length = n at *
      go_wp2_with (fail)
      go_region_held3 (fun wx => wx.cell? ⟨g, o + k, none⟩ = some (.slice D n cd) ∧ wx.cell? ⟨g', o' + k, none⟩ = some (.slice D' n cd')) (first | go_keep | assumption) (first | (go_at_call 22; refine (HT.out _ (HR.out.below' (Below.refl _ _).drew) (HR'.out.below' (Below.refl _ _).drew)).mono ?_; rintro e wm ⟨rfl, hbm⟩; have SM : wm.cell? ⟨g, o + k, none⟩ = some (.slice D n cd) ∧ wm.cell? ⟨g', o' + k, none⟩ = some (.slice D' n cd') := ⟨(by rw [hbm.cell hg]; exact hc), (by rw [hbm.cell hg']; exact hc')⟩))
      all_goals
        go_wp2_with (fail)
        exact ⟨⟨k + 1, by omega, by go_num, hbel.drew.trans (hbm.mono (by have := hbel.size; go_size))⟩, by simp [intOf]; omega⟩
    · have hge : ¬ ((k : Int) < (xss.length : Int)) := by omega
      go_wp2_with (fail)
      go_ret
      exact ⟨rfl, hbel⟩

end Go.Proofs.Yteappjgdcbploaa
namespace Go.Proofs.Yteappjgdcbploaa
open Go.RowKit
set_option linter.unusedVariables false
set_option linter.unusedSimpArgs false

/-- w' is w but for new blocks and for the blocks of S. -/
structure ChgS (S : Nat → Prop) (w w' : World) : Prop where
  os : w'.os = w.os
  tape : w'.tape = w.tape
  output : w'.output = w.output
  size : w.heap.size ≤ w'.heap.size
  block : ∀ k, k < w.heap.size → ¬ S k → w'.heap[k]? = w.heap[k]?
theorem ChgS.refl (S : Nat → Prop) (w : World) : ChgS S w w := ⟨rfl, rfl, rfl, Nat.le_refl _, fun _ _ _ => rfl⟩
theorem ChgS.trans {S : Nat → Prop} {a b c : World} (h : ChgS S a b) (k : ChgS S b c) : ChgS S a c :=
  ⟨k.os.trans h.os, k.tape.trans h.tape, k.output.trans h.output, Nat.le_trans h.size k.size, fun i hi hr => (k.block i (by have := h.size; omega) hr).trans (h.block i hi hr)⟩
theorem ChgS.mono {S T : Nat → Prop} {a b : World} (h : ChgS S a b) (hs : ∀ k, S k → T k) : ChgS T a b :=
  ⟨h.os, h.tape, h.output, h.size, fun k hk hn => h.block k hk (fun hS => hn (hs k hS))⟩
theorem ChgS.of_grown {S : Nat → Prop} {w w' : World} {row : Option Nat} (h : w.grownBy w' row) (hr : ∀ k, row = some k → S k) : ChgS S w w' :=
  ⟨h.os, h.tape, h.output, h.size, fun k hk hc => h.block k hk (fun e => hc (hr k e.symm))⟩
theorem ChgS.of_below {S : Nat → Prop} {w w' : World} (h : Below w.heap.size w w') : ChgS S w w' :=
  ⟨h.os, h.tape, h.output, h.size, fun k hk _ => h.block k hk⟩
theorem ChgS.below {S : Nat → Prop} {B : Nat} {w w' : World} (h : ChgS S w w') (hS : ∀ k, S k → B ≤ k) (hB : B ≤ w.heap.size) : Below B w w' :=
  ⟨h.os, h.tape, h.output, h.size, fun k hk => h.block k (by omega) (fun hs => by have := hS k hs; omega)⟩
theorem bstep {B : Nat} {a b c : World} (h : Below B a b) (hB : B ≤ b.heap.size) (k : Below b.heap.size b c) : Below B a c := h.trans (k.mono hB)
/-- .. with a change in blocks from B on. -/
theorem bstepS {S : Nat → Prop} {B : Nat} {a b c : World} (h : Below B a b) (hB : B ≤ b.heap.size) (hS : ∀ k, S k → B ≤ k) (k : ChgS S b c) : Below B a c := h.trans (k.below hS hB)

structure Sp (α : Type) where
  rd : World → Value → α → Prop
  own : World → (Nat → Prop) → Value → α → Prop
  sz : α → Nat
  cnt : α → Nat
  mark : Int → α → α
  rd_keep : ∀ {w w' : World} {v : Value} {x : α}, rd w v x → w.heap.size ≤ w'.heap.size → (∀ k, k < w.heap.size → w'.heap[k]? = w.heap[k]?) → rd w' v x
  own_keep : ∀ {w w' : World} {S : Nat → Prop} {v : Value} {x : α}, own w S v x → (∀ k, S k → w'.heap[k]? = w.heap[k]?) → own w' S v x
  own_lt : ∀ {w : World} {S : Nat → Prop} {v : Value} {x : α} {k : Nat}, own w S v x → S k → k < w.heap.size
  own_rd : ∀ {w : World} {S : Nat → Prop} {v : Value} {x : α}, own w S v x → rd w v x
variable {α : Type}
theorem Sp.rd_below (s : Sp α) {w w' : World} {v : Value} {x : α} (h : s.rd w v x) (hb : Below w.heap.size w w') : s.rd w' v x := s.rd_keep h hb.size fun k hk => hb.block k hk
theorem Sp.own_below (s : Sp α) {w w' : World} {S : Nat → Prop} {v : Value} {x : α} (h : s.own w S v x) (hb : Below w.heap.size w w') : s.own w' S v x := s.own_keep h fun k hk => hb.block k (s.own_lt h hk)
theorem Sp.own_chg (s : Sp α) {w w' : World} {S T : Nat → Prop} {v : Value} {x : α} (h : s.own w S v x) (hc : ChgS T w w') (hd : ∀ k, S k → ¬ T k) : s.own w' S v x := s.own_keep h fun k hk => hc.block k (s.own_lt h hk) (hd k hk)

/-- What is left of a measure, -1 if it isn't enough. -/
def szLeft (n : Nat) (left : Int) : Int := if (n : Int) ≤ left then left - n else -1
theorem szLeft_yes {n : Nat} {left : Int} (h : (n : Int) ≤ left) : szLeft n left = left - n := if_pos h
theorem szLeft_no {n : Nat} {left : Int} (h : left < n) : szLeft n left = -1 := if_neg (by omega)

def SzOk (f : FuncId) (s : Sp α) : Prop := ∀ (v : Value) (x : α) (left : Int) (w : World), s.rd w v x → 0 ≤ left → left ≤ 1048576 →
  Calls Try.prog f #[v, .int .i64 left] w fun e w' => e = .returned (.int .i64 (szLeft (s.sz x) left)) ∧ Below w.heap.size w w'
/-- What a copy leaves. -/
def Made (s : Sp α) (x : α) (w : World) (e : Ending) (w' : World) : Prop := ∃ u S, e = .returned u ∧ s.own w' S u x ∧ (∀ k, S k → w.heap.size ≤ k) ∧ Below w.heap.size w w'
def ToOk (f : FuncId) (s : Sp α) : Prop := ∀ (v : Value) (x : α) (w : World), s.rd w v x → s.sz x ≤ 1048576 → Calls Try.prog f #[v] w (Made s x w)
theorem toOk_c {f : FuncId} {s : Sp α} (h : ToOk f s) (v : Value) (x : α) (w : World) (hr : s.rd w v x) (hs : s.sz x ≤ 1048576) : Calls Try.prog f #[v] w (Made s x w) := h v x w hr hs
def EqOk (f : FuncId) (s : Sp α) : Prop := ∀ (v u : Value) (x : α) (w : World), s.rd w v x → s.rd w u x →
  Calls Try.prog f #[v, u] w fun e w' => e = .returned (.bool true) ∧ Below w.heap.size w w'
def MarkOk (f : FuncId) (s : Sp α) : Prop := ∀ (S : Nat → Prop) (v : Value) (x : α) (k : Int) (w : World), s.own w S v x → 0 ≤ k → k + s.cnt x ≤ 1000000000000000 →
  Calls Try.prog f #[v, .int .i64 k] w fun e w' => e = .returned (.int .i64 (k + s.cnt x)) ∧ s.own w' S v (s.mark k x) ∧ ChgS S w w'
def HeldOk (f : FuncId) (s : Sp α) : Prop := ∀ (v : Value) (x : α) (k : Int) (w : World), s.rd w v (s.mark k x) → 0 ≤ k → k + s.cnt x ≤ 1000000000000000 →
  Calls Try.prog f #[v, .int .i64 k] w fun e w' => e = .returned (.int .i64 (k + s.cnt x)) ∧ Below w.heap.size w w'

/-- What a function leaves that returns new memory and a code; that returns numbers or a bool, with or without a code. -/
def MadeC (s : Sp α) (x : α) (c : Int) (w : World) (e : Ending) (w' : World) : Prop := ∃ u S, e = .returned (.tuple #[u, .int .i64 c]) ∧ s.own w' S u x ∧ (∀ k, S k → w.heap.size ≤ k) ∧ s.cnt x ≤ 1000000000 ∧ Below w.heap.size w w'
def RetI (x c : Int) (w : World) (e : Ending) (w' : World) : Prop := e = .returned (.tuple #[.int .i64 x, .int .i64 c]) ∧ Below w.heap.size w w'
def RetBC (b : Bool) (c : Int) (w : World) (e : Ending) (w' : World) : Prop := e = .returned (.tuple #[.bool b, .int .i64 c]) ∧ Below w.heap.size w w'
def RetB (b : Bool) (w : World) (e : Ending) (w' : World) : Prop := e = .returned (.bool b) ∧ Below w.heap.size w w'

/-! ### Lists of numbers -/
theorem RdI.keep {w w' : World} {A : Option Addr} {xs : List Int} (h : RdI w A xs) (hz : w.heap.size ≤ w'.heap.size) (hk : ∀ k, k < w.heap.size → w'.heap[k]? = w.heap[k]?) : RdI w' A xs := by
  intro j hj
  obtain ⟨g, o, rfl, hg, hc⟩ := h j hj
  exact ⟨g, o, rfl, by omega, by rw [World.cell?_of_block (hk g hg)]; exact hc⟩
theorem ownsRow_keep {w w' : World} {base n size : Nat} {e : TypeId} {v : Value} {xs : List Value} (h : w.ownsRow base e size v n xs) (hk : ∀ k, v.ownBlock = some k → w'.heap[k]? = w.heap[k]?) : w'.ownsRow base e size v n xs := by
  refine ⟨h.1, ?_⟩
  rcases h.2 with h2 | ⟨g, cap, cur, hv, hg, hh, r⟩
  · exact .inl h2
  · exact .inr ⟨g, cap, cur, hv, hg, by rw [hk g (by rw [hv]; rfl)]; exact hh, r⟩
theorem ownsRow_cap {w : World} {base n size : Nat} {e : TypeId} {v : Value} {xs : List Value} (h : w.ownsRow base e size v n xs) : ∃ A cap, v = .slice A n cap ∧ n ≤ maxLen := by
  rcases h.2 with ⟨h2, h0⟩ | ⟨g, cap, cur, hv, hg, hh, h1, h2, r⟩
  · exact ⟨none, 0, by rw [h2, h0], by omega⟩
  · exact ⟨_, cap, hv, by omega⟩
def spI : Sp (List Int) where
  rd w v xs := ∃ A cap, v = .slice A xs.length cap ∧ xs.length ≤ maxLen ∧ RdI w A xs
  own w S v xs := w.ownsRow 0 2 1 v xs.length (xs.map (Value.int .i64)) ∧ (∀ k, v.ownBlock = some k → S k) ∧ ∀ k, S k → k < w.heap.size
  sz := List.length
  cnt := List.length
  mark k xs := marks k xs.length
  rd_keep := fun ⟨A, cap, h1, h2, h3⟩ hz hk => ⟨A, cap, h1, h2, h3.keep hz hk⟩
  own_keep := fun {w w' S v xs} ⟨h1, h2, h3⟩ hk => ⟨ownsRow_keep h1 fun k e => hk k (h2 k e), h2, fun k hS => by
    have h := h3 k hS
    have e := hk k hS
    by_cases hlt : k < w'.heap.size
    · exact hlt
    · rw [Array.getElem?_eq_none (by omega), Array.getElem?_eq_getElem h] at e
      cases e⟩
  own_lt := fun ⟨_, _, h3⟩ hS => h3 _ hS
  own_rd := fun {w S v xs} ⟨h1, _, _⟩ => by
    obtain ⟨A, cap, rfl, h4⟩ := ownsRow_cap h1
    exact ⟨A, cap, rfl, h4, RdI.own h1⟩
theorem spI_cnt (x : List Int) : spI.cnt x ≤ spI.sz x := Nat.le_refl _
theorem spI_form {w : World} {v : Value} {x : List Int} (h : spI.rd w v x) : ∃ A c, v = .slice A x.length c ∧ x.length ≤ maxLen ∧ RdI w A x := h
theorem spI_of {w : World} {base : Nat} {v : Value} {xs : List Int} (h : OwnI w base v xs) : spI.own w (fun k => v.ownBlock = some k) v xs :=
  ⟨ownsRow_base h (Nat.zero_le _), fun k e => e, fun k e => (World.ownsRow.lt h k e).2⟩

theorem szI_ok : SzOk 57 spI := by
  rintro v x left w ⟨A, cap, rfl, h2, h3⟩ h0 hl
  have h2' := h2
  unfold maxLen at h2'
  by_cases h : (x.length : Int) ≤ left
  · have HZ := Lib.hid (szLeft_yes h)
    refine (szI_yes A x.length cap left w h hl).mono ?_
    rintro e w' ⟨rfl, rfl⟩
    exact ⟨ret_i HZ.out.symm, Below.refl _ _⟩
  · have HZ := Lib.hid (szLeft_no (n := x.length) (left := left) (by omega))
    refine (szI_no A x.length cap left w h0 (by omega) hl h2).mono ?_
    rintro e w' ⟨rfl, rfl⟩
    exact ⟨ret_i HZ.out.symm, Below.refl _ _⟩
theorem toI_ok : ToOk 19 spI := by
  rintro v x w ⟨A, cap, rfl, h2, h3⟩ hs
  refine (toI_any A cap x w h3 hs).mono ?_
  rintro e w' ⟨rfl, h1, h4⟩
  exact ⟨_, _, rfl, spI_of h1, fun k hk => (World.ownsRow.lt h1 k hk).1, h4⟩
theorem eqI_any (A B : Option Addr) (c d : Nat) (xs : List Int) (w : World) (hA : RdI w A xs) (hB : RdI w B xs) (hl : xs.length ≤ maxLen) :
    Calls Try.prog 22 #[.slice A xs.length c, .slice B xs.length d] w fun e w' => e = .returned (.bool true) ∧ Below w.heap.size w w' := by
  unfold maxLen at hl
  go_enter Try.func22, Try.ntmps22
  go_wp2
  go_loopw [5] (fun s5 wr => ∃ k : Nat, k ≤ xs.length ∧ s5 = .int .i64 k ∧ Below w.heap.size w wr) (fun s5 _ => xs.length - (intOf s5).toNat)
  case atStart => exact ⟨0, by omega, rfl, Below.refl _ _⟩
  case round =>
    obtain ⟨k, hk, rfl, hbel⟩ := hrel
    by_cases hlt : k < xs.length
    · obtain ⟨g, o, rfl, hg, hc⟩ := (hA.below' hbel) k hlt
      obtain ⟨g', o', rfl, hg', hc'⟩ := (hB.below' hbel) k hlt
      have i0 : (0 : Int) ≤ (k : Int) := by omega
      have i1 : (k : Int) < (xs.length : Int) := by omega
      go_wp2
      go_quiet (fail)
      go_wp2
      exact ⟨⟨k + 1, by omega, by go_num, below_drewN hbel _⟩, by simp [intOf]; omega⟩
    · have hge : ¬ ((k : Int) < (xs.length : Int)) := by omega
      go_wp2
      go_ret
      exact ⟨rfl, hbel⟩
theorem eqI_ok : EqOk 22 spI := by
  rintro v u x w ⟨A, cap, rfl, h2, h3⟩ ⟨B, cap', rfl, h5, h6⟩
  exact eqI_any A B cap cap' x w h3 h6 h2
set_option maxHeartbeats 400000 in
theorem markI_all (base T : Nat) (A : Option Addr) (n cap : Nat) (ys : List Value) (k : Int) (w : World) (h : w.ownsRow base T 1 (.slice A n cap) n ys) (hk0 : 0 ≤ k) (hk1 : k + n ≤ 1000000000000000) :
    Calls Try.prog 26 #[.slice A n cap, .int .i64 k] w fun e w' => e = .returned (.int .i64 (k + n)) ∧ w'.ownsRow base T 1 (.slice A n cap) n ((marks k n).map (Value.int .i64)) ∧ w.grownBy w' (Value.slice A n cap).ownBlock := by
  go_enter Try.func26, Try.ntmps26
  go_wp2
  go_loopw [1, 5] (fun s1 s5 wr => ∃ (m : Nat) (zs : List Value), m ≤ n ∧ s5 = .int .i64 m ∧ s1 = .int .i64 (k + m) ∧ wr.ownsRow base T 1 (.slice A n cap) n zs ∧ zs.take m = (marks k m).map (Value.int .i64) ∧ w.grownBy wr (Value.slice A n cap).ownBlock) (fun _ s5 _ => n - (intOf s5).toNat)
  case atStart => exact ⟨0, ys, by omega, rfl, by simp, h, by simp [marks], World.grownBy.refl _ _⟩
  case round =>
    obtain ⟨m, zs, hm, rfl, rfl, hown, htake, hgrow⟩ := hrel
    by_cases hlt : m < n
    · rcases hown.2 with ⟨hv, h0⟩ | ⟨g, c, cur, hv, hb, hg, h1⟩
      · omega
      · simp only [Value.slice.injEq] at hv
        obtain ⟨rfl, -, rfl⟩ := hv
        have hz : zs.length = n := by have := hown.1; simpa using this
        have hc := hown.cellAt m (by omega)
        obtain ⟨ov, hc2⟩ : ∃ ov, wr.cell? ⟨g, m, none⟩ = some ov := ⟨_, by rw [hc]; exact List.getElem?_eq_getElem (by omega)⟩
        have hf := hown.frozenAt m
        have i0 : (0 : Int) ≤ (m : Int) := by omega
        have i1 : (m : Int) < (n : Int) := by omega
        obtain ⟨hs1, hs2⟩ := hown.stored m (.int .i64 (k + m))
        have hset := marks_set k n m hlt zs hz htake
        have HS := Lib.hid hset
        clear hset htake hc hz h1 hg
        go_wp2
        exact ⟨⟨m + 1, _, by omega, by go_num, by (congr 1; omega), hs1, HS.out, World.grownBy.trans_ hgrow hs2⟩, by simp [intOf]; omega⟩
    · obtain rfl : m = n := by omega
      have hge : ¬ ((m : Int) < (m : Int)) := by omega
      have hz : zs.length = m := by have := hown.1; simpa using this
      have HZ : Hid (zs = (marks k m).map (Value.int .i64)) := Lib.hid (by rw [← htake, List.take_of_length_le (by omega)])
      clear htake hz
      go_wp2
      go_ret
      exact ⟨rfl, by rw [← HZ.out]; exact hown, hgrow⟩
theorem markI_ok : MarkOk 26 spI := by
  rintro S v x k w ⟨h1, h2, h3⟩ hk0 hk1
  obtain ⟨A, cap, rfl, h4⟩ := ownsRow_cap h1
  refine (markI_all 0 2 A x.length cap _ k w h1 hk0 hk1).mono ?_
  rintro e w' ⟨rfl, h5, h6⟩
  refine ⟨rfl, ⟨by show w'.ownsRow 0 2 1 _ (marks k x.length).length _; rw [marks_length]; exact h5, h2, fun k' hS => Nat.lt_of_lt_of_le (h3 k' hS) h6.size⟩, ChgS.of_grown h6 h2⟩
set_option maxHeartbeats 400000 in
theorem heldI_all (A : Option Addr) (n cap : Nat) (k : Int) (w : World) (h : RdI w A (marks k n)) (hk0 : 0 ≤ k) (hk1 : k + n ≤ 1000000000000000) :
    Calls Try.prog 27 #[.slice A n cap, .int .i64 k] w fun e w' => e = .returned (.int .i64 (k + n)) ∧ w = w' := by
  go_enter Try.func27, Try.ntmps27
  go_wp2
  go_loop [1, 5] (fun s1 s5 => ∃ m : Nat, m ≤ n ∧ s5 = .int .i64 m ∧ s1 = .int .i64 (k + m)) (fun _ s5 => n - (intOf s5).toNat)
  case atStart => exact ⟨0, by omega, rfl, by simp⟩
  case round =>
    obtain ⟨m, hm, rfl, rfl⟩ := hrel
    by_cases hlt : m < n
    · obtain ⟨g, o, rfl, hg, hc⟩ := h m (by rw [marks_length]; exact hlt)
      rw [marks_get k n m hlt] at hc
      have i0 : (0 : Int) ≤ (m : Int) := by omega
      have i1 : (m : Int) < (n : Int) := by omega
      go_wp2
      exact ⟨⟨m + 1, by omega, by go_num, by (congr 1; omega)⟩, by simp [intOf]; omega⟩
    · obtain rfl : m = n := by omega
      have hge : ¬ ((m : Int) < (m : Int)) := by omega
      go_wp2
      go_ret
      exact ⟨rfl, rfl⟩
theorem heldI_ok : HeldOk 27 spI := by
  rintro v x k w ⟨A, cap, rfl, h2, h3⟩ hk0 hk1
  have e : (spI.mark k x).length = x.length := marks_length k x.length
  rw [e]
  refine (heldI_all A x.length cap k w h3 hk0 hk1).mono ?_
  rintro e w' ⟨rfl, rfl⟩
  exact ⟨rfl, Below.refl _ _⟩
end Go.Proofs.Yteappjgdcbploaa
namespace Go.Proofs.Yteappjgdcbploaa
open Go.RowKit
set_option linter.unusedVariables false
set_option linter.unusedSimpArgs false
variable {α : Type}

def sumOf (f : α → Nat) (xs : List α) : Nat := (xs.map f).sum
theorem sumOf_take (f : α → Nat) (nul : α) (xs : List α) (j : Nat) (hj : j < xs.length) : sumOf f (xs.take (j + 1)) = sumOf f (xs.take j) + f (xs.getD j nul) := by
  unfold sumOf
  rw [List.take_succ_eq_append_getElem hj, List.map_append, List.sum_append]
  simp [hj]
theorem sumOf_le (f : α → Nat) (xs : List α) (j : Nat) : sumOf f (xs.take j) ≤ sumOf f xs := by
  unfold sumOf
  conv => rhs; rw [← List.take_append_drop j xs, List.map_append, List.sum_append]
  omega
theorem sumOf_el (f : α → Nat) (nul : α) (xs : List α) (j : Nat) (hj : j < xs.length) : f (xs.getD j nul) ≤ sumOf f xs := by
  have h1 := sumOf_take f nul xs j hj
  have h2 := sumOf_le f xs (j + 1)
  omega
theorem sumOf_mono {f g : α → Nat} (xs : List α) (h : ∀ x, f x ≤ g x) : sumOf f xs ≤ sumOf g xs := by
  unfold sumOf
  induction xs with
  | nil => simp
  | cons a l ih => simp only [List.map_cons, List.sum_cons]; have := h a; omega
theorem heap_lt {w w' : World} {k : Nat} (h : k < w.heap.size) (e : w'.heap[k]? = w.heap[k]?) : k < w'.heap.size := by
  by_cases hlt : k < w'.heap.size
  · exact hlt
  · rw [Array.getElem?_eq_none (by omega), Array.getElem?_eq_getElem h] at e
    cases e

/-- What list j of a marked list of lists is. -/
def markAt (s : Sp α) (nul : α) (k : Int) (xs : List α) (j : Nat) : α := s.mark (k + sumOf s.cnt (xs.take j)) (xs.getD j nul)
def spL (E : TypeId) (s : Sp α) (nul : α) : Sp (List α) where
  rd w v xs := ∃ A cap, v = .slice A xs.length cap ∧ xs.length ≤ maxLen ∧ ∀ j, j < xs.length → ∃ g o u, A = some ⟨g, o, none⟩ ∧ g < w.heap.size ∧ w.cell? ⟨g, o + j, none⟩ = some u ∧ s.rd w u (xs.getD j nul)
  own w S v xs := ∃ (vs : List Value) (T : Nat → Nat → Prop), w.ownsRow 0 E 1 v xs.length vs ∧ (∀ j, j < xs.length → s.own w (T j) (vs.getD j undef) (xs.getD j nul)) ∧ (∀ i j, i < j → j < xs.length → ∀ k, T i k → ¬ T j k) ∧
    (∀ j, j < xs.length → ∀ k, T j k → S k ∧ v.ownBlock ≠ some k) ∧ (∀ k, v.ownBlock = some k → S k) ∧ ∀ k, S k → k < w.heap.size
  sz xs := xs.length + sumOf s.sz xs
  cnt xs := sumOf s.cnt xs
  mark k xs := (List.range xs.length).map (markAt s nul k xs)
  rd_keep := fun ⟨A, cap, h1, h2, h3⟩ hz hk => ⟨A, cap, h1, h2, fun j hj => by
    obtain ⟨g, o, u, rfl, hg, hc, hr⟩ := h3 j hj
    exact ⟨g, o, u, rfl, by omega, by rw [World.cell?_of_block (hk g hg)]; exact hc, s.rd_keep hr hz hk⟩⟩
  own_keep := fun {w w' S v xs} ⟨vs, T, h1, h2, h3, h4, h5, h6⟩ hk => ⟨vs, T, ownsRow_keep h1 fun k e => hk k (h5 k e), fun j hj => s.own_keep (h2 j hj) fun k hT => hk k (h4 j hj k hT).1, h3, h4, h5, fun k hS => heap_lt (h6 k hS) (hk k hS)⟩
  own_lt := fun ⟨_, _, _, _, _, _, _, h6⟩ hS => h6 _ hS
  own_rd := fun {w S v xs} ⟨vs, T, h1, h2, h3, h4, h5, h6⟩ => by
    obtain ⟨A, cap, rfl, hm⟩ := ownsRow_cap h1
    refine ⟨A, cap, rfl, hm, fun j hj => ?_⟩
    have hvl : vs.length = xs.length := by have := h1.1; simpa using this
    rcases h1.2 with ⟨hv, h0⟩ | ⟨g, c, cur, hv, hb, hg, r⟩
    · omega
    · simp only [Value.slice.injEq] at hv
      obtain ⟨rfl, -, rfl⟩ := hv
      have hc := h1.cellAt j (by omega)
      refine ⟨g, 0, vs.getD j undef, rfl, (h1.lt g rfl).2, ?_, s.own_rd (h2 j hj)⟩
      rw [Nat.zero_add, hc, List.getD_eq_getElem?_getD, List.getElem?_eq_getElem (by omega)]
      rfl
theorem spL_mark_length (E : TypeId) (s : Sp α) (nul : α) (k : Int) (xs : List α) : ((spL E s nul).mark k xs).length = xs.length := by simp [spL]
theorem spL_mark_get (E : TypeId) (s : Sp α) (nul : α) (k : Int) (xs : List α) (j : Nat) (h : j < xs.length) : ((spL E s nul).mark k xs).getD j nul = markAt s nul k xs j := by simp [spL, h]
theorem spL_row {E : TypeId} {s : Sp α} {nul : α} {w : World} {A : Option Addr} {n cap : Nat} {xs : List α} (h : (spL E s nul).rd w (.slice A n cap) xs) {j : Nat} (hj : j < xs.length) :
    ∃ g o u, A = some ⟨g, o, none⟩ ∧ g < w.heap.size ∧ w.cell? ⟨g, o + j, none⟩ = some u ∧ s.rd w u (xs.getD j nul) := by
  obtain ⟨A', cap', e, _, h3⟩ := h
  simp only [Value.slice.injEq] at e
  obtain ⟨rfl, _, rfl⟩ := e
  exact h3 j hj
/-- Owned, with the rows ahead of j turned into what they are to be. -/
def OwnTo (E : TypeId) (s : Sp α) (nul : α) (w : World) (S : Nat → Prop) (v : Value) (xs : List α) (tgt : Nat → α) (j : Nat) : Prop :=
  ∃ (vs : List Value) (T : Nat → Nat → Prop), w.ownsRow 0 E 1 v xs.length vs ∧ (∀ i, i < xs.length → s.own w (T i) (vs.getD i undef) (if i < j then tgt i else xs.getD i nul)) ∧ (∀ i j, i < j → j < xs.length → ∀ k, T i k → ¬ T j k) ∧
    (∀ j, j < xs.length → ∀ k, T j k → S k ∧ v.ownBlock ≠ some k) ∧ (∀ k, v.ownBlock = some k → S k) ∧ ∀ k, S k → k < w.heap.size
theorem OwnTo.start {E : TypeId} {s : Sp α} {nul : α} {w : World} {S : Nat → Prop} {v : Value} {xs : List α} {tgt : Nat → α} (h : (spL E s nul).own w S v xs) : OwnTo E s nul w S v xs tgt 0 := by
  obtain ⟨vs, T, h1, h2, h3, h4, h5, h6⟩ := h
  exact ⟨vs, T, h1, fun i hi => by simpa using h2 i hi, h3, h4, h5, h6⟩
theorem OwnTo.done {E : TypeId} {s : Sp α} {nul : α} {w : World} {S : Nat → Prop} {v : Value} {xs ys : List α} {tgt : Nat → α} (h : OwnTo E s nul w S v xs tgt xs.length) (hl : ys.length = xs.length) (hy : ∀ j, j < xs.length → ys.getD j nul = tgt j) : (spL E s nul).own w S v ys := by
  obtain ⟨vs, T, h1, h2, h3, h4, h5, h6⟩ := h
  refine ⟨vs, T, by rw [hl]; exact h1, fun j hj => ?_, fun i j hij hj => h3 i j hij (by omega), fun j hj => h4 j (by omega), h5, h6⟩
  rw [hl] at hj
  rw [hy j hj]
  have := h2 j hj
  rwa [if_pos hj] at this
/-- The row at j, and how it goes on behind its mark. -/
theorem OwnTo.at_ {E : TypeId} {s : Sp α} {nul : α} {w : World} {S : Nat → Prop} {g c n cap : Nat} {xs : List α} {tgt : Nat → α} {j : Nat} {A : Option Addr} (h : OwnTo E s nul w S (.slice A n cap) xs tgt j) (hj : j < xs.length) :
    ∃ g u Tj, A = some ⟨g, 0, none⟩ ∧ w.cell? ⟨g, j, none⟩ = some u ∧ s.own w Tj u (xs.getD j nul) ∧ (∀ k, Tj k → S k) ∧
      ∀ w', s.own w' Tj u (tgt j) → ChgS Tj w w' → OwnTo E s nul w' S (.slice A n cap) xs tgt (j + 1) := by
  obtain ⟨vs, T, h1, h2, h3, h4, h5, h6⟩ := h
  have hvl : vs.length = xs.length := by have := h1.1; simpa using this
  rcases h1.2 with ⟨hv, h0⟩ | ⟨g, c, cur, hv, hb, hg, r⟩
  · omega
  · simp only [Value.slice.injEq] at hv
    obtain ⟨rfl, rfl, rfl⟩ := hv
    have hc := h1.cellAt j (by omega)
    refine ⟨g, vs.getD j undef, T j, rfl, ?_, ?_, fun k hk => (h4 j hj k hk).1, fun w' hw hch => ?_⟩
    · rw [hc, List.getD_eq_getElem?_getD, List.getElem?_eq_getElem (by omega)]; rfl
    · have := h2 j hj
      rwa [if_neg (by omega)] at this
    · refine ⟨vs, T, ownsRow_keep h1 fun q hq => hch.block q (h6 q (h5 q hq)) (fun ht => (h4 j hj q ht).2 hq), fun i hi => ?_, h3, h4, h5, fun q hq => Nat.lt_of_lt_of_le (h6 q hq) hch.size⟩
      by_cases hij : i = j
      · subst hij
        rw [if_pos (by omega)]
        exact hw
      · have e : (if i < j + 1 then tgt i else xs.getD i nul) = if i < j then tgt i else xs.getD i nul := by
          by_cases h1 : i < j
          · rw [if_pos h1, if_pos (by omega)]
          · rw [if_neg h1, if_neg (by omega)]
        rw [e]
        refine s.own_chg (h2 i hi) hch fun q hq => ?_
        rcases Nat.lt_or_gt_of_ne hij with h | h
        · exact h3 i j h hj q hq
        · exact fun hTj => h3 j i h hi q hTj hq
/-- A copy of the first j rows in a new row of n. -/
def CopyTo (E : TypeId) (s : Sp α) (nul : α) (B : Nat) (w : World) (v : Value) (xs : List α) (j : Nat) : Prop :=
  ∃ (vs : List Value) (T : Nat → Nat → Prop), w.ownsRow B E 1 v xs.length vs ∧ (∀ i, i < j → s.own w (T i) (vs.getD i undef) (xs.getD i nul)) ∧ (∀ i j', i < j' → j' < j → ∀ k, T i k → ¬ T j' k) ∧ (∀ i, i < j → ∀ k, T i k → B < k)
theorem CopyTo.done {E : TypeId} {s : Sp α} {nul : α} {B : Nat} {w : World} {n cap : Nat} {xs : List α} (h : CopyTo E s nul B w (.slice (some ⟨B, 0, none⟩) n cap) xs xs.length) :
    (spL E s nul).own w (fun k => B ≤ k ∧ k < w.heap.size) (.slice (some ⟨B, 0, none⟩) n cap) xs := by
  obtain ⟨vs, T, h1, h2, h3, h4⟩ := h
  refine ⟨vs, T, ownsRow_base h1 (Nat.zero_le _), h2, h3, fun j hj k hk => ⟨⟨by have := h4 j hj k hk; omega, s.own_lt (h2 j hj) hk⟩, fun e => ?_⟩, fun k hk => ?_, fun k hk => hk.2⟩
  · have := h4 j hj k hk
    simp [Value.ownBlock] at e
    omega
  · have := World.ownsRow.lt h1 k hk
    exact ⟨this.1, this.2⟩
/-- The next row is copied and stored. -/
theorem CopyTo.step {E : TypeId} {s : Sp α} {nul : α} {B : Nat} {w w2 : World} {n cap : Nat} {xs : List α} {j : Nat} {u : Value} {S : Nat → Prop} (h : CopyTo E s nul B w (.slice (some ⟨B, 0, none⟩) n cap) xs j) (hj : j < xs.length)
    (hb : Below w.heap.size w w2) (ho : s.own w2 S u (xs.getD j nul)) (hS : ∀ k, S k → w.heap.size ≤ k) :
    (∃ ov, w2.cell? ⟨B, j, none⟩ = some ov) ∧ w2.frozen? ⟨B, j, none⟩ = false ∧ CopyTo E s nul B (w2.setCell ⟨B, j, none⟩ u) (.slice (some ⟨B, 0, none⟩) n cap) xs (j + 1) ∧ w2.grownBy (w2.setCell ⟨B, j, none⟩ u) (some B) ∧ B < w.heap.size := by
  obtain ⟨vs, T, h1, h2, h3, h4⟩ := h
  have hvl : vs.length = xs.length := by have := h1.1; simpa using this
  have hB := (World.ownsRow.lt h1 B rfl).2
  have o2 := World.ownsRow.kept (row := none) h1 ⟨hb.os, hb.tape, hb.output, hb.size, fun k hk _ => hb.block k hk⟩ (.inr (by simp [Value.ownBlock]))
  obtain ⟨A', c', hv, hm⟩ := ownsRow_cap h1
  simp only [Value.slice.injEq] at hv
  obtain ⟨rfl, rfl, rfl⟩ := hv
  obtain ⟨st1, st2⟩ := o2.stored j u
  refine ⟨⟨vs[j], by rw [o2.cellAt j (by omega)]; exact List.getElem?_eq_getElem (by omega)⟩, o2.frozenAt j, ⟨vs.set j u, fun i => if i = j then S else T i, st1, fun i hi => ?_, fun i j' hij hj' k => ?_, fun i hi k => ?_⟩, st2, hB⟩
  · by_cases hij : i = j
    · subst hij
      have e : (vs.set i u).getD i undef = u := by rw [List.getD_eq_getElem?_getD, List.getElem?_set_self (by omega)]; rfl
      rw [e]
      show s.own _ (if i = i then S else T i) u _
      rw [if_pos rfl]
      exact s.own_keep ho fun k hk => st2.block k (s.own_lt ho hk) (by have := hS k hk; simp; omega)
    · have e : (vs.set j u).getD i undef = vs.getD i undef := by rw [List.getD_eq_getElem?_getD, List.getElem?_set_ne (by omega), ← List.getD_eq_getElem?_getD]
      rw [e]
      show s.own _ (if i = j then S else T i) _ _
      rw [if_neg hij]
      have hi' : i < j := by omega
      have o := s.own_below (h2 i hi') hb
      exact s.own_keep o fun k hk => st2.block k (s.own_lt o hk) (by have := h4 i hi' k hk; simp; omega)
  · show (if i = j then S else T i) k → ¬ (if j' = j then S else T j') k
    rw [if_neg (by omega : ¬ i = j)]
    by_cases h : j' = j
    · rw [if_pos h]
      intro hT hSk
      have := s.own_lt (h2 i (by omega)) hT
      have := hS k hSk
      omega
    · rw [if_neg h]
      exact h3 i j' hij (by omega) k
  · show (if i = j then S else T i) k → B < k
    by_cases h : i = j
    · rw [if_pos h]
      intro hSk
      have := hS k hSk
      omega
    · rw [if_neg h]
      exact h4 i (by omega) k

/-- What owns nothing: the nil slice, and an empty one. -/
theorem spL_nil (E : TypeId) (s : Sp α) (nul : α) (w : World) : (spL E s nul).own w (fun _ => False) (.slice none 0 0) [] :=
  ⟨[], fun _ _ => False, World.ownsRow_nil _ _ _ _, fun j hj => by simp at hj, fun i j _ hj => by simp at hj, fun j hj => by simp at hj, fun k hk => by simp [Value.ownBlock] at hk, fun k hk => hk.elim⟩
theorem spL_empty (E : TypeId) (s : Sp α) (nul : α) (w : World) : (spL E s nul).own (w.alloc (.cells #[] E)) (fun k => k = w.heap.size) (.slice (some ⟨w.heap.size, 0, none⟩) 0 0) [] := by
  have h : (w.alloc (.cells #[] E)).ownsRow 0 E 1 (.slice (some ⟨w.heap.size, 0, none⟩) 0 0) 0 [] := World.ownsRow_lit w #[] 0 (Nat.zero_le _) (by unfold maxLen; omega) rfl
  exact ⟨[], fun _ _ => False, h, fun j hj => by simp at hj, fun i j _ hj => by simp at hj, fun j hj => by simp at hj, fun k hk => by simp [Value.ownBlock] at hk; exact hk.symm, fun k hk => by subst hk; simp⟩
/-- One more row behind the others. -/
theorem spL_push {E : TypeId} {s : Sp α} {nul : α} {w : World} {S T : Nat → Prop} {v u : Value} {xs : List α} {x : α} (hv : (spL E s nul).own w S v xs) (hu : s.own w T u x) (hd : ∀ k, S k → ¬ T k) :
    ∃ vs, w.ownsRow 0 E 1 v xs.length vs ∧ ∀ (w1 w2 : World) (v' : Value) (g : Nat), Below w.heap.size w w1 → w2.ownsRow 0 E 1 v' (xs.length + 1) (vs ++ [u]) → w1.grownBy w2 v.ownBlock → v'.ownBlock = some g → (v.ownBlock = some g ∨ w.heap.size ≤ g) → g < w2.heap.size →
      (spL E s nul).own w2 (fun k => S k ∨ T k ∨ k = g) v' (xs ++ [x]) := by
  obtain ⟨vs, P, h1, h2, h3, h4, h5, h6⟩ := hv
  refine ⟨vs, h1, fun w1 w2 v' g hb ho hg hg1 hg2 hg3 => ?_⟩
  have hvl : vs.length = xs.length := by have := h1.1; simpa using this
  have hT : ∀ k, T k → k < w.heap.size := fun k hk => s.own_lt hu hk
  have same : ∀ k, k < w.heap.size → some k ≠ v.ownBlock → w2.heap[k]? = w.heap[k]? := fun k hk hn => (hg.block k (by have := hb.size; omega) hn).trans (hb.block k hk)
  refine ⟨vs ++ [u], fun j => if j < xs.length then P j else T, by simpa using ho, fun j hj => ?_, fun i j hij hj k hki => ?_, fun j hj k hk => ?_, fun k hk => ?_, fun k hk => ?_⟩
  · simp only [List.length_append, List.length_singleton] at hj
    by_cases hlt : j < xs.length
    · have e : (vs ++ [u]).getD j undef = vs.getD j undef := by rw [List.getD_eq_getElem?_getD, List.getElem?_append_left (by omega), ← List.getD_eq_getElem?_getD]
      have e2 : (xs ++ [x]).getD j nul = xs.getD j nul := by rw [List.getD_eq_getElem?_getD, List.getElem?_append_left (by omega), ← List.getD_eq_getElem?_getD]
      rw [e, e2]
      show s.own w2 (if j < xs.length then P j else T) _ _
      rw [if_pos hlt]
      exact s.own_keep (h2 j hlt) fun k hk => same k (s.own_lt (h2 j hlt) hk) (fun e => (h4 j hlt k hk).2 e.symm)
    · have hj' : j = xs.length := by omega
      have e : (vs ++ [u]).getD j undef = u := by rw [List.getD_eq_getElem?_getD, List.getElem?_append_right (by omega), hj', hvl]; simp
      have e2 : (xs ++ [x]).getD j nul = x := by rw [List.getD_eq_getElem?_getD, List.getElem?_append_right (by omega), hj']; simp
      rw [e, e2]
      show s.own w2 (if j < xs.length then P j else T) _ _
      rw [if_neg hlt]
      exact s.own_keep hu fun k hk => same k (hT k hk) (fun e => hd k (h5 k e.symm) hk)
  · simp only [List.length_append, List.length_singleton] at hj
    have hi : i < xs.length := by omega
    change (if i < xs.length then P i else T) k at hki
    rw [if_pos hi] at hki
    show ¬ (if j < xs.length then P j else T) k
    by_cases hlt : j < xs.length
    · rw [if_pos hlt]; exact h3 i j hij hlt k hki
    · rw [if_neg hlt]; exact hd k (h4 i hi k hki).1
  · simp only [List.length_append, List.length_singleton] at hj
    change (if j < xs.length then P j else T) k at hk
    rw [hg1]
    by_cases hlt : j < xs.length
    · rw [if_pos hlt] at hk
      refine ⟨.inl (h4 j hlt k hk).1, fun e => ?_⟩
      obtain rfl : g = k := by simpa using e
      rcases hg2 with h | h
      · exact (h4 j hlt g hk).2 h
      · have := h6 g (h4 j hlt g hk).1; omega
    · rw [if_neg hlt] at hk
      refine ⟨.inr (.inl hk), fun e => ?_⟩
      obtain rfl : g = k := by simpa using e
      rcases hg2 with h | h
      · exact hd g (h5 g h) hk
      · have := hT g hk; omega
  · rw [hg1] at hk
    exact .inr (.inr (by simpa using hk.symm))
  · have hz : w.heap.size ≤ w2.heap.size := Nat.le_trans hb.size hg.size
    rcases hk with hk | hk | hk
    · have := h6 k hk; omega
    · have := hT k hk; omega
    · omega
end Go.Proofs.Yteappjgdcbploaa
namespace Go.Proofs.Yteappjgdcbploaa
open Go.RowKit
set_option linter.unusedVariables false
set_option linter.unusedSimpArgs false

def spII : Sp (List (List Int)) := spL 22 spI []
theorem spII_cnt (x : List (List Int)) : spII.cnt x ≤ spII.sz x := by
  show sumOf spI.cnt x ≤ x.length + sumOf spI.sz x
  have := sumOf_mono x spI_cnt
  omega
theorem spII_mark_length (k : Int) (xs : List (List Int)) : (spII.mark k xs).length = xs.length := spL_mark_length _ _ _ _ _
theorem spII_mark_get (k : Int) (xs : List (List Int)) (j : Nat) (h : j < xs.length) : (spII.mark k xs).getD j [] = markAt spI [] k xs j := spL_mark_get _ _ _ _ _ _ h
theorem infoII : (Try.prog.info? 22).map (fun i => (i.zero, i.size, i.bytes)) = some (some (.slice none 0 0), 1, 24) := by kernel_rfl
theorem szLeft_step {n m r : Nat} {left : Int} (h0 : 0 ≤ left) (h : szLeft n left < 0) (hm : n ≤ m) : szLeft m left = -1 := by
  unfold szLeft at h ⊢
  split at h
  · omega
  · rw [if_neg (by omega)]
set_option maxHeartbeats 400000 in
theorem szII_ok : SzOk 42 spII := by
  rintro v xs left w ⟨A, cap, rfl, hm, h3⟩ h0 hl
  have hx' := hm
  unfold maxLen at hx'
  show Calls _ _ _ _ fun e w' => e = .returned (.int .i64 (szLeft (xs.length + sumOf spI.sz xs) left)) ∧ _
  by_cases hs : left < xs.length
  · have HB := Lib.hid (szLeft_no (n := xs.length + sumOf spI.sz xs) (left := left) (by omega))
    clear h3
    go_enter Try.func42, Try.ntmps42
    go_wp2_with (fail)
    go_ret
    exact ⟨ret_i HB.out.symm, Below.refl _ _⟩
  · have HA := Lib.hid h3
    clear h3
    go_enter Try.func42, Try.ntmps42
    go_wp2_with (fail)
    go_loopw [1, 5] (fun s1 s5 wr => ∃ (j : Nat), s5 = .int .i64 j ∧ j ≤ xs.length ∧ s1 = .int .i64 (left - xs.length - sumOf spI.sz (xs.take j)) ∧ 0 ≤ left - xs.length - sumOf spI.sz (xs.take j) ∧ Below w.heap.size w wr) (fun _ s5 _ => xs.length - (intOf s5).toNat)
    case atStart => exact ⟨0, rfl, by omega, by simp [sumOf], by simp [sumOf]; omega, Below.refl _ _⟩
    case round =>
      obtain ⟨j, rfl, hj, rfl, hp, bel⟩ := hrel
      have hle := sumOf_le spI.sz xs j
      by_cases hlt : j < xs.length
      · obtain ⟨g, o, u, rfl, hg, hc, hr⟩ := HA.out j hlt
        have hc' : wr.cell? ⟨g, o + j, none⟩ = some u := by rw [bel.cell hg]; exact hc
        have HR := Lib.hid (spI.rd_below hr bel)
        have HST := Lib.hid (sumOf_take spI.sz [] xs j hlt)
        have hle2 := sumOf_le spI.sz xs (j + 1)
        clear hr hc hg
        generalize hL : left - (xs.length : Int) - (sumOf spI.sz (xs.take j) : Int) = L at *
        have HL := Lib.hid hL
        clear hL
        have L1 : L ≤ 1048576 := by have := HL.out; omega
        have i0 : (0 : Int) ≤ (j : Int) := by omega
        have i1 : (j : Int) < (xs.length : Int) := by omega
        have HC := Lib.hid (szI_ok u _ L wr HR.out hp L1)
        by_cases hfit : (spI.sz (xs.getD j []) : Int) ≤ L
        · have e1 := szLeft_yes hfit
          rw [e1] at HC
          have HR : Hid (L - (spI.sz (xs.getD j []) : Int) = left - xs.length - sumOf spI.sz (xs.take (j + 1))) := Lib.hid (by have := HST.out; have := HL.out; omega)
          clear e1
          generalize spI.sz (xs.getD j []) = n at *
          have t0 : 0 ≤ L - (n : Int) := by omega
          go_wp2_with (fail)
          refine HC.out.mono ?_; rintro e w2 ⟨rfl, hb2⟩
          have bel2 := bstep bel bel.size hb2
          clear hc' hb2
          go_wp2_with (fail)
          exact ⟨⟨j + 1, by go_num, by omega, by rw [HR.out], by have := HR.out; omega, bel2⟩, by simp [intOf]; omega⟩
        · have e1 := szLeft_no (n := spI.sz (xs.getD j [])) (left := L) (by omega)
          rw [e1] at HC
          have HB : Hid (szLeft (xs.length + sumOf spI.sz xs) left = -1) := Lib.hid (szLeft_no (by have := HST.out; have := HL.out; omega))
          clear e1 hfit
          go_wp2_with (fail)
          refine HC.out.mono ?_; rintro e w2 ⟨rfl, hb2⟩
          have bel2 := bstep bel bel.size hb2
          clear hc' hb2
          go_wp2_with (fail)
          go_ret
          exact ⟨ret_i HB.out.symm, bel2⟩
      · obtain rfl : j = xs.length := by omega
        have hge : ¬ ((xs.length : Int) < (xs.length : Int)) := by omega
        have HB : Hid (left - (xs.length : Int) - (sumOf spI.sz xs : Int) = szLeft (xs.length + sumOf spI.sz xs) left) := Lib.hid (by
          rw [List.take_length] at hp
          rw [szLeft_yes (by omega)]
          omega)
        have HE : Hid (left - (xs.length : Int) - (sumOf spI.sz (xs.take xs.length) : Int) = szLeft (xs.length + sumOf spI.sz xs) left) := Lib.hid (by rw [List.take_length]; exact HB.out)
        go_wp2_with (fail)
        go_ret
        exact ⟨by first | exact ret_i HB.out | exact ret_i HE.out, bel⟩
set_option maxHeartbeats 400000 in
theorem eqII_ok : EqOk 46 spII := by
  rintro v u xs w ⟨A, c, rfl, hm, h3⟩ ⟨B, d, rfl, hm', h3'⟩
  have hx' := hm
  unfold maxLen at hx'
  have HA := Lib.hid h3
  have HA' := Lib.hid h3'
  clear h3 h3' hm' hm
  go_enter Try.func46, Try.ntmps46
  go_wp2_with (fail)
  go_loopw [5] (fun s5 wr => ∃ k : Nat, k ≤ xs.length ∧ s5 = .int .i64 k ∧ Below w.heap.size w wr) (fun s5 _ => xs.length - (intOf s5).toNat)
  case atStart => exact ⟨0, by omega, rfl, Below.refl _ _⟩
  case round =>
    obtain ⟨k, hk, rfl, hbel⟩ := hrel
    by_cases hlt : k < xs.length
    · obtain ⟨g, o, u, rfl, hg0, hc0, hr0⟩ := HA.out k hlt
      obtain ⟨g', o', u', rfl, hg0', hc0', hr0'⟩ := HA'.out k hlt
      have hc : wr.cell? ⟨g, o + k, none⟩ = some u := by rw [hbel.cell hg0]; exact hc0
      have hc' : wr.cell? ⟨g', o' + k, none⟩ = some u' := by rw [hbel.cell hg0']; exact hc0'
      have hg : g < wr.heap.size := by have := hbel.size; omega
      have hg' : g' < wr.heap.size := by have := hbel.size; omega
      have i0 : (0 : Int) ≤ (k : Int) := by omega
      have i1 : (k : Int) < (xs.length : Int) := by omega
      have HT := Lib.hid (eqI_ok u u' (xs.getD k []) wr.drew (spI.rd_below (spI.rd_below hr0 hbel) (Below.refl _ _).drew) (spI.rd_below (spI.rd_below hr0' hbel) (Below.refl _ _).drew))
      clear hr0 hr0' hc0 hc0' hg0 hg0'
      go_wp2_with (fail)
      go_region_held3 (fun wx => wx.cell? ⟨g, o + k, none⟩ = some u ∧ wx.cell? ⟨g', o' + k, none⟩ = some u') (first | go_keep | assumption) (first | (go_at_call 22; refine HT.out.mono ?_; rintro e wm ⟨rfl, hbm⟩; have SM : wm.cell? ⟨g, o + k, none⟩ = some u ∧ wm.cell? ⟨g', o' + k, none⟩ = some u' := ⟨(by rw [hbm.cell hg]; exact hc), (by rw [hbm.cell hg']; exact hc')⟩))
      all_goals
        go_wp2_with (fail)
        exact ⟨⟨k + 1, by omega, by go_num, hbel.drew.trans (hbm.mono (by have := hbel.size; go_size))⟩, by simp [intOf]; omega⟩
    · have hge : ¬ ((k : Int) < (xs.length : Int)) := by omega
      go_wp2_with (fail)
      go_ret
      exact ⟨rfl, hbel⟩
set_option maxHeartbeats 400000 in
theorem markII_ok : MarkOk 47 spII := by
  intro S v xs k w h hk0 hk1
  obtain ⟨A, cap, rfl, hm, -⟩ := spII.own_rd h
  have hx' := hm
  unfold maxLen at hx'
  replace hk1 : k + (sumOf spI.cnt xs : Nat) ≤ 1000000000000000 := hk1
  show Calls _ _ _ _ fun e w' => e = .returned (.int .i64 (k + (sumOf spI.cnt xs : Nat))) ∧ _ ∧ _
  have HS := Lib.hid (OwnTo.start (tgt := markAt spI [] k xs) h)
  clear h hm
  go_enter Try.func47, Try.ntmps47
  go_wp2_with (fail)
  go_loopw [1, 5] (fun s1 s5 wr => ∃ j : Nat, j ≤ xs.length ∧ s5 = .int .i64 j ∧ s1 = .int .i64 (k + sumOf spI.cnt (xs.take j)) ∧ OwnTo 22 spI [] wr S (.slice A xs.length cap) xs (markAt spI [] k xs) j ∧ ChgS S w wr) (fun _ s5 _ => xs.length - (intOf s5).toNat)
  case atStart => exact ⟨0, by omega, rfl, by simp [sumOf], HS.out, ChgS.refl _ _⟩
  case round =>
    obtain ⟨j, hj, rfl, rfl, own, chg⟩ := hrel
    clear HS
    by_cases hlt : j < xs.length
    · obtain ⟨g, u, Tj, rfl, hc, ho, hT, hnext⟩ := OwnTo.at_ (g := 0) (c := 0) own hlt
      have hle := sumOf_le spI.cnt xs (j + 1)
      have hst := sumOf_take spI.cnt [] xs j hlt
      have i0 : (0 : Int) ≤ (j : Int) := by omega
      have i1 : (j : Int) < (xs.length : Int) := by omega
      have HC := Lib.hid (markI_ok Tj u (xs.getD j []) (k + sumOf spI.cnt (xs.take j)) wr ho (by omega) (by omega))
      have HN := Lib.hid hnext
      have HT := Lib.hid hT
      have E1 : Hid (k + (sumOf spI.cnt (xs.take j) : Int) + (spI.cnt (xs.getD j []) : Int) = k + (sumOf spI.cnt (xs.take (j + 1)) : Int)) := Lib.hid (by omega)
      have t1 : k + (sumOf spI.cnt (xs.take j) : Int) + (spI.cnt (xs.getD j []) : Int) ≤ 1000000000000000 := by omega
      clear hst hnext hT own ho
      generalize spI.cnt (xs.getD j []) = n at *
      go_wp2_with (fail)
      refine HC.out.mono ?_; rintro e w2 ⟨rfl, ow2, ch2⟩
      have HO := Lib.hid (HN.out w2 ow2 ch2)
      have chg2 := chg.trans (ch2.mono HT.out)
      clear ow2 ch2 chg HC
      go_wp2_with (fail)
      exact ⟨⟨j + 1, by omega, by go_num, by rw [E1.out], HO.out, chg2⟩, by simp [intOf]; omega⟩
    · have hge : ¬ ((j : Int) < (xs.length : Int)) := by omega
      obtain rfl : j = xs.length := by omega
      have HO : Hid (spII.own wr S (.slice A xs.length cap) (spII.mark k xs)) := Lib.hid (own.done (spL_mark_length _ _ _ _ _) (fun j hj => spL_mark_get _ _ _ _ _ _ hj))
      have E1 : Hid (k + (sumOf spI.cnt (xs.take xs.length) : Int) = k + (sumOf spI.cnt xs : Int)) := Lib.hid (by rw [List.take_length])
      clear own
      go_wp2_with (fail)
      go_ret
      exact ⟨by first | rfl | exact ret_i E1.out, HO.out, chg⟩
set_option maxRecDepth 100000 in
set_option maxHeartbeats 400000 in
theorem toII_ok : ToOk 44 spII := by
  rintro v xs w ⟨A, c, rfl, hm, h3⟩ hsz
  obtain ⟨i0, hi, hz0, hz1, hz2⟩ := info_parts infoII
  replace hsz : xs.length + sumOf spI.sz xs ≤ 1048576 := hsz
  have hl1 : xs.length ≤ 1048576 := by omega
  have HA := Lib.hid h3
  have HSZ : Hid (∀ j, j < xs.length → spI.sz (xs.getD j []) ≤ 1048576) := Lib.hid fun j hj => by have := sumOf_el spI.sz [] xs j hj; omega
  clear h3 hm hsz
  go_enter Try.func44, Try.ntmps44
  go_wp2_with (refine wpList_make_full _ rfl (.tmp 6) (.tmp 6) 23 rfl w.heap.size 22 i0 (.slice none 0 0) 1 Try.underlying23 hi hz0 hz1 .i64 .i64 (xs.length : Int) (xs.length : Int) xs.length rfl rfl rfl rfl (by rw [hz2]; omega) (by unfold maxLen; omega) (Nat.le_refl _) ?_; intro w1 own1 gr1)
  go_loopw [4] (fun s4 wr => ∃ (j : Nat), s4 = .int .i64 j ∧ j ≤ xs.length ∧ CopyTo 22 spI [] w.heap.size wr (.slice (some ⟨w.heap.size, 0, none⟩) xs.length xs.length) xs j ∧ Below w.heap.size w wr) (fun s4 _ => xs.length - (intOf s4).toNat)
  case atStart => exact ⟨0, rfl, by omega, ⟨_, fun _ _ => False, own1, fun i hi => by omega, fun i j _ hj => by omega, fun i hi => by omega⟩, (Below.refl _ _).grown gr1 (Nat.le_refl _) (fun k hk => by simp at hk)⟩
  case round =>
    obtain ⟨j, rfl, hj, own, bel⟩ := hrel
    clear own1 gr1
    by_cases hlt : j < xs.length
    · obtain ⟨g, o, u, rfl, hg, hc0, hr⟩ := HA.out j hlt
      have hc : wr.cell? ⟨g, o + j, none⟩ = some u := by rw [bel.cell hg]; exact hc0
      have i0 : (0 : Int) ≤ (j : Int) := by omega
      have i1 : (j : Int) < (xs.length : Int) := by omega
      have hz := bel.size
      have HT := Lib.hid (toI_ok u (xs.getD j []) wr (spI.rd_below hr bel) (HSZ.out j hlt))
      have HOWN := Lib.hid own
      clear hr hg hc0 own
      go_wp2_with (fail)
      refine HT.out.mono ?_; rintro e w2 ⟨u2, S2, rfl, ow2, hS2, b2⟩
      obtain ⟨A2, cap2, rfl, -, -⟩ := spI.own_rd ow2
      obtain ⟨⟨ov, hov⟩, hfz, st1, st2, hzz⟩ := HOWN.out.step hlt b2 ow2 hS2
      generalize (xs.getD j []).length = n2 at *
      have hzz2 : w.heap.size < w2.heap.size := Nat.lt_of_lt_of_le hzz b2.size
      have bel2 := (bel.trans (b2.mono hz)).grown st2 (by have := b2.size; omega) (fun k hk => by simp at hk; omega)
      have HST := Lib.hid st1
      clear st1 st2 ow2 HOWN HT hc hS2 b2
      go_wp2_with (fail)
      exact ⟨⟨j + 1, by go_num, by omega, HST.out, bel2⟩, by simp [intOf]; omega⟩
    · have hge : ¬ ((j : Int) < (xs.length : Int)) := by omega
      obtain rfl : j = xs.length := by omega
      have HO := Lib.hid own.done
      clear own
      go_wp2_with (fail)
      go_ret
      exact ⟨_, _, rfl, HO.out, fun k hk => hk.1, bel⟩
end Go.Proofs.Yteappjgdcbploaa
namespace Go.Proofs.Yteappjgdcbploaa
open Go.RowKit
set_option linter.unusedVariables false
set_option linter.unusedSimpArgs false

theorem ret_b {a b : Bool} (h : a = b) : Ending.returned (.bool a) = .returned (.bool b) := by rw [h]

/-- A call that leaves its world, in a region behind draws. -/
theorem quiet_more {P : Program} {f : FuncId} {args : Array Value} {w : World} {a n : Nat} {v : Value} (h : ∀ W : World, W = w.drewN (a + n) → Calls P f args W fun e w' => e = .returned v ∧ W = w') :
    Calls P f args (w.drewN (a + n)) fun e w'' => e = .returned v ∧ ∃ m, w'' = w.drewN (a + m) :=
  (h _ rfl).mono fun _ _ ⟨he, hm⟩ => ⟨he, n, hm.symm⟩
theorem map_take_succ {α β : Type} (f : α → β) (l : List α) (d : α) {j : Nat} (h : j < l.length) : (l.take (j + 1)).map f = (l.take j).map f ++ [f (l.getD j d)] := by
  rw [List.take_succ_eq_append_getElem h, List.map_append]
  simp [h]
theorem spI_at {w : World} {A : Option Addr} {n c : Nat} {x : List Int} (h : spI.rd w (.slice A n c) x) {j : Nat} (hj : j < x.length) :
    ∃ g o, A = some ⟨g, o, none⟩ ∧ g < w.heap.size ∧ w.cell? ⟨g, o + j, none⟩ = some (.int .i64 (x.getD j 0)) := by
  obtain ⟨A', c', e, _, h3⟩ := h
  simp only [Value.slice.injEq] at e
  obtain ⟨rfl, _, rfl⟩ := e
  exact h3 j hj
theorem rdII_of {w : World} {A : Option Addr} {n c : Nat} {xss : List (List Int)} (h : spII.rd w (.slice A n c) xss) : n = xss.length ∧ xss.length ≤ maxLen ∧ RdII w A xss ∧ ∀ j, j < xss.length → (xss.getD j []).length ≤ maxLen := by
  have h0 := h
  obtain ⟨A', c', e, hm, _⟩ := h0
  simp only [Value.slice.injEq] at e
  refine ⟨e.2.1, hm, fun j hj => ?_, fun j hj => ?_⟩
  all_goals
    obtain ⟨g, o, u, rfl, hg, hc, hr⟩ := spL_row h hj
    obtain ⟨B, cc, rfl, hl, hb⟩ := spI_form hr
    first | exact ⟨g, o, B, cc, rfl, hg, hc, hb⟩ | exact hl
theorem rd_of {w : World} {A : Option Addr} {c : Nat} {xss : List (List Int)} (h : RdII w A xss ∧ (∀ j, j < xss.length → (xss.getD j []).length ≤ maxLen) ∧ xss.length ≤ maxLen) : spII.rd w (.slice A xss.length c) xss :=
  ⟨A, c, rfl, h.2.2, fun j hj => by
    obtain ⟨g, o, B, cc, rfl, hg, hc, hr⟩ := h.1 j hj
    exact ⟨g, o, _, rfl, hg, hc, B, cc, rfl, h.2.1 j hj, hr⟩⟩
end Go.Proofs.Yteappjgdcbploaa
namespace Go.Proofs.Yteappjgdcbploaa
open Go.RowKit
set_option linter.unusedVariables false
set_option linter.unusedSimpArgs false

def Blk (w : World) (b : Nat) (vs : List Value) (t : TypeId) : Prop := w.heap[b]? = some (.cells vs.toArray t (0, 0))
theorem Blk.lt {w : World} {b : Nat} {vs : List Value} {t : TypeId} (h : Blk w b vs t) : b < w.heap.size := lt_of_block h
theorem Blk.new (w : World) (vs : List Value) (t : TypeId) : Blk (w.alloc (.cells vs.toArray t)) w.heap.size vs t := by
  show (w.heap.push _)[w.heap.size]? = _
  simp
theorem Blk.below {w w' : World} {b : Nat} {vs : List Value} {t : TypeId} (h : Blk w b vs t) (hb : Below w.heap.size w w') : Blk w' b vs t := by
  unfold Blk
  rw [hb.block b h.lt]
  exact h
theorem Blk.chg {w w' : World} {b : Nat} {vs : List Value} {t : TypeId} {S : Nat → Prop} (h : Blk w b vs t) (hc : ChgS S w w') (hn : ¬ S b) : Blk w' b vs t := by
  unfold Blk
  rw [hc.block b h.lt hn]
  exact h
theorem Blk.set {w : World} {b : Nat} {vs : List Value} {t : TypeId} (h : Blk w b vs t) (i : Nat) (u : Value) : Blk (w.setCell ⟨b, i, none⟩ u) b (vs.set i u) t := by
  have hlt := h.lt
  have h' : w.heap[b] = .cells vs.toArray t (0, 0) := by simpa [Blk, Array.getElem?_eq_getElem hlt] using h
  show (w.heap.modify b _)[b]? = _
  rw [Array.getElem?_eq_getElem (by simpa using hlt), Array.getElem_modify_self, h']
  simp
theorem Blk.other {w : World} {b : Nat} {vs : List Value} {t : TypeId} (h : Blk w b vs t) {p : Addr} (hp : b ≠ p.block) (u : Value) : Blk (w.setCell p u) b vs t := by
  unfold Blk
  rw [Below.heap_setCell _ _ _ _ hp]
  exact h
theorem Blk.cell {w : World} {b : Nat} {vs : List Value} {t : TypeId} (h : Blk w b vs t) (i : Nat) (hi : i < vs.length) : w.cell? ⟨b, i, none⟩ = some vs[i] := by
  unfold Blk at h
  simp [World.cell?, h, hi]
theorem Blk.free {w : World} {b : Nat} {vs : List Value} {t : TypeId} (h : Blk w b vs t) (i : Nat) : w.frozen? ⟨b, i, none⟩ = false := by
  unfold Blk at h
  simp [World.frozen?, h]
theorem Blk.c1 {w : World} {b : Nat} {x : Value} {t : TypeId} (h : Blk w b [x] t) : b < w.heap.size ∧ w.cell? ⟨b, 0, none⟩ = some x := ⟨h.lt, h.cell 0 (by simp)⟩
theorem Blk.c2 {w : World} {b : Nat} {x y : Value} {t : TypeId} (h : Blk w b [x, y] t) : b < w.heap.size ∧ w.cell? ⟨b, 0, none⟩ = some x ∧ w.cell? ⟨b, 1, none⟩ = some y := ⟨h.lt, h.cell 0 (by simp), h.cell 1 (by simp)⟩
theorem Blk.c3 {w : World} {b : Nat} {x y z : Value} {t : TypeId} (h : Blk w b [x, y, z] t) : b < w.heap.size ∧ w.cell? ⟨b, 0, none⟩ = some x ∧ w.cell? ⟨b, 1, none⟩ = some y ∧ w.cell? ⟨b, 2, none⟩ = some z :=
  ⟨h.lt, h.cell 0 (by simp), h.cell 1 (by simp), h.cell 2 (by simp)⟩
theorem Blk.c4 {w : World} {b : Nat} {x y z u : Value} {t : TypeId} (h : Blk w b [x, y, z, u] t) : b < w.heap.size ∧ w.cell? ⟨b, 0, none⟩ = some x ∧ w.cell? ⟨b, 1, none⟩ = some y ∧ w.cell? ⟨b, 2, none⟩ = some z ∧ w.cell? ⟨b, 3, none⟩ = some u :=
  ⟨h.lt, h.cell 0 (by simp), h.cell 1 (by simp), h.cell 2 (by simp), h.cell 3 (by simp)⟩
theorem Blk.c5 {w : World} {b : Nat} {x y z u v : Value} {t : TypeId} (h : Blk w b [x, y, z, u, v] t) : b < w.heap.size ∧ w.cell? ⟨b, 0, none⟩ = some x ∧ w.cell? ⟨b, 1, none⟩ = some y ∧ w.cell? ⟨b, 2, none⟩ = some z ∧ w.cell? ⟨b, 3, none⟩ = some u ∧ w.cell? ⟨b, 4, none⟩ = some v :=
  ⟨h.lt, h.cell 0 (by simp), h.cell 1 (by simp), h.cell 2 (by simp), h.cell 3 (by simp), h.cell 4 (by simp)⟩
/-- That the cells may be written. -/
theorem Blk.f1 {w : World} {b : Nat} {vs : List Value} {t : TypeId} (h : Blk w b vs t) : w.frozen? ⟨b, 0, none⟩ = false := h.free 0
theorem Blk.f3 {w : World} {b : Nat} {vs : List Value} {t : TypeId} (h : Blk w b vs t) : w.frozen? ⟨b, 0, none⟩ = false ∧ w.frozen? ⟨b, 1, none⟩ = false ∧ w.frozen? ⟨b, 2, none⟩ = false := ⟨h.free 0, h.free 1, h.free 2⟩
theorem Blk.drew {w : World} {b : Nat} {vs : List Value} {t : TypeId} (h : Blk w b vs t) : Blk w.drew b vs t := h
theorem Blk.alloc {w : World} {b : Nat} {vs : List Value} {t : TypeId} (h : Blk w b vs t) (o : Obj) : Blk (w.alloc o) b vs t := h.below ((Below.refl _ _).alloc (Nat.le_refl _) _)
/-- A store changes the block that it goes into, alone. -/
theorem ChgS.set (w : World) (p : Addr) (u : Value) : ChgS (fun k => k = p.block) w (w.setCell p u) :=
  ⟨rfl, rfl, rfl, Nat.le_of_eq (World.size_setCell _ _ _).symm, fun k _ hn => Below.heap_setCell _ _ _ _ hn⟩
theorem Sp.own_alloc {α : Type} (s : Sp α) {w : World} {S : Nat → Prop} {v : Value} {x : α} (h : s.own w S v x) (o : Obj) : s.own (w.alloc o) S v x := s.own_below h ((Below.refl _ _).alloc (Nat.le_refl _) _)
theorem Sp.rd_alloc {α : Type} (s : Sp α) {w : World} {v : Value} {x : α} (h : s.rd w v x) (o : Obj) : s.rd (w.alloc o) v x := s.rd_below h ((Below.refl _ _).alloc (Nat.le_refl _) _)
/-- A store into a block that is none of its own. -/
theorem Sp.own_set {α : Type} (s : Sp α) {w : World} {S : Nat → Prop} {v : Value} {x : α} (h : s.own w S v x) {p : Addr} (hp : ¬ S p.block) (u : Value) : s.own (w.setCell p u) S v x :=
  s.own_keep h fun k hk => Below.heap_setCell _ _ _ _ (fun e => hp (e ▸ hk))
theorem Sp.own_drew {α : Type} (s : Sp α) {w : World} {S : Nat → Prop} {v : Value} {x : α} (h : s.own w S v x) : s.own w.drew S v x := s.own_keep h fun k hk => rfl
theorem Sp.rd_drew {α : Type} (s : Sp α) {w : World} {v : Value} {x : α} (h : s.rd w v x) : s.rd w.drew v x := s.rd_keep h (Nat.le_refl _) fun k hk => rfl
end Go.Proofs.Yteappjgdcbploaa
namespace Go.Proofs.Yteappjgdcbploaa
open Go.RowKit
set_option linter.unusedVariables false
set_option linter.unusedSimpArgs false

/-- The cells that a slice leads to. -/
def RdC (w : World) (A : Option Addr) (news : List Value) : Prop := ∀ j, j < news.length → ∃ g o, A = some ⟨g, o, none⟩ ∧ w.cell? ⟨g, o + j, none⟩ = some (news.getD j undef)
theorem RdI.cells {w : World} {A : Option Addr} {xs : List Int} (h : RdI w A xs) : RdC w A (xs.map (Value.int .i64)) := by
  intro j hj
  have hj' : j < xs.length := by simpa using hj
  obtain ⟨g, o, e, _, hc⟩ := h j hj'
  exact ⟨g, o, e, by rw [hc]; simp [hj']⟩
theorem oneCell_ints (xs : List Int) : ∀ u ∈ xs.map (Value.int .i64), u.oneCell' = true := by
  intro u hu
  obtain ⟨x, _, rfl⟩ := List.mem_map.1 hu
  rfl
section
variable {P : Program} (w : World)
theorem run_append_void (base : Nat) (t ty e : TypeId) (i : TypeInfo) (size : Nat) (ht : P.underlying t = some (.slice e)) (hi : P.info? e = some i)
    (v : Value) (n : Nat) (xs : List Value) (hown : w.ownsRow base e size v n xs) (c : Nat) : (Builtin.append_ #[t, t] ty #[v, .slice none 0 c]).run P w = .ok v w := by
  rcases hown.2 with ⟨rfl, rfl⟩ | ⟨g, cap, cur, rfl, _, _, hnc, _⟩
  · simp [Builtin.append_, run_underlying ht, sizeOf, typeInfo, hi, Builtin.lenOf, Builtin.firstCells]
  · simp [Builtin.append_, run_underlying ht, sizeOf, typeInfo, hi, Builtin.lenOf, Builtin.firstCells, hnc, storeCells]
/-- What an append of a list leaves. -/
theorem run_append_list (base : Nat) (t ty e : TypeId) (i : TypeInfo) (z : Value) (bytes : Nat) (ht : P.underlying t = some (.slice e)) (hi : P.info? e = some i) (hz : i.zero = some z)
    (hsize : i.size = 1) (hby : i.bytes = bytes) (hzs : z.cells.size = 1)
    (v : Value) (n : Nat) (xs : List Value) (hown : w.ownsRow base e 1 v n xs) (A : Option Addr) (m c : Nat) (news : List Value) (hm : news.length = m) (hr : RdC w A news) (h1 : ∀ u ∈ news, u.oneCell' = true)
    (h63 : n + m ≤ maxLen) (hbytes : (n + m) * bytes ≤ 140737488355328) (hbase : base ≤ w.heap.size) :
    ∃ v' w', (Builtin.append_ #[t, t] ty #[v, .slice A m c]).run P w = .ok v' w' ∧ w'.ownsRow base e 1 v' (n + m) (xs ++ news) ∧ w.grownBy w' v.ownBlock ∧ (v'.ownBlock = v.ownBlock ∨ v'.ownBlock = some w.heap.size) := by
  subst hm
  cases A with
  | none =>
    have e : news = [] := by
      cases news with
      | nil => rfl
      | cons a l => obtain ⟨g, o, e, _⟩ := hr 0 (by simp); cases e
    subst e
    exact ⟨v, w, run_append_void w base t ty _ i 1 ht hi v n xs hown c, by simpa using hown, World.grownBy.refl w _, .inl rfl⟩
  | some ad =>
    have hcells : ∀ j u, news[j]? = some u → w.cell? (ad.add j) = some u := by
      intro j u hu
      obtain ⟨hj, hu'⟩ := List.getElem?_eq_some_iff.1 hu
      obtain ⟨g, o, e, hc⟩ := hr j hj
      simp only [Option.some.injEq] at e
      subst e
      have hadd : (⟨g, o, none⟩ : Addr).add j = ⟨g, o + j, none⟩ := by unfold Addr.add; split <;> simp_all
      rw [hadd, hc, ← hu', List.getD_eq_getElem?_getD, List.getElem?_eq_getElem hj]
      rfl
    obtain ⟨v', w', hrun, h2, h3, _, h5⟩ := run_append_own_at (P := P) w base t ty e i z 1 bytes ht hi hz hsize hby hzs (by decide) v n xs hown ad _ c news (by omega) hcells h1 h63 hbytes hbase
    exact ⟨v', w', hrun, h2, h3, h5⟩
theorem wp_append_list {o : Oper} {a : Act} {K : Act → World → Prop} {Q : Exit → Act → World → Prop} (s x : Operand) (t : TypeId)
    (ho : o.op = .call { callee := .builtin .append, args := #[s, x], argTypes := #[t, t] })
    (base : Nat) (e : TypeId) (i : TypeInfo) (z : Value) (bytes : Nat) (ht : P.underlying t = some (.slice e)) (hi : P.info? e = some i) (hz : i.zero = some z)
    (hsize : i.size = 1) (hby : i.bytes = bytes) (hzs : z.cells.size = 1)
    (v : Value) (n : Nat) (xs : List Value) (hs : a.eval s = v) (hown : w.ownsRow base e 1 v n xs) (A : Option Addr) (m c : Nat) (news : List Value) (hm : news.length = m) (hx : a.eval x = .slice A m c) (hr : RdC w A news) (h1 : ∀ u ∈ news, u.oneCell' = true)
    (h63 : n + m ≤ maxLen) (hbytes : (n + m) * bytes ≤ 140737488355328) (hbase : base ≤ w.heap.size)
    (h : ∀ v' w', w'.ownsRow base e 1 v' (n + m) (xs ++ news) → w.grownBy w' v.ownBlock → (v'.ownBlock = v.ownBlock ∨ v'.ownBlock = some w.heap.size) → K (a.put o.dst v') w') : o.wp P a w K Q := by
  obtain ⟨v', w', hrun, h2, h3, h4⟩ := run_append_list (P := P) w base t o.type e i z bytes ht hi hz hsize hby hzs v n xs hown A m c news hm hr h1 h63 hbytes hbase
  unfold Oper.wp execOp
  simp only [ho, resolve, invoke, builtin, Sem.run_bind, Sem.run_pure, Result.andThen_ok, List.map_toArray, List.map_cons, List.map_nil, hs, hx, hrun]
  exact h v' w' h2 h3 h4
theorem wpList_append_list {ops : Array Oper} {rest : List Oper} {o : Oper} {a : Act} {Q : Exit → Act → World → Prop} (hgd : o.guard = none) (s x : Operand) (t : TypeId)
    (ho : o.op = .call { callee := .builtin .append, args := #[s, x], argTypes := #[t, t] })
    (base : Nat) (e : TypeId) (i : TypeInfo) (z : Value) (bytes : Nat) (ht : P.underlying t = some (.slice e)) (hi : P.info? e = some i) (hz : i.zero = some z)
    (hsize : i.size = 1) (hby : i.bytes = bytes) (hzs : z.cells.size = 1)
    (v : Value) (n : Nat) (xs : List Value) (hs : a.eval s = v) (hown : w.ownsRow base e 1 v n xs) (A : Option Addr) (m c : Nat) (news : List Value) (hm : news.length = m) (hx : a.eval x = .slice A m c) (hr : RdC w A news) (h1 : ∀ u ∈ news, u.oneCell' = true)
    (h63 : n + m ≤ maxLen) (hbytes : (n + m) * bytes ≤ 140737488355328) (hbase : base ≤ w.heap.size)
    (h : ∀ v' w', w'.ownsRow base e 1 v' (n + m) (xs ++ news) → w.grownBy w' v.ownBlock → (v'.ownBlock = v.ownBlock ∨ v'.ownBlock = some w.heap.size) → wpList P ops Q rest (a.put o.dst v') w') : wpList P ops Q (o :: rest) a w :=
  wpList_plain hgd fun _ hK => wp_append_list w s x t ho base e i z bytes ht hi hz hsize hby hzs v n xs hs hown A m c news hm hx hr h1 h63 hbytes hbase fun v' w' h2 h3 h4 => hK _ _ (h v' w' h2 h3 h4)
end
end Go.Proofs.Yteappjgdcbploaa
namespace Go.Proofs.Yteappjgdcbploaa
open Go.RowKit
set_option linter.unusedVariables false
set_option linter.unusedSimpArgs false

structure Mat where
  P : Int
  C : Int
  R : List (List Int)
def spMat : Sp Mat where
  rd w v x := ∃ v2, v = .agg #[.int .i64 x.P, .int .i64 x.C, v2] ∧ spII.rd w v2 x.R
  own w S v x := ∃ (v2 : Value) (T2 : Nat → Prop), v = .agg #[.int .i64 x.P, .int .i64 x.C, v2] ∧ spII.own w T2 v2 x.R ∧ (∀ k, T2 k → S k) ∧ ∀ k, S k → k < w.heap.size
  sz x := spII.sz x.R
  cnt x := spII.cnt x.R
  mark k x := { x with R := spII.mark (k) x.R }
  rd_keep := fun ⟨v2, e, r2⟩ hz hk => ⟨v2, e, spII.rd_keep r2 hz hk⟩
  own_keep := fun {w w' S v x} ⟨v2, T2, e, o2, s2, hl⟩ hk => ⟨v2, T2, e, spII.own_keep o2 (fun k h => hk k (s2 k h)), s2, fun k hS => heap_lt (hl k hS) (hk k hS)⟩
  own_lt := fun ⟨_, _, _, _, _, hl⟩ hS => hl _ hS
  own_rd := fun ⟨v2, T2, e, o2, s2, hl⟩ => ⟨v2, e, spII.own_rd o2⟩

theorem spMat_cnt (x : Mat) : spMat.cnt x ≤ spMat.sz x := by
  show spII.cnt x.R ≤ spII.sz x.R
  have e2 := spII_cnt x.R
  omega
theorem spMat_form {w : World} {v : Value} {x : Mat} (h : spMat.rd w v x) : ∃ A2 n2 c2, v = .agg #[.int .i64 x.P, .int .i64 x.C, .slice A2 n2 c2] ∧ spII.rd w (.slice A2 n2 c2) x.R := by
  obtain ⟨v2, rfl, r2⟩ := h
  obtain ⟨A2, c2, rfl, m2, q2⟩ := r2
  exact ⟨A2, _, c2, rfl, ⟨A2, c2, rfl, m2, q2⟩⟩
end Go.Proofs.Yteappjgdcbploaa
namespace Go.Proofs.Yteappjgdcbploaa
open Go.RowKit
set_option linter.unusedVariables false
set_option linter.unusedSimpArgs false

theorem Made.of {α : Type} {s : Sp α} {x : α} {w : World} {e : Ending} {w' : World} {u : Value} {S : Nat → Prop} (h1 : e = .returned u) (h2 : s.own w' S u x) (h3 : ∀ k, S k → w.heap.size ≤ k) (h4 : Below w.heap.size w w') : Made s x w e w' := ⟨u, S, h1, h2, h3, h4⟩
/-- A row of the call's own as new memory. -/
theorem Made.row {w w' : World} {v : Value} {xs : List Int} {e : Ending} (h1 : e = .returned v) (h2 : OwnI w' w.heap.size v xs) (h3 : Below w.heap.size w w') : Made spI xs w e w' :=
  Made.of h1 (spI_of h2) (fun k hk => (World.ownsRow.lt h2 k hk).1) h3
set_option maxHeartbeats 400000 in
theorem sOwn_any (v : Value) (xs : List Int) (w : World) (h : spI.rd w v xs) (hl : xs.length ≤ 1048576) : Calls Try.prog 132 #[v] w (Made spI xs w) := by
  obtain ⟨A, c, rfl, -, hr⟩ := h
  obtain ⟨i0, hi, hz0, hz1, hz2⟩ := info_parts infoI
  have h0 : (w.alloc (.cells #[] 2)).ownsRow w.heap.size 2 1 (.slice (some ⟨w.heap.size, 0, none⟩) 0 0) 0 [] := World.ownsRow_lit w #[] 0 (Nat.le_refl _) (by unfold maxLen; omega) rfl
  have b0 : Below w.heap.size w (w.alloc (.cells #[] 2)) := by go_grown
  have HR := Lib.hid (hr.below' b0).cells
  have HO := Lib.hid h0
  clear h0 hr
  go_enter Try.func132, Try.ntmps132
  go_wp2_with (first | (at_builtin; refine wpList_append_list _ rfl _ _ 22 rfl w.heap.size 2 i0 (.int .i64 0) 8 Try.underlying22 hi hz0 hz1 hz2 rfl (.slice (some ⟨w.heap.size, 0, none⟩) 0 0) 0 [] rfl HO.out A xs.length c (xs.map (Value.int .i64)) (by simp) rfl HR.out (oneCell_ints xs) (by unfold maxLen; omega) (by omega) (by go_size) ?_; intro v' w' own' gr' at'))
  have HO' : Hid (OwnI w' w.heap.size v' xs) := Lib.hid (by simpa [OwnI] using own')
  have L : Below w.heap.size w w' := b0.grown gr' (by go_size) (fun k hk => by simp [Value.ownBlock] at hk; omega)
  clear own' gr' at'
  go_wp2_with (fail)
  go_ret
  exact Made.row rfl HO'.out L

theorem sz_rows_le {xss : List (List Int)} : xss.length ≤ spII.sz xss := Nat.le_add_right _ _
end Go.Proofs.Yteappjgdcbploaa
namespace Go.Proofs.Yteappjgdcbploaa
open Go.RowKit
set_option linter.unusedVariables false
set_option linter.unusedSimpArgs false

section
variable {P : Program} (w : World)
/-- What an append of a list leaves. -/
theorem run_append_listN (base : Nat) (t ty e : TypeId) (i : TypeInfo) (z : Value) (size bytes : Nat) (ht : P.underlying t = some (.slice e)) (hi : P.info? e = some i) (hz : i.zero = some z)
    (hsize : i.size = size) (hby : i.bytes = bytes) (hzs : z.cells.size = size) (hsz : 0 < size)
    (v : Value) (n : Nat) (xs : List Value) (hown : w.ownsRow base e size v n xs) (A : Option Addr) (m c : Nat) (news : List Value) (hm : news.length = m * size) (hr : RdC w A news) (h1 : ∀ u ∈ news, u.oneCell' = true)
    (h63 : n + m ≤ maxLen) (hbytes : (n + m) * bytes ≤ 140737488355328) (hbase : base ≤ w.heap.size) :
    ∃ v' w', (Builtin.append_ #[t, t] ty #[v, .slice A m c]).run P w = .ok v' w' ∧ w'.ownsRow base e size v' (n + m) (xs ++ news) ∧ w.grownBy w' v.ownBlock ∧ (v'.ownBlock = v.ownBlock ∨ v'.ownBlock = some w.heap.size) := by
  cases A with
  | none =>
    have e : news = [] := by
      cases news with
      | nil => rfl
      | cons a l => obtain ⟨g, o, e, _⟩ := hr 0 (by simp); cases e
    subst e
    obtain rfl : m = 0 := by
      rcases Nat.eq_zero_or_pos m with h | h
      · exact h
      · have := Nat.mul_pos h hsz
        simp at hm
        omega
    exact ⟨v, w, run_append_void w base t ty _ i size ht hi v n xs hown c, by simpa using hown, World.grownBy.refl w _, .inl rfl⟩
  | some ad =>
    have hcells : ∀ j u, news[j]? = some u → w.cell? (ad.add j) = some u := by
      intro j u hu
      obtain ⟨hj, hu'⟩ := List.getElem?_eq_some_iff.1 hu
      obtain ⟨g, o, e, hc⟩ := hr j hj
      simp only [Option.some.injEq] at e
      subst e
      have hadd : (⟨g, o, none⟩ : Addr).add j = ⟨g, o + j, none⟩ := by unfold Addr.add; split <;> simp_all
      rw [hadd, hc, ← hu', List.getD_eq_getElem?_getD, List.getElem?_eq_getElem hj]
      rfl
    obtain ⟨v', w', hrun, h2, h3, _, h5⟩ := run_append_own_at (P := P) w base t ty e i z size bytes ht hi hz hsize hby hzs hsz v n xs hown ad _ c news hm hcells h1 h63 hbytes hbase
    exact ⟨v', w', hrun, h2, h3, h5⟩
theorem wp_append_listN {o : Oper} {a : Act} {K : Act → World → Prop} {Q : Exit → Act → World → Prop} (s x : Operand) (t : TypeId)
    (ho : o.op = .call { callee := .builtin .append, args := #[s, x], argTypes := #[t, t] })
    (base : Nat) (e : TypeId) (i : TypeInfo) (z : Value) (size bytes : Nat) (ht : P.underlying t = some (.slice e)) (hi : P.info? e = some i) (hz : i.zero = some z)
    (hsize : i.size = size) (hby : i.bytes = bytes) (hzs : z.cells.size = size) (hsz : 0 < size)
    (v : Value) (n : Nat) (xs : List Value) (hs : a.eval s = v) (hown : w.ownsRow base e size v n xs) (A : Option Addr) (m c : Nat) (news : List Value) (hm : news.length = m * size) (hx : a.eval x = .slice A m c) (hr : RdC w A news) (h1 : ∀ u ∈ news, u.oneCell' = true)
    (h63 : n + m ≤ maxLen) (hbytes : (n + m) * bytes ≤ 140737488355328) (hbase : base ≤ w.heap.size)
    (h : ∀ v' w', w'.ownsRow base e size v' (n + m) (xs ++ news) → w.grownBy w' v.ownBlock → (v'.ownBlock = v.ownBlock ∨ v'.ownBlock = some w.heap.size) → K (a.put o.dst v') w') : o.wp P a w K Q := by
  obtain ⟨v', w', hrun, h2, h3, h4⟩ := run_append_listN (P := P) w base t o.type e i z size bytes ht hi hz hsize hby hzs hsz v n xs hown A m c news hm hr h1 h63 hbytes hbase
  unfold Oper.wp execOp
  simp only [ho, resolve, invoke, builtin, Sem.run_bind, Sem.run_pure, Result.andThen_ok, List.map_toArray, List.map_cons, List.map_nil, hs, hx, hrun]
  exact h v' w' h2 h3 h4
theorem wpList_append_listN {ops : Array Oper} {rest : List Oper} {o : Oper} {a : Act} {Q : Exit → Act → World → Prop} (hgd : o.guard = none) (s x : Operand) (t : TypeId)
    (ho : o.op = .call { callee := .builtin .append, args := #[s, x], argTypes := #[t, t] })
    (base : Nat) (e : TypeId) (i : TypeInfo) (z : Value) (size bytes : Nat) (ht : P.underlying t = some (.slice e)) (hi : P.info? e = some i) (hz : i.zero = some z)
    (hsize : i.size = size) (hby : i.bytes = bytes) (hzs : z.cells.size = size) (hsz : 0 < size)
    (v : Value) (n : Nat) (xs : List Value) (hs : a.eval s = v) (hown : w.ownsRow base e size v n xs) (A : Option Addr) (m c : Nat) (news : List Value) (hm : news.length = m * size) (hx : a.eval x = .slice A m c) (hr : RdC w A news) (h1 : ∀ u ∈ news, u.oneCell' = true)
    (h63 : n + m ≤ maxLen) (hbytes : (n + m) * bytes ≤ 140737488355328) (hbase : base ≤ w.heap.size)
    (h : ∀ v' w', w'.ownsRow base e size v' (n + m) (xs ++ news) → w.grownBy w' v.ownBlock → (v'.ownBlock = v.ownBlock ∨ v'.ownBlock = some w.heap.size) → wpList P ops Q rest (a.put o.dst v') w') : wpList P ops Q (o :: rest) a w :=
  wpList_plain hgd fun _ hK => wp_append_listN w s x t ho base e i z size bytes ht hi hz hsize hby hzs hsz v n xs hs hown A m c news hm hx hr h1 h63 hbytes hbase fun v' w' h2 h3 h4 => hK _ _ (h v' w' h2 h3 h4)
end
end Go.Proofs.Yteappjgdcbploaa
namespace Go.Proofs.Yteappjgdcbploaa
open Go.RowKit
set_option linter.unusedVariables false
set_option linter.unusedSimpArgs false
variable {α : Type}

theorem getD_set {β : Type} (L : List β) (d v : β) (i j : Nat) (hi : i < L.length) : (L.set i v).getD j d = if j = i then v else L.getD j d := by
  by_cases h : j = i
  · subst h; rw [if_pos rfl, List.getD_eq_getElem?_getD, List.getElem?_set_self hi]; rfl
  · rw [if_neg h, List.getD_eq_getElem?_getD, List.getElem?_set_ne (Ne.symm h), ← List.getD_eq_getElem?_getD]
/-- The row at j of an owned list: where it lies. -/
theorem spL_own_at {E : TypeId} {s : Sp α} {nul : α} {w : World} {S : Nat → Prop} {v : Value} {xs : List α} (h : (spL E s nul).own w S v xs) {j : Nat} (hj : j < xs.length) :
    ∃ g c u T, v = .slice (some ⟨g, 0, none⟩) xs.length c ∧ S g ∧ g < w.heap.size ∧ w.cell? ⟨g, j, none⟩ = some u ∧ w.frozen? ⟨g, j, none⟩ = false ∧ s.own w T u (xs.getD j nul) ∧ (∀ k, T k → S k) ∧ ¬ T g := by
  obtain ⟨vs, T, h1, h2, h3, h4, h5, h6⟩ := h
  have hvl : vs.length = xs.length := by have := h1.1; simpa using this
  have h1' := h1
  rcases h1.2 with ⟨hv, h0⟩ | ⟨g, c, cur, hv, hb, hg, r⟩
  · omega
  · subst hv
    have hS := h5 g rfl
    refine ⟨g, c, vs.getD j undef, T j, rfl, hS, h6 g hS, ?_, h1'.frozenAt j, h2 j hj, fun k hk => (h4 j hj k hk).1, fun hT => (h4 j hj g hT).2 rfl⟩
    rw [h1'.cellAt j (by omega), List.getD_eq_getElem?_getD, List.getElem?_eq_getElem (by omega)]
    rfl
/-- A row replaced by one in new memory. -/
theorem spL_put {E : TypeId} {s : Sp α} {nul : α} {w w2 : World} {S S2 : Nat → Prop} {g n c : Nat} {u : Value} {x : α} {xs : List α} (h : (spL E s nul).own w S (.slice (some ⟨g, 0, none⟩) n c) xs) {j : Nat} (hj : j < xs.length)
    (hb : Below w.heap.size w w2) (hu : s.own w2 S2 u x) (hS2 : ∀ k, S2 k → w.heap.size ≤ k) :
    (∃ ov, w2.cell? ⟨g, j, none⟩ = some ov) ∧ w2.frozen? ⟨g, j, none⟩ = false ∧ (spL E s nul).own (w2.setCell ⟨g, j, none⟩ u) (fun k => S k ∨ S2 k) (.slice (some ⟨g, 0, none⟩) n c) (xs.set j x) ∧ w2.grownBy (w2.setCell ⟨g, j, none⟩ u) (some g) := by
  have h0 := (spL E s nul).own_below h hb
  obtain ⟨vs, T, h1, h2, h3, h4, h5, h6⟩ := h
  have hvl : vs.length = xs.length := by have := h1.1; simpa using this
  obtain rfl : n = xs.length := by
    obtain ⟨A', c', hv, _⟩ := ownsRow_cap h1
    simp only [Value.slice.injEq] at hv
    exact hv.2.1
  have hSg := h5 g rfl
  have hgl := h6 g hSg
  have o2 := World.ownsRow.kept (row := none) h1 ⟨hb.os, hb.tape, hb.output, hb.size, fun k hk _ => hb.block k hk⟩ (.inr (by simp [Value.ownBlock]))
  obtain ⟨st1, st2⟩ := o2.stored j u
  refine ⟨⟨vs[j], by rw [o2.cellAt j (by omega)]; exact List.getElem?_eq_getElem (by omega)⟩, o2.frozenAt j, ⟨vs.set j u, fun i => if i = j then S2 else T i, by rw [List.length_set]; exact st1, fun i hi => ?_, fun i j' hij hj' k => ?_, fun i hi k hk => ?_, fun k hk => .inl (h5 k hk), fun k hk => ?_⟩, st2⟩
  · rw [List.length_set] at hi
    rw [getD_set _ _ _ _ _ (by omega), getD_set _ _ _ _ _ hj]
    show s.own _ (if i = j then S2 else T i) _ _
    by_cases e : i = j
    · rw [if_pos e, if_pos e, if_pos e]
      refine s.own_set hu (fun hk => ?_) u
      have := hS2 g hk
      omega
    · rw [if_neg e, if_neg e, if_neg e]
      exact s.own_set (s.own_below (h2 i hi) hb) (fun hk => (h4 i hi g hk).2 rfl) u
  · rw [List.length_set] at hj'
    show (if i = j then S2 else T i) k → ¬ (if j' = j then S2 else T j') k
    by_cases e : i = j
    · rw [if_pos e, if_neg (by omega)]
      intro a b
      have := s.own_lt (h2 j' hj') b
      have := hS2 k a
      omega
    · rw [if_neg e]
      by_cases e2 : j' = j
      · rw [if_pos e2]
        intro a b
        have := s.own_lt (h2 i (by omega)) a
        have := hS2 k b
        omega
      · rw [if_neg e2]
        exact h3 i j' hij hj' k
  · rw [List.length_set] at hi
    change (if i = j then S2 else T i) k at hk
    by_cases e : i = j
    · rw [if_pos e] at hk
      refine ⟨.inr hk, fun e2 => ?_⟩
      have := hS2 k hk
      simp [Value.ownBlock] at e2
      omega
    · rw [if_neg e] at hk
      exact ⟨.inl (h4 i hi k hk).1, (h4 i hi k hk).2⟩
  · rcases hk with hk | hk
    · have := h6 k hk; have := hb.size; simp; omega
    · have := s.own_lt hu hk; simpa using this
end Go.Proofs.Yteappjgdcbploaa
namespace Go.Proofs.Yteappjgdcbploaa
open Go.RowKit
set_option linter.unusedVariables false
set_option linter.unusedSimpArgs false

theorem spII_grow {w : World} {S : Nat → Prop} {g n c : Nat} {xs : List (List Int)} (h : spII.own w S (.slice (some ⟨g, 0, none⟩) n c) xs) {j : Nat} (hj : j < xs.length) :
    ∃ u, w.cell? ⟨g, j, none⟩ = some u ∧ w.ownsRow 0 2 1 u (xs.getD j []).length ((xs.getD j []).map (Value.int .i64)) ∧ S g ∧ g < w.heap.size ∧ (∀ k, u.ownBlock = some k → S k ∧ k ≠ g) ∧
      ∀ (w1 w2 : World) (u' : Value) (y : Int), Below w.heap.size w w1 → w2.ownsRow 0 2 1 u' ((xs.getD j []).length + 1) ((xs.getD j []).map (Value.int .i64) ++ [.int .i64 y]) → w1.grownBy w2 u.ownBlock → (u'.ownBlock = u.ownBlock ∨ u'.ownBlock = some w1.heap.size) →
        (∃ ov, w2.cell? ⟨g, j, none⟩ = some ov) ∧ w2.frozen? ⟨g, j, none⟩ = false ∧ spII.own (w2.setCell ⟨g, j, none⟩ u') (fun k => S k ∨ u'.ownBlock = some k) (.slice (some ⟨g, 0, none⟩) n c) (xs.set j (xs.getD j [] ++ [y])) := by
  obtain ⟨vs, T, h1, h2, h3, h4, h5, h6⟩ := h
  have hvl : vs.length = xs.length := by have := h1.1; simpa using this
  obtain rfl : n = xs.length := by
    obtain ⟨A', c', hv, _⟩ := ownsRow_cap h1
    simp only [Value.slice.injEq] at hv
    exact hv.2.1
  have hSg := h5 g rfl
  have hgl := h6 g hSg
  obtain ⟨r1, r2, r3⟩ := h2 j hj
  have hug : ∀ k, (vs.getD j undef).ownBlock = some k → S k ∧ k ≠ g := fun k hk => ⟨(h4 j hj k (r2 k hk)).1, fun e => (h4 j hj k (r2 k hk)).2 (by rw [e]; rfl)⟩
  refine ⟨vs.getD j undef, ?_, r1, hSg, hgl, hug, fun w1 w2 u' y hb hu hgr hat => ?_⟩
  · rw [h1.cellAt j (by omega), List.getD_eq_getElem?_getD, List.getElem?_eq_getElem (by omega)]
    rfl
  have keep : ∀ k, k < w.heap.size → ¬ (vs.getD j undef).ownBlock = some k → w2.heap[k]? = w.heap[k]? := fun k hk hne => by
    rw [hgr.block k (Nat.lt_of_lt_of_le hk hb.size) (fun e => hne e.symm), hb.block k hk]
  have o2 : w2.ownsRow 0 22 1 (.slice (some ⟨g, 0, none⟩) xs.length c) xs.length vs := ownsRow_keep h1 fun k e => by
    have e' : g = k := by simpa [Value.ownBlock] using e
    subst e'
    exact keep _ hgl fun e2 => (hug _ e2).2 rfl
  obtain ⟨st1, st2⟩ := o2.stored j u'
  have hub : ∀ k, u'.ownBlock = some k → k < w2.heap.size := fun k hk => (World.ownsRow.lt hu k hk).2
  have hu_or : ∀ k, u'.ownBlock = some k → (vs.getD j undef).ownBlock = some k ∨ w.heap.size ≤ k := fun k hk => by
    rcases hat with e | e
    · exact .inl (by rw [← e]; exact hk)
    · rw [e] at hk
      have : w1.heap.size = k := by simpa using hk
      have := hb.size
      exact .inr (by omega)
  have hu_g : ∀ k, u'.ownBlock = some k → k ≠ g := fun k hk e => by
    rcases hu_or k hk with h | h
    · exact (hug k h).2 e
    · omega
  have hu_T : ∀ i, i < xs.length → i ≠ j → ∀ k, u'.ownBlock = some k → ¬ T i k := fun i hi hij k hk hT => by
    rcases hu_or k hk with h | h
    · rcases Nat.lt_or_gt_of_ne hij with h' | h'
      · exact h3 i j h' hj k hT (r2 k h)
      · exact h3 j i h' hi k (r2 k h) hT
    · have := h6 k (h4 i hi k hT).1
      omega
  refine ⟨⟨vs[j], by rw [o2.cellAt j (by omega)]; exact List.getElem?_eq_getElem (by omega)⟩, o2.frozenAt j, ⟨vs.set j u', fun i => if i = j then (fun k => u'.ownBlock = some k) else T i, by rw [List.length_set]; exact st1, fun i hi => ?_, fun i j' hij hj' k => ?_, fun i hi k hk => ?_, fun k hk => .inl (h5 k hk), fun k hk => ?_⟩⟩
  · rw [List.length_set] at hi
    rw [getD_set _ _ _ _ _ (by omega), getD_set _ _ _ _ _ hj]
    show spI.own _ (if i = j then (fun k => u'.ownBlock = some k) else T i) _ _
    by_cases e : i = j
    · rw [if_pos e, if_pos e, if_pos e]
      refine spI.own_set ⟨?_, fun k hk => hk, fun k hk => hub k hk⟩ (fun hk => hu_g g hk rfl) u'
      simpa using hu
    · rw [if_neg e, if_neg e, if_neg e]
      refine spI.own_set (spI.own_keep (h2 i hi) fun k hk => keep k (h6 k (h4 i hi k hk).1) fun e2 => ?_) (fun hk => (h4 i hi g hk).2 rfl) u'
      rcases Nat.lt_or_gt_of_ne e with h' | h'
      · exact h3 i j h' hj k hk (r2 k e2)
      · exact h3 j i h' hi k (r2 k e2) hk
  · rw [List.length_set] at hj'
    show (if i = j then (fun k => u'.ownBlock = some k) else T i) k → ¬ (if j' = j then (fun k => u'.ownBlock = some k) else T j') k
    by_cases e : i = j
    · rw [if_pos e, if_neg (by omega)]
      exact fun a => hu_T j' hj' (by omega) k a
    · rw [if_neg e]
      by_cases e2 : j' = j
      · rw [if_pos e2]
        exact fun a b => hu_T i (by omega) e k b a
      · rw [if_neg e2]
        exact h3 i j' hij hj' k
  · rw [List.length_set] at hi
    change (if i = j then (fun k => u'.ownBlock = some k) else T i) k at hk
    by_cases e : i = j
    · rw [if_pos e] at hk
      exact ⟨.inr hk, fun e2 => hu_g k hk (by simpa [Value.ownBlock] using e2.symm)⟩
    · rw [if_neg e] at hk
      exact ⟨.inl (h4 i hi k hk).1, (h4 i hi k hk).2⟩
  · rcases hk with hk | hk
    · have := h6 k hk; have := hb.size; have := hgr.size; simp; omega
    · have := hub k hk; simpa using this
end Go.Proofs.Yteappjgdcbploaa
namespace Go.Proofs.Yteappjgdcbploaa
open Go.RowKit
set_option linter.unusedVariables false
set_option linter.unusedSimpArgs false

theorem step_append_list {P : Program} (w : World) {ops : Array Oper} {o : Oper} {a : Act} {K : Act → World → Prop} {Q : Exit → Act → World → Prop} {E : Prop} (hgd : o.guard = none) (s x : Operand) (t : TypeId)
    (ho : o.op = .call { callee := .builtin .append, args := #[s, x], argTypes := #[t, t] })
    (base : Nat) (e : TypeId) (i : TypeInfo) (z : Value) (bytes : Nat) (ht : P.underlying t = some (.slice e)) (hi : P.info? e = some i) (hz : i.zero = some z)
    (hsize : i.size = 1) (hby : i.bytes = bytes) (hzs : z.cells.size = 1)
    (v : Value) (n : Nat) (xs : List Value) (hs : a.eval s = v) (hown : w.ownsRow base e 1 v n xs) (A : Option Addr) (m c : Nat) (news : List Value) (hm : news.length = m) (hx : a.eval x = .slice A m c) (hr : RdC w A news) (h1 : ∀ u ∈ news, u.oneCell' = true)
    (h63 : n + m ≤ maxLen) (hbytes : (n + m) * bytes ≤ 140737488355328) (hbase : base ≤ w.heap.size)
    (h : ∀ v' w', w'.ownsRow base e 1 v' (n + m) (xs ++ news) → w.grownBy w' v.ownBlock → (v'.ownBlock = v.ownBlock ∨ v'.ownBlock = some w.heap.size) → K (a.put o.dst v') w') :
    if Region.wanted o (yielded ops a.tmps) = true then Oper.wp P o a w K Q else E := by
  have hw : Region.wanted o (yielded ops a.tmps) = true := by simp [Region.wanted, hgd]
  rw [if_pos hw]
  exact wp_append_list w s x t ho base e i z bytes ht hi hz hsize hby hzs v n xs hs hown A m c news hm hx hr h1 h63 hbytes hbase h

section
variable {α : Type} {E : TypeId} {s : Sp α} {nul : α} {B : Nat} {w w' w0 : World} {v : Value} {xs ys : List α}
/-- w' is w but for v's block and for new blocks. -/
def OffV (w w' : World) (v : Value) : Prop := w.heap.size ≤ w'.heap.size ∧ ∀ k, k < w.heap.size → v.ownBlock ≠ some k → w'.heap[k]? = w.heap[k]?
theorem OffV.refl (w : World) (v : Value) : OffV w w v := ⟨Nat.le_refl _, fun _ _ _ => rfl⟩
theorem OffV.below (h : Below w.heap.size w w') (v : Value) : OffV w w' v := ⟨h.size, fun k hk _ => h.block k hk⟩
theorem OffV.grown (h : w.grownBy w' v.ownBlock) : OffV w w' v := ⟨h.size, fun k hk hn => h.block k hk (Ne.symm hn)⟩
theorem OffV.trans {w2 : World} {v' : Value} (h : OffV w w' v) (k : OffV w' w2 v') (hv : v'.ownBlock = v.ownBlock ∨ ∀ g, v'.ownBlock = some g → w.heap.size ≤ g) : OffV w w2 v :=
  ⟨Nat.le_trans h.1 k.1, fun i hi hn => (k.2 i (by have := h.1; omega) (fun e => by
    rcases hv with hv | hv
    · exact hn (hv ▸ e)
    · have := hv i e; omega)).trans (h.2 i hi hn)⟩
theorem OffV.at_below (h : OffV w w' v) (hb : Below B w0 w) (hB : B ≤ w.heap.size) (hv : ∀ g, v.ownBlock = some g → B ≤ g) {k : Nat} (hk : k < B) : w'.heap[k]? = w0.heap[k]? :=
  (h.2 k (by omega) (fun e => by have := hv k e; omega)).trans (hb.block k hk)
def Bag (E : TypeId) (s : Sp α) (nul : α) (B : Nat) (w : World) (v : Value) (xs : List α) : Prop :=
  ∃ vs : List Value, w.ownsRow B E 1 v xs.length vs ∧ ∀ j, j < xs.length → ∀ w' : World, OffV w w' v → s.rd w' (vs.getD j undef) (xs.getD j nul)
theorem Bag.rd (h : Bag E s nul B w v xs) : (spL E s nul).rd w v xs := by
  obtain ⟨vs, h1, h2⟩ := h
  have hvl : vs.length = xs.length := by have := h1.1; simpa using this
  rcases h1.2 with ⟨rfl, h0⟩ | ⟨g, cap, cur, rfl, hb, hg, hn, hc, hs, ht⟩
  · refine ⟨none, 0, by rw [h0], by omega, fun j hj => by omega⟩
  · refine ⟨_, cap, rfl, by omega, fun j hj => ⟨g, 0, vs.getD j undef, rfl, (h1.lt g rfl).2, ?_, h2 j hj w (OffV.refl _ _)⟩⟩
    rw [Nat.zero_add, h1.cellAt j (by omega), List.getD_eq_getElem?_getD, List.getElem?_eq_getElem (by omega)]
    rfl
theorem Bag.nil {vs : List Value} (h : w.ownsRow B E 1 v 0 vs) : Bag E s nul B w v [] := ⟨vs, h, fun j hj => by simp at hj⟩
theorem Bag.of_own {S : Nat → Prop} (h : (spL E s nul).own w S v xs) (hS : ∀ k, S k → B ≤ k) : Bag E s nul B w v xs := by
  obtain ⟨vs, T, h1, h2, h3, h4, h5, h6⟩ := h
  refine ⟨vs, ⟨h1.1, ?_⟩, fun j hj w' hw => s.own_rd (s.own_keep (h2 j hj) fun k hk => hw.2 k (s.own_lt (h2 j hj) hk) (h4 j hj k hk).2)⟩
  rcases h1.2 with h | ⟨g, cap, cur, hv, hb, r⟩
  · exact .inl h
  · exact .inr ⟨g, cap, cur, hv, hS g (h5 g (by rw [hv]; rfl)), r⟩
theorem Bag.below (h : Bag E s nul B w v xs) (hb : Below w.heap.size w w') : Bag E s nul B w' v xs := by
  obtain ⟨vs, h1, h2⟩ := h
  have hlt := h1.lt
  exact ⟨vs, ownsRow_keep h1 fun k e => hb.block k (hlt k e).2, fun j hj w2 hw => h2 j hj w2 ((OffV.below hb v).trans hw (.inl rfl))⟩
theorem Bag.block (h : Bag E s nul B w v xs) : ∀ g, v.ownBlock = some g → B ≤ g ∧ g < w.heap.size := by
  obtain ⟨vs, h1, h2⟩ := h
  exact h1.lt
theorem Bag.form (h : Bag E s nul B w v xs) : ∃ A c, v = .slice A xs.length c := by
  obtain ⟨vs, h1, h2⟩ := h
  obtain ⟨A, cap, rfl, _⟩ := ownsRow_cap h1
  exact ⟨A, cap, rfl⟩
/-- One element more, that lies in memory which stays. -/
theorem Bag.push {u : Value} {x : α} (h : Bag E s nul w0.heap.size w v xs) (hb : Below w0.heap.size w0 w) (hu : s.rd w0 u x) :
    ∃ vs, w.ownsRow w0.heap.size E 1 v xs.length vs ∧
      ∀ w1 v' w', Below w.heap.size w w1 → w'.ownsRow w0.heap.size E 1 v' (xs.length + 1) (vs ++ [u]) → w1.grownBy w' v.ownBlock → (v'.ownBlock = v.ownBlock ∨ ∀ g, v'.ownBlock = some g → w.heap.size ≤ g) → Bag E s nul w0.heap.size w' v' (xs ++ [x]) ∧ Below w0.heap.size w0 w' := by
  obtain ⟨vs, h1, h2⟩ := h
  have hvl : vs.length = xs.length := by have := h1.1; simpa using this
  have hvb := h1.lt
  have hsz := hb.size
  refine ⟨vs, h1, fun w1 v' w' h01 ho hg hv => ?_⟩
  have hs1 := h01.size
  have hbw : Below w0.heap.size w0 w' := (hb.trans (h01.mono hsz)).grown hg (by omega) fun k hk => (hvb k hk).1
  have hv' : ∀ g, v'.ownBlock = some g → w0.heap.size ≤ g := fun g e => by
    rcases hv with h | h
    · exact (hvb g (h ▸ e)).1
    · have := h g e; omega
  refine ⟨⟨vs ++ [u], by simpa using ho, fun j hj w2 hw2 => ?_⟩, hbw⟩
  simp only [List.length_append, List.length_singleton] at hj
  by_cases hlt : j < xs.length
  · have e1 : (vs ++ [u]).getD j undef = vs.getD j undef := by rw [List.getD_eq_getElem?_getD, List.getElem?_append_left (by omega), ← List.getD_eq_getElem?_getD]
    have e2 : (xs ++ [x]).getD j nul = xs.getD j nul := by rw [List.getD_eq_getElem?_getD, List.getElem?_append_left (by omega), ← List.getD_eq_getElem?_getD]
    rw [e1, e2]
    refine h2 j hlt w2 (((OffV.below h01 v).trans (OffV.grown hg) (.inl rfl)).trans hw2 ?_)
    rcases hv with h | h
    · exact .inl h
    · exact .inr fun g e => h g e
  · obtain rfl : j = xs.length := by omega
    have e1 : (vs ++ [u]).getD xs.length undef = u := by
      rw [List.getD_eq_getElem?_getD, List.getElem?_append_right (by omega), hvl]
      simp
    have e2 : (xs ++ [x]).getD xs.length nul = x := by simp [List.getD_eq_getElem?_getD]
    rw [e1, e2]
    exact s.rd_keep hu (by have := hbw.size; have := hw2.1; omega) fun k hk => hw2.at_below hbw hbw.size hv' hk
/-- A list that came in is appended. -/
theorem Bag.append (one : ∀ w u x, s.rd w u x → u.oneCell' = true) {A : Option Addr} {m c : Nat} (h : Bag E s nul w0.heap.size w v xs) (hb : Below w0.heap.size w0 w) (hu : (spL E s nul).rd w0 (.slice A m c) ys) :
    ∃ vs news, w.ownsRow w0.heap.size E 1 v xs.length vs ∧ news.length = m ∧ RdC w A news ∧ (∀ u ∈ news, u.oneCell' = true) ∧ m = ys.length ∧
      ∀ v' w', w'.ownsRow w0.heap.size E 1 v' (xs.length + m) (vs ++ news) → w.grownBy w' v.ownBlock → (v'.ownBlock = v.ownBlock ∨ v'.ownBlock = some w.heap.size) → Bag E s nul w0.heap.size w' v' (xs ++ ys) ∧ Below w0.heap.size w0 w' := by
  obtain ⟨vs, h1, h2⟩ := h
  obtain ⟨A', cap, e, hm, h3⟩ := hu
  simp only [Value.slice.injEq] at e
  obtain ⟨rfl, rfl, rfl⟩ := e
  have hvl : vs.length = xs.length := by have := h1.1; simpa using this
  have hvb := h1.lt
  have hsz := hb.size
  obtain ⟨f, hf⟩ : ∃ f : Nat → Value, ∀ j, j < ys.length → ∃ g o, A = some ⟨g, o, none⟩ ∧ g < w0.heap.size ∧ w0.cell? ⟨g, o + j, none⟩ = some (f j) ∧ s.rd w0 (f j) (ys.getD j nul) :=
    ⟨fun j => if hj : j < ys.length then Classical.choose (Classical.choose_spec (Classical.choose_spec (h3 j hj))) else undef, fun j hj => by
      have := Classical.choose_spec (Classical.choose_spec (Classical.choose_spec (h3 j hj)))
      exact ⟨_, _, by simpa only [dif_pos hj] using this⟩⟩
  refine ⟨vs, (List.range ys.length).map f, h1, by simp, fun j hj => ?_, fun u hu => ?_, rfl, fun v' w' ho hg hv => ?_⟩
  · have hj' : j < ys.length := by simpa using hj
    obtain ⟨g, o, e1, e2, e3, _⟩ := hf j hj'
    refine ⟨g, o, e1, ?_⟩
    rw [hb.cell (p := ⟨g, o + j, none⟩) e2, e3]
    simp [hj']
  · obtain ⟨j, hj, rfl⟩ := List.mem_map.1 hu
    obtain ⟨g, o, _, _, _, e4⟩ := hf j (by simpa using hj)
    exact one _ _ _ e4
  · have hbw : Below w0.heap.size w0 w' := hb.grown hg hsz fun k hk => (hvb k hk).1
    have hv' : ∀ g, v'.ownBlock = some g → w0.heap.size ≤ g := fun g e => by
      rcases hv with h | h
      · exact (hvb g (h ▸ e)).1
      · rw [h] at e
        have : w.heap.size = g := by simpa using e
        omega
    refine ⟨⟨vs ++ (List.range ys.length).map f, by simpa using ho, fun j hj w2 hw2 => ?_⟩, hbw⟩
    simp only [List.length_append] at hj
    by_cases hlt : j < xs.length
    · have e1 : (vs ++ (List.range ys.length).map f).getD j undef = vs.getD j undef := by rw [List.getD_eq_getElem?_getD, List.getElem?_append_left (by omega), ← List.getD_eq_getElem?_getD]
      have e2 : (xs ++ ys).getD j nul = xs.getD j nul := by rw [List.getD_eq_getElem?_getD, List.getElem?_append_left (by omega), ← List.getD_eq_getElem?_getD]
      rw [e1, e2]
      refine h2 j hlt w2 ((OffV.grown hg).trans hw2 ?_)
      rcases hv with h | h
      · exact .inl h
      · exact .inr fun g e => by rw [h] at e; have : w.heap.size = g := (by simpa using e); omega
    · have hj' : j - xs.length < ys.length := by omega
      have e1 : (vs ++ (List.range ys.length).map f).getD j undef = f (j - xs.length) := by
        rw [List.getD_eq_getElem?_getD, List.getElem?_append_right (by omega), hvl]
        simp [hj']
      have e2 : (xs ++ ys).getD j nul = ys.getD (j - xs.length) nul := by rw [List.getD_eq_getElem?_getD, List.getElem?_append_right (by omega), ← List.getD_eq_getElem?_getD]
      rw [e1, e2]
      obtain ⟨g, o, _, _, _, e4⟩ := hf (j - xs.length) hj'
      exact s.rd_keep e4 (by have := hbw.size; have := hw2.1; omega) fun k hk => hw2.at_below hbw hbw.size hv' hk
end
theorem one_spI : ∀ (w : World) (u : Value) (x : List Int), spI.rd w u x → u.oneCell' = true := by
  rintro w u x ⟨A, c, rfl, _⟩; rfl
theorem Bag.rdII {B : Nat} {w : World} {v : Value} {xs : List (List Int)} (h : Bag 22 spI [] B w v xs) : spII.rd w v xs := Bag.rd h
end Go.Proofs.Yteappjgdcbploaa
