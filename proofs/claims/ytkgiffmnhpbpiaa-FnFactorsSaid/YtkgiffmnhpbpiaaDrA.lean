/- Contracts of the draws of chapter 1. -/
import Derived.Test.YtkgiffmnhpbpiaaDr
namespace Go.Proofs.Ytkgiffmnhpbpiaa
open Go.RowKit
set_option linter.unusedVariables false
set_option linter.unusedSimpArgs false

/-- A literal list in a new block. -/
theorem RdI.lit (w : World) (xs : List Int) : RdI (w.alloc (.cells (xs.map (Value.int .i64)).toArray 2)) (some ⟨w.heap.size, 0, none⟩) xs := by
  intro j hj
  refine ⟨w.heap.size, 0, rfl, by simp, ?_⟩
  rw [Nat.zero_add, World.cell?_alloc_new]
  simp [hj]

set_option maxHeartbeats 1000000 in
theorem number_any (q : Nat) (A : Option Addr) (len cap : Nat) (w : World) (hs : SrcI w q A len cap) :
    Calls Try.prog 39 #[.pointer (some ⟨q, 0, none⟩)] w (DrawnB w q A len cap fun _ => True) := by
  have hq := hs.lt
  have fin : ∀ w1 w2 r, Below q w w1 → Below q w1 w2 → SrcI w2 q A len cap → DrawnB w q A len cap (fun _ => True) (.returned (.int .i64 r)) w2 := fun w1 w2 r h1 h2 h3 => ⟨r, rfl, trivial, h3, h1.trans h2⟩
  have FIN := Lib.hid fin
  clear fin
  go_enter Try.func39, Try.ntmps39
  go_wp2_with (fail)
  refine (next_any q A len cap 12 _ hs (by omega) (by omega)).mono ?_
  rintro e w1 ⟨r, rfl, ⟨r0, r1⟩, hs1, hg1⟩
  have b1 : Below q w w1 := (Below.refl _ _).grown hg1 (by omega) (fun k hk => by simp at hk; omega)
  have hq1 := hs1.lt
  clear hg1 hs
  by_cases e0 : r = 0
  · subst e0
    have hl := RdI.lit w1 [0, -1, 1000000, 1000001, -1000000, -1000001, -9223372036854775808, 9223372036854775807]
    have hs2 := hs1.kept (row := none) (World.grownBy_alloc w1 (.cells (([0, -1, 1000000, 1000001, -1000000, -1000001, -9223372036854775808, 9223372036854775807] : List Int).map (Value.int .i64)).toArray 2) none) (fun r e => by simp at e)
    have hp := pick_any q A (some ⟨w1.heap.size, 0, none⟩) len cap 8 [0, -1, 1000000, 1000001, -1000000, -1000001, -9223372036854775808, 9223372036854775807] _ hs2 hl (fun g o e => by simp at e; omega) (by simp) (by simp)
    have HP := Lib.hid hp
    clear hp hl hs2
    go_wp2_with (fail)
    refine HP.out.mono ?_
    rintro e w2 ⟨r, rfl, _, hs3, hb3⟩
    go_wp2_with (fail)
    go_ret
    exact FIN.out _ _ _ (b1.alloc (by omega) _) hb3 hs3
  · have n0 : (r == 0) = false := by simpa using e0
    clear e0
    by_cases e1 : r = 1
    · subst e1
      go_wp2_with (fail)
      refine (next_any q A len cap 1000 _ hs1 (by omega) (by omega)).mono ?_
      rintro e w2 ⟨r, rfl, ⟨r0, r1⟩, hs2, hg2⟩
      go_wp2_with (fail)
      go_ret
      exact FIN.out _ _ _ b1 ((Below.refl _ _).grown hg2 (by omega) (fun k hk => by simp at hk; omega)) hs2
    · have n1 : (r == 1) = false := by simpa using e1
      clear e1
      by_cases e2 : r = 2
      · subst e2
        go_wp2_with (fail)
        refine (next_any q A len cap 1000000 _ hs1 (by omega) (by omega)).mono ?_
        rintro e w2 ⟨r, rfl, ⟨r0, r1⟩, hs2, hg2⟩
        go_wp2_with (fail)
        go_ret
        exact FIN.out _ _ _ b1 ((Below.refl _ _).grown hg2 (by omega) (fun k hk => by simp at hk; omega)) hs2
      · have n2 : (r == 2) = false := by simpa using e2
        clear e2
        go_wp2_with (fail)
        refine (next_any q A len cap 60 _ hs1 (by omega) (by omega)).mono ?_
        rintro e w2 ⟨r', rfl, ⟨r0, r1⟩, hs2, hg2⟩
        go_wp2_with (fail)
        go_ret
        exact FIN.out _ _ _ b1 ((Below.refl _ _).grown hg2 (by omega) (fun k hk => by simp at hk; omega)) hs2

theorem drawModInverse_any (A : Option Addr) (len cap : Nat) (w : World) (hB : RdB w w.heap.size A len) (hlen : len ≤ 4096) :
    Calls Try.prog 21 #[.slice A len cap] w fun e w' => (∃ a m : Int, e = .returned (.tuple #[.int .i64 a, .int .i64 m])) ∧ Below w.heap.size w w' := by
  go_enter Try.func21, Try.ntmps21
  go_wp2_with (fail)
  refine (from_any A len cap w hB hlen).mono ?_
  rintro e w1 ⟨rfl, hs1, b1⟩
  go_wp2_with (fail)
  refine (number_any _ _ _ _ _ hs1).mono ?_
  rintro e w2 ⟨a, rfl, _, hs2, b2⟩
  go_wp2_with (fail)
  refine (number_any _ _ _ _ _ hs2).mono ?_
  rintro e w3 ⟨m, rfl, _, hs3, b3⟩
  go_wp2_with (fail)
  go_ret2
  exact ⟨⟨a, m, rfl⟩, (b1.trans b2).trans b3⟩

set_option maxHeartbeats 1000000 in
theorem drawFactorize_any (A : Option Addr) (len cap : Nat) (w : World) (hB : RdB w w.heap.size A len) (hlen : len ≤ 4096) :
    Calls Try.prog 14 #[.slice A len cap] w fun e w' => (∃ n : Int, e = .returned (.int .i64 n)) ∧ Below w.heap.size w w' := by
  go_enter Try.func14, Try.ntmps14
  go_wp2_with (fail)
  refine (from_any A len cap w hB hlen).mono ?_
  rintro e w1 ⟨rfl, hs1, b1⟩
  generalize hq : w.heap.size = q at *
  have HQ := Lib.hid hq
  clear hq
  have hq1 := hs1.lt
  go_wp2_with (fail)
  refine (next_any _ _ _ _ 2 _ hs1 (by omega) (by omega)).mono ?_
  rintro e w2 ⟨r, rfl, ⟨r0, r1⟩, hs2, hg2⟩
  have b2 : Below q w w2 := b1.grown hg2 (by omega) (fun k hk => by simp at hk; omega)
  have hq2 := hs2.lt
  clear hg2 hs1 b1
  by_cases e0 : r = 0
  · subst e0
    go_wp2_with (fail)
    refine (next_any _ _ _ _ 8 _ hs2 (by omega) (by omega)).mono ?_
    rintro e w3 ⟨k, rfl, ⟨k0, k1⟩, hs3, hg3⟩
    have b3 : Below q w w3 := b2.grown hg3 (by omega) (fun k hk => by simp at hk; omega)
    clear hg3 hs2 b2
    go_wp2_with (fail)
    go_loopw [4, 5] (fun s4 s5 wr => ∃ n k : Int, s4 = .int .i64 n ∧ s5 = .int .i64 k ∧ 0 ≤ k ∧ k < 8 ∧ SrcI wr q A len cap ∧ Below q w wr) (fun _ s5 _ => (intOf s5).toNat)
    case atStart => exact ⟨1, k, rfl, rfl, k0, k1, hs3, b3⟩
    case round =>
      obtain ⟨n, x, rfl, rfl, x0, x1, hs4, b4⟩ := hrel
      clear hs3 b3
      by_cases hx : x = 0
      · subst hx
        go_wp2_with (fail)
        go_ret
        exact ⟨⟨n, rfl⟩, by rw [HQ.out]; exact b4⟩
      · have hx' : 0 < x := by omega
        have hq4 := hs4.lt
        have hl := RdI.lit wr [2, 2, 3, 5, 7, 11]
        have hs5 := hs4.kept (row := none) (World.grownBy_alloc wr (.cells (([2, 2, 3, 5, 7, 11] : List Int).map (Value.int .i64)).toArray 2) none) (fun r e => by simp at e)
        have hp := pick_any q A (some ⟨wr.heap.size, 0, none⟩) len cap 6 [2, 2, 3, 5, 7, 11] _ hs5 hl (fun g o e => by simp at e; omega) (by simp) (by simp)
        have HP := Lib.hid hp
        clear hp hl hs5
        go_wp2_with (fail)
        refine HP.out.mono ?_
        rintro e w5 ⟨r, rfl, _, hs6, b6⟩
        go_wp2_with (fail)
        exact ⟨⟨_, x - 1, rfl, rfl, by omega, by omega, hs6, (b4.alloc (by omega) _).trans b6⟩, by simp [intOf]; omega⟩
  · have n0 : (r == 0) = false := by simpa using e0
    clear e0
    go_wp2_with (fail)
    refine (number_any _ _ _ _ _ hs2).mono ?_
    rintro e w3 ⟨a, rfl, _, hs3, b3⟩
    go_wp2_with (fail)
    go_ret
    exact ⟨⟨a, rfl⟩, by rw [HQ.out]; exact b2.trans b3⟩
theorem big_no (A : Option Addr) (len cap : Nat) (w : World) (h : len ≤ 4096) :
    Calls Try.prog 13 #[.slice A len cap] w fun e w' => e = .returned (.bool false) ∧ w = w' := by
  have h' : decide ((4096 : Int) < (len : Int)) = false := by simp; omega
  go_enter Try.func13, Try.ntmps13
  go_wp2
  go_ret
  exact ⟨rfl, rfl⟩
theorem big_yes (A : Option Addr) (len cap : Nat) (w : World) (h : 4096 < len) :
    Calls Try.prog 13 #[.slice A len cap] w fun e w' => e = .returned (.bool true) ∧ w = w' := by
  have h' : decide ((4096 : Int) < (len : Int)) = true := by simp; omega
  go_enter Try.func13, Try.ntmps13
  go_wp2
  go_ret
  exact ⟨rfl, rfl⟩

/-- What the walk of a law is told of the code that came in: it is nil, or it leads to a row of bytes. -/
def IsRow (k : IntKind) (w : World) (a : Option Addr) (len cap : Nat) (zs : List Int) : Prop :=
  (a = none ∧ len = 0 ∧ cap = 0 ∧ zs = []) ∨
  ∃ x, a = some x ∧ len ≤ cap ∧ cap ≤ maxLen ∧ zs.length = cap ∧ (∀ i, i < zs.length → w.cell? (x.add i) = some (.int k (zs.getD i 0))) ∧ ∀ n ∈ zs, (Lit.int k n).wf = true
theorem IsRow.rdB {w : World} {a : Option Addr} {len cap : Nat} {zs : List Int} (h : IsRow .u8 w a len cap zs) : RdB w w.heap.size a len := by
  intro j hj
  rcases h with ⟨_, h0, _⟩ | ⟨x, rfl, hl, _, hz, hc, hw⟩
  · omega
  · obtain ⟨b, off, rfl, hc'⟩ := ints_at hc (by omega)
    have h1 := hc' j (by omega)
    refine ⟨b, off, zs.getD j 0, rfl, World.block_lt_of_cell? w _ h1, h1, ?_⟩
    have hm : zs.getD j 0 ∈ zs := by
      rw [List.getD_eq_getElem?_getD, List.getElem?_eq_getElem (by omega)]
      exact List.getElem_mem _
    exact bounds_u8 (hw _ hm)
end Go.Proofs.Ytkgiffmnhpbpiaa
