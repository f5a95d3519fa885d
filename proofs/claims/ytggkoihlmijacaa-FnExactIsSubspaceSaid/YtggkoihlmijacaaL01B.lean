/- Contracts of the methods of a residue, and of the common divisor. A residue is handed on by value; each call makes blocks of its own and writes nothing that was there. -/
import Derived.Test.YtggkoihlmijacaaL01A
import Derived.Deep.QuietTactic
import Derived.BigQuiet
import Derived.Deep.RegionWith
import Derived.Deep.RegionHeld3
import Derived.Lib.Hide
namespace Go.Proofs.Ytggkoihlmijacaa
open Go.RowKit
set_option linter.unusedVariables false
set_option linter.unusedSimpArgs false

theorem bcell {W w1 : World} (hb : Below W.heap.size W w1) : (∀ b o, b < W.heap.size → w1.cell? ⟨b, o, none⟩ = W.cell? ⟨b, o, none⟩) ∧ (∀ b o, b < W.heap.size → w1.frozen? ⟨b, o, none⟩ = W.frozen? ⟨b, o, none⟩) :=
  ⟨fun b o h => hb.cell (p := ⟨b, o, none⟩) h, fun b o h => hb.frozen (p := ⟨b, o, none⟩) h⟩

theorem times_any (x y m z : Int) (w : World) (h1 : 1 ≤ m) (h2 : m ≤ 1000000) (hx0 : 0 ≤ x) (hx1 : x < m) (hy0 : 0 ≤ y) (hy1 : y < m) :
    Calls Try.prog 91 #[.agg #[.int .i64 x, .int .i64 m], .agg #[.int .i64 y, .int .i64 z]] w fun e w' => e = .returned (.agg #[.int .i64 (x * y % m), .int .i64 m]) ∧ Below w.heap.size w w' := by
  have hxy0 : 0 ≤ x * y := Int.mul_nonneg hx0 hy0
  have hxy1 : x * y ≤ 1000000000000 := by
    have : x * y ≤ 1000000 * 1000000 := Int.mul_le_mul (by omega) (by omega) hy0 (by omega)
    omega
  go_enter Try.func91, Try.ntmps91
  go_wp2_with (go_at_call 86; refine (residueOf_any _ _ _ h1 h2).mono ?_; rintro e w1 ⟨rfl, hb⟩; obtain ⟨hc, hf⟩ := bcell hb; have hz := hb.size; simp only [World.size_alloc] at hz)
  refine bodyPost_ret (v := .agg #[.int .i64 (x * y % m), .int .i64 m]) (by simp [results, Try.results91, go_sem, hc]) rfl ⟨rfl, ?_⟩
  exact (((((Below.refl _ _).alloc (Nat.le_refl _) _).alloc (by simp) _).alloc (by simp; omega) _).trans (hb.mono (by simp; omega))).setCell (by simp; omega) _ |>.setCell (by simp; omega) _


set_option maxHeartbeats 400000 in
theorem inverse_yes (v m : Int) (w : World) (h0 : 0 ≤ v) (h1 : v < m) (h2 : m ≤ 1000000) (hg1 : Int.gcd v m = 1) :
    Calls Try.prog 116 #[.agg #[.int .i64 v, .int .i64 m]] w fun e w' => e = .returned (.tuple #[.agg #[.int .i64 (Num.bez v m), .int .i64 m], .bool true]) ∧ Below w.heap.size w w' := by
  have HG := Lib.hid hg1
  clear hg1
  go_enter Try.func116, Try.ntmps116
  go_wp2
  go_quiet (fail)
  go_wp2
  go_loop [4, 5, 6, 7] (fun s4 s5 s6 s7 => ∃ d r x y : Int, s4 = .int .i64 d ∧ s5 = .int .i64 r ∧ s6 = .int .i64 x ∧ s7 = .int .i64 y ∧ Num.Eu v m d r x y) (fun _ s5 _ _ => (intOf s5).toNat)
  case atStart => exact ⟨v, m, 1, 0, rfl, rfl, rfl, rfl, Num.eu_start h0 h1⟩
  case round =>
    obtain ⟨d, r, x, y, rfl, rfl, rfl, rfl, he⟩ := hrel
    have hd0 := he.d0
    have hr0 := he.r0
    have hdm := he.dm
    have hrm := he.rm
    have hxm : -m ≤ x ∧ x ≤ m := by have := he.xm; omega
    obtain ⟨hx1, hx2⟩ := hxm
    by_cases hr : r = 0
    · subst hr
      have hd1 := Num.eu_end he
      rw [HG.out] at hd1
      obtain rfl : d = 1 := by omega
      have HX := Lib.hid (Num.bez_eu (by omega) he)
      clear he hd1
      go_wp2_with (go_at_call 86; refine (residueOf_any _ _ _ (by omega) h2).mono ?_; rintro e w1 ⟨rfl, hb⟩; obtain ⟨hc, hf⟩ := bcell hb; have hz : w.heap.size + 1 < w1.heap.size := by have := hb.size; simp at this; omega)
      refine bodyPost_ret (v := .tuple #[.agg #[.int .i64 (x % m), .int .i64 m], .bool true]) (by simp [results, Try.results116, go_sem, hc]) rfl ⟨by rw [HX.out], ?_⟩
      exact (((below_drewN (((Below.refl _ _).alloc (Nat.le_refl _) _).alloc (by simp) _) nq).trans (hb.mono (by simp; omega))).setCell (by simp) _).setCell (by simp) _
    · have hne : (r == 0) = false := by simpa using hr
      obtain ⟨f1, f2, f3, f4, f5, f6, f7, f8⟩ := Num.eu_fits he (by omega)
      have hs := Num.eu_step he (by omega)
      have hlt : d - d / r * r < r := Num.eu_lt (by omega)
      have hs0 := hs.r0
      go_wp2
      exact ⟨⟨r, _, y, _, rfl, rfl, rfl, rfl, hs⟩, by simp [intOf]; omega⟩

set_option maxHeartbeats 400000 in
theorem inverse_no (v m : Int) (w : World) (h0 : 0 ≤ v) (h1 : v < m) (h2 : m ≤ 1000000) (hg1 : Int.gcd v m ≠ 1) :
    Calls Try.prog 116 #[.agg #[.int .i64 v, .int .i64 m]] w fun e w' => e = .returned (.tuple #[.agg #[.int .i64 0, .int .i64 0], .bool false]) ∧ Below w.heap.size w w' := by
  have HG := Lib.hid hg1
  clear hg1
  go_enter Try.func116, Try.ntmps116
  go_wp2
  go_quiet (fail)
  go_wp2
  go_loop [4, 5, 6, 7] (fun s4 s5 s6 s7 => ∃ d r x y : Int, s4 = .int .i64 d ∧ s5 = .int .i64 r ∧ s6 = .int .i64 x ∧ s7 = .int .i64 y ∧ Num.Eu v m d r x y) (fun _ s5 _ _ => (intOf s5).toNat)
  case atStart => exact ⟨v, m, 1, 0, rfl, rfl, rfl, rfl, Num.eu_start h0 h1⟩
  case round =>
    obtain ⟨d, r, x, y, rfl, rfl, rfl, rfl, he⟩ := hrel
    have hd0 := he.d0
    have hr0 := he.r0
    have hdm := he.dm
    have hrm := he.rm
    have hxm : -m ≤ x ∧ x ≤ m := by have := he.xm; omega
    obtain ⟨hx1, hx2⟩ := hxm
    by_cases hr : r = 0
    · subst hr
      have hd1 := Num.eu_end he
      have hne : (d == 1) = false := by have := HG.out; simp; omega
      clear he hd1
      go_wp2
      refine bodyPost_ret (v := .tuple #[.agg #[.int .i64 0, .int .i64 0], .bool false]) (by simp [results, Try.results116, go_sem]) rfl ⟨rfl, ?_⟩
      exact (((below_drewN (((Below.refl _ _).alloc (Nat.le_refl _) _).alloc (by simp) _) nq)).setCell (by simp) _).setCell (by simp) _
    · have hne : (r == 0) = false := by simpa using hr
      obtain ⟨f1, f2, f3, f4, f5, f6, f7, f8⟩ := Num.eu_fits he (by omega)
      have hs := Num.eu_step he (by omega)
      have hlt : d - d / r * r < r := Num.eu_lt (by omega)
      have hs0 := hs.r0
      go_wp2
      exact ⟨⟨r, _, y, _, rfl, rfl, rfl, rfl, hs⟩, by simp [intOf]; omega⟩

/-- A block of two cells, both known and free to be written. -/
def Own2 (w : World) (q : Nat) (a b : Value) : Prop :=
  w.cell? ⟨q, 0, none⟩ = some a ∧ w.cell? ⟨q, 1, none⟩ = some b ∧ w.frozen? ⟨q, 0, none⟩ = false ∧ w.frozen? ⟨q, 1, none⟩ = false ∧ q < w.heap.size
theorem Own2.new (w : World) (a b : Value) (t : TypeId) : Own2 (w.alloc (.cells #[a, b] t)) w.heap.size a b :=
  ⟨by simp, by simp, by simp, by simp, by simp⟩
theorem Own2.alloc {w : World} {q : Nat} {a b : Value} (h : Own2 w q a b) (c : Array Value) (t : TypeId) : Own2 (w.alloc (.cells c t)) q a b := by
  obtain ⟨h1, h2, h3, h4, h5⟩ := h
  exact ⟨by rw [World.cell?_alloc_lt w _ _ h5]; exact h1, by rw [World.cell?_alloc_lt w _ _ h5]; exact h2, by rw [World.frozen?_alloc_old w _ _ (by simp; omega)]; exact h3, by rw [World.frozen?_alloc_old w _ _ (by simp; omega)]; exact h4, by simp; omega⟩
theorem Own2.below {w w' : World} {q B : Nat} {a b : Value} (h : Own2 w q a b) (hb : Below B w w') (hq : q < B) : Own2 w' q a b := by
  obtain ⟨h1, h2, h3, h4, h5⟩ := h
  exact ⟨by rw [hb.cell hq]; exact h1, by rw [hb.cell hq]; exact h2, by rw [hb.frozen hq]; exact h3, by rw [hb.frozen hq]; exact h4, by have := hb.size; omega⟩
theorem Own2.other {w : World} {q : Nat} {a b : Value} (h : Own2 w q a b) (p : Addr) (v : Value) (hq : p.block ≠ q) : Own2 (w.setCell p v) q a b := by
  obtain ⟨h1, h2, h3, h4, h5⟩ := h
  have e : (w.setCell p v).heap[q]? = w.heap[q]? := Below.heap_setCell _ _ _ _ (Ne.symm hq)
  exact ⟨by rw [World.cell?_of_block (w := w) e]; exact h1, by rw [World.cell?_of_block (w := w) e]; exact h2, by rw [World.frozen?_of_block (w := w) e]; exact h3, by rw [World.frozen?_of_block (w := w) e]; exact h4, by simpa [World.setCell] using h5⟩
theorem Own2.set {w : World} {q : Nat} {a b : Value} (h : Own2 w q a b) (c d : Value) : Own2 ((w.setCell ⟨q, 0, none⟩ c).setCell ⟨q, 1, none⟩ d) q c d := by
  obtain ⟨h1, h2, h3, h4, h5⟩ := h
  have g1 : (w.setCell ⟨q, 0, none⟩ c).cell? ⟨q, 0, none⟩ = some c := World.cell?_setCell_same _ _ _ h1
  have g2 : (w.setCell ⟨q, 0, none⟩ c).cell? ⟨q, 1, none⟩ = some b := by rw [World.cell?_setCell_other _ _ _ _ (by simp)]; exact h2
  refine ⟨by rw [World.cell?_setCell_other _ _ _ _ (by simp)]; exact g1, World.cell?_setCell_same _ _ _ g2, by simp [h3], by simp [h4], by simpa [World.setCell] using h5⟩
theorem Own2.drew {w : World} {q : Nat} {a b : Value} (h : Own2 w q a b) : Own2 w.drew q a b := h
theorem Own2.drewN {w : World} {q : Nat} {a b : Value} (h : Own2 w q a b) (n : Nat) : Own2 (w.drewN n) q a b := h

end Go.Proofs.Ytggkoihlmijacaa
