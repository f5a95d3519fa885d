/- Contracts of the methods of a residue, and of the common divisor. A residue is handed on by value; each call makes blocks of its own and writes nothing that was there. -/
import Derived.Test.YtkgiffmnhpbpiaaL01A
import Derived.Deep.QuietTactic
import Derived.BigQuiet
import Derived.Deep.RegionWith
import Derived.Deep.RegionHeld3
import Derived.Lib.Hide
namespace Go.Proofs.Ytkgiffmnhpbpiaa
open Go.RowKit
set_option linter.unusedVariables false
set_option linter.unusedSimpArgs false

theorem bcell {W w1 : World} (hb : Below W.heap.size W w1) : (∀ b o, b < W.heap.size → w1.cell? ⟨b, o, none⟩ = W.cell? ⟨b, o, none⟩) ∧ (∀ b o, b < W.heap.size → w1.frozen? ⟨b, o, none⟩ = W.frozen? ⟨b, o, none⟩) :=
  ⟨fun b o h => hb.cell (p := ⟨b, o, none⟩) h, fun b o h => hb.frozen (p := ⟨b, o, none⟩) h⟩

theorem times_any (x y m z : Int) (w : World) (h1 : 1 ≤ m) (h2 : m ≤ 1000000) (hx0 : 0 ≤ x) (hx1 : x < m) (hy0 : 0 ≤ y) (hy1 : y < m) :
    Calls Try.prog 57 #[.agg #[.int .i64 x, .int .i64 m], .agg #[.int .i64 y, .int .i64 z]] w fun e w' => e = .returned (.agg #[.int .i64 (x * y % m), .int .i64 m]) ∧ Below w.heap.size w w' := by
  have hxy0 : 0 ≤ x * y := Int.mul_nonneg hx0 hy0
  have hxy1 : x * y ≤ 1000000000000 := by
    have : x * y ≤ 1000000 * 1000000 := Int.mul_le_mul (by omega) (by omega) hy0 (by omega)
    omega
  go_enter Try.func57, Try.ntmps57
  go_wp2_with (go_at_call 43; refine (residueOf_any _ _ _ h1 h2).mono ?_; rintro e w1 ⟨rfl, hb⟩; obtain ⟨hc, hf⟩ := bcell hb; have hz := hb.size; simp only [World.size_alloc] at hz)
  refine bodyPost_ret (v := .agg #[.int .i64 (x * y % m), .int .i64 m]) (by simp [results, Try.results57, go_sem, hc]) rfl ⟨rfl, ?_⟩
  exact (((((Below.refl _ _).alloc (Nat.le_refl _) _).alloc (by simp) _).alloc (by simp; omega) _).trans (hb.mono (by simp; omega))).setCell (by simp; omega) _ |>.setCell (by simp; omega) _


theorem commonDivisor_any (a b : Int) (w : World) (ha0 : -1000000 ≤ a) (ha1 : a ≤ 1000000) (hb0 : -1000000 ≤ b) (hb1 : b ≤ 1000000) :
    Calls Try.prog 51 #[.int .i64 a, .int .i64 b] w fun e w' => e = .returned (.int .i64 (Int.gcd a b)) ∧ Below w.heap.size w w' := by
  go_enter Try.func51, Try.ntmps51
  go_wp2
  go_loopw [0, 1] (fun x y wr => ∃ c d : Int, x = .int .i64 c ∧ y = .int .i64 d ∧ -1000000 ≤ c ∧ c ≤ 1000000 ∧ -1000000 ≤ d ∧ d ≤ 1000000 ∧ Int.gcd c d = Int.gcd a b ∧ Below w.heap.size w wr) (fun _ y _ => (intOf y).natAbs)
  case atStart => exact ⟨a, b, rfl, rfl, ha0, ha1, hb0, hb1, rfl, Below.refl _ _⟩
  case round =>
    obtain ⟨c, d, rfl, rfl, hc0, hc1, hd0, hd1, hg, hbel⟩ := hrel
    have HG := Lib.hid hg
    clear hg
    by_cases hd : d = 0
    · subst hd
      have es := Num.mul_sg c
      have HS : Hid (c * Num.sg c = Int.gcd a b) := Lib.hid (by rw [es, ← HG.out, Int.gcd_zero_right])
      have b1 : -1000000 ≤ c * Num.sg c := by omega
      have b2 : c * Num.sg c ≤ 1000000 := by omega
      clear es
      go_wp2_with (go_at_call 52; refine (signOf_any _ _).mono ?_; rintro e w' ⟨rfl, rfl⟩)
      go_ret
      exact ⟨ret_int HS.out, hbel⟩
    · have hne : (d == 0) = false := by simpa using hd
      have hn : (c.tmod d).natAbs < d.natAbs := by rw [Int.natAbs_tmod]; exact Nat.mod_lt _ (by omega)
      have HG' : Hid (Int.gcd d (c.tmod d) = Int.gcd a b) := by rw [Num.gcd_tstep]; exact HG.out
      go_wp2
      go_quiet (fail)
      go_wp2
      exact ⟨⟨d, c.tmod d, rfl, rfl, hd0, hd1, by omega, by omega, HG'.out, below_drewN hbel _⟩, hn⟩

set_option maxHeartbeats 400000 in
theorem inverse_yes (v m : Int) (w : World) (h0 : 0 ≤ v) (h1 : v < m) (h2 : m ≤ 1000000) (hg1 : Int.gcd v m = 1) :
    Calls Try.prog 45 #[.agg #[.int .i64 v, .int .i64 m]] w fun e w' => e = .returned (.tuple #[.agg #[.int .i64 (Num.bez v m), .int .i64 m], .bool true]) ∧ Below w.heap.size w w' := by
  have HG := Lib.hid hg1
  clear hg1
  go_enter Try.func45, Try.ntmps45
  go_wp2
  go_quiet (fail)
  go_wp2
  go_loop [4, 5, 6, 7] (fun s4 s5 s6 s7 => ∃ d r x y : Int, s4 = .int .i64 d ∧ s5 = .int .i64 r ∧ s6 = .int .i64 x ∧ s7 = .int .i64 y ∧ Num.Eu v m d r x y) (fun _ s5 _ _ => (intOf s5).toNat)
  case atStart => exact ⟨v, m, 1, 0, rfl, rfl, rfl, rfl, Num.eu_start h0 h1⟩
  case round =>
    obtain ⟨d, r, x, y, rfl, rfl, rfl, rfl, he⟩ := hrel
    have hd0 := he.d0
    have hr0 := he.r0
    have hdm := he.dm
    have hrm := he.rm
    have hxm : -m ≤ x ∧ x ≤ m := by have := he.xm; omega
    obtain ⟨hx1, hx2⟩ := hxm
    by_cases hr : r = 0
    · subst hr
      have hd1 := Num.eu_end he
      rw [HG.out] at hd1
      obtain rfl : d = 1 := by omega
      have HX := Lib.hid (Num.bez_eu (by omega) he)
      clear he hd1
      go_wp2_with (go_at_call 43; refine (residueOf_any _ _ _ (by omega) h2).mono ?_; rintro e w1 ⟨rfl, hb⟩; obtain ⟨hc, hf⟩ := bcell hb; have hz : w.heap.size + 1 < w1.heap.size := by have := hb.size; simp at this; omega)
      refine bodyPost_ret (v := .tuple #[.agg #[.int .i64 (x % m), .int .i64 m], .bool true]) (by simp [results, Try.results45, go_sem, hc]) rfl ⟨by rw [HX.out], ?_⟩
      exact (((below_drewN (((Below.refl _ _).alloc (Nat.le_refl _) _).alloc (by simp) _) nq).trans (hb.mono (by simp; omega))).setCell (by simp) _).setCell (by simp) _
    · have hne : (r == 0) = false := by simpa using hr
      obtain ⟨f1, f2, f3, f4, f5, f6, f7, f8⟩ := Num.eu_fits he (by omega)
      have hs := Num.eu_step he (by omega)
      have hlt : d - d / r * r < r := Num.eu_lt (by omega)
      have hs0 := hs.r0
      go_wp2
      exact ⟨⟨r, _, y, _, rfl, rfl, rfl, rfl, hs⟩, by simp [intOf]; omega⟩

set_option maxHeartbeats 400000 in
theorem inverse_no (v m : Int) (w : World) (h0 : 0 ≤ v) (h1 : v < m) (h2 : m ≤ 1000000) (hg1 : Int.gcd v m ≠ 1) :
    Calls Try.prog 45 #[.agg #[.int .i64 v, .int .i64 m]] w fun e w' => e = .returned (.tuple #[.agg #[.int .i64 0, .int .i64 0], .bool false]) ∧ Below w.heap.size w w' := by
  have HG := Lib.hid hg1
  clear hg1
  go_enter Try.func45, Try.ntmps45
  go_wp2
  go_quiet (fail)
  go_wp2
  go_loop [4, 5, 6, 7] (fun s4 s5 s6 s7 => ∃ d r x y : Int, s4 = .int .i64 d ∧ s5 = .int .i64 r ∧ s6 = .int .i64 x ∧ s7 = .int .i64 y ∧ Num.Eu v m d r x y) (fun _ s5 _ _ => (intOf s5).toNat)
  case atStart => exact ⟨v, m, 1, 0, rfl, rfl, rfl, rfl, Num.eu_start h0 h1⟩
  case round =>
    obtain ⟨d, r, x, y, rfl, rfl, rfl, rfl, he⟩ := hrel
    have hd0 := he.d0
    have hr0 := he.r0
    have hdm := he.dm
    have hrm := he.rm
    have hxm : -m ≤ x ∧ x ≤ m := by have := he.xm; omega
    obtain ⟨hx1, hx2⟩ := hxm
    by_cases hr : r = 0
    · subst hr
      have hd1 := Num.eu_end he
      have hne : (d == 1) = false := by have := HG.out; simp; omega
      clear he hd1
      go_wp2
      refine bodyPost_ret (v := .tuple #[.agg #[.int .i64 0, .int .i64 0], .bool false]) (by simp [results, Try.results45, go_sem]) rfl ⟨rfl, ?_⟩
      exact (((below_drewN (((Below.refl _ _).alloc (Nat.le_refl _) _).alloc (by simp) _) nq)).setCell (by simp) _).setCell (by simp) _
    · have hne : (r == 0) = false := by simpa using hr
      obtain ⟨f1, f2, f3, f4, f5, f6, f7, f8⟩ := Num.eu_fits he (by omega)
      have hs := Num.eu_step he (by omega)
      have hlt : d - d / r * r < r := Num.eu_lt (by omega)
      have hs0 := hs.r0
      go_wp2
      exact ⟨⟨r, _, y, _, rfl, rfl, rfl, rfl, hs⟩, by simp [intOf]; omega⟩

theorem isOne_yes (v m : Int) (w : World) (h1 : 1 ≤ m) (h2 : m ≤ 1000000) (h : (v == 1 % m) = true) :
    Calls Try.prog 59 #[.agg #[.int .i64 v, .int .i64 m]] w fun e w' => e = .returned (.bool true) ∧ Below w.heap.size w w' := by
  go_enter Try.func59, Try.ntmps59
  go_wp2
  go_region_with (go_at_call 43; refine (residueOf_any _ _ _ h1 h2).mono ?_; rintro e w1 ⟨rfl, hb⟩; obtain ⟨hc, hf⟩ := bcell hb; have hz : w.heap.size < w1.heap.size := (by have := hb.size; simp at this; omega))
  all_goals
    go_wp2
    go_ret
    exact ⟨rfl, ((Below.refl _ _).alloc (Nat.le_refl _) _).drew.trans (hb.mono (by simp))⟩
theorem isOne_no (v m : Int) (w : World) (h1 : 1 ≤ m) (h2 : m ≤ 1000000) (h : (v == 1 % m) = false) :
    Calls Try.prog 59 #[.agg #[.int .i64 v, .int .i64 m]] w fun e w' => e = .returned (.bool false) ∧ Below w.heap.size w w' := by
  go_enter Try.func59, Try.ntmps59
  go_wp2
  go_region_with (go_at_call 43; refine (residueOf_any _ _ _ h1 h2).mono ?_; rintro e w1 ⟨rfl, hb⟩; obtain ⟨hc, hf⟩ := bcell hb; have hz : w.heap.size < w1.heap.size := (by have := hb.size; simp at this; omega))
  all_goals
    go_wp2
    go_ret
    exact ⟨rfl, ((Below.refl _ _).alloc (Nat.le_refl _) _).drew.trans (hb.mono (by simp))⟩

/-- A block of two cells, both known and free to be written. -/
def Own2 (w : World) (q : Nat) (a b : Value) : Prop :=
  w.cell? ⟨q, 0, none⟩ = some a ∧ w.cell? ⟨q, 1, none⟩ = some b ∧ w.frozen? ⟨q, 0, none⟩ = false ∧ w.frozen? ⟨q, 1, none⟩ = false ∧ q < w.heap.size
theorem Own2.new (w : World) (a b : Value) (t : TypeId) : Own2 (w.alloc (.cells #[a, b] t)) w.heap.size a b :=
  ⟨by simp, by simp, by simp, by simp, by simp⟩
theorem Own2.alloc {w : World} {q : Nat} {a b : Value} (h : Own2 w q a b) (c : Array Value) (t : TypeId) : Own2 (w.alloc (.cells c t)) q a b := by
  obtain ⟨h1, h2, h3, h4, h5⟩ := h
  exact ⟨by rw [World.cell?_alloc_lt w _ _ h5]; exact h1, by rw [World.cell?_alloc_lt w _ _ h5]; exact h2, by rw [World.frozen?_alloc_old w _ _ (by simp; omega)]; exact h3, by rw [World.frozen?_alloc_old w _ _ (by simp; omega)]; exact h4, by simp; omega⟩
theorem Own2.below {w w' : World} {q B : Nat} {a b : Value} (h : Own2 w q a b) (hb : Below B w w') (hq : q < B) : Own2 w' q a b := by
  obtain ⟨h1, h2, h3, h4, h5⟩ := h
  exact ⟨by rw [hb.cell hq]; exact h1, by rw [hb.cell hq]; exact h2, by rw [hb.frozen hq]; exact h3, by rw [hb.frozen hq]; exact h4, by have := hb.size; omega⟩
theorem Own2.other {w : World} {q : Nat} {a b : Value} (h : Own2 w q a b) (p : Addr) (v : Value) (hq : p.block ≠ q) : Own2 (w.setCell p v) q a b := by
  obtain ⟨h1, h2, h3, h4, h5⟩ := h
  have e : (w.setCell p v).heap[q]? = w.heap[q]? := Below.heap_setCell _ _ _ _ (Ne.symm hq)
  exact ⟨by rw [World.cell?_of_block (w := w) e]; exact h1, by rw [World.cell?_of_block (w := w) e]; exact h2, by rw [World.frozen?_of_block (w := w) e]; exact h3, by rw [World.frozen?_of_block (w := w) e]; exact h4, by simpa [World.setCell] using h5⟩
theorem Own2.set {w : World} {q : Nat} {a b : Value} (h : Own2 w q a b) (c d : Value) : Own2 ((w.setCell ⟨q, 0, none⟩ c).setCell ⟨q, 1, none⟩ d) q c d := by
  obtain ⟨h1, h2, h3, h4, h5⟩ := h
  have g1 : (w.setCell ⟨q, 0, none⟩ c).cell? ⟨q, 0, none⟩ = some c := World.cell?_setCell_same _ _ _ h1
  have g2 : (w.setCell ⟨q, 0, none⟩ c).cell? ⟨q, 1, none⟩ = some b := by rw [World.cell?_setCell_other _ _ _ _ (by simp)]; exact h2
  refine ⟨by rw [World.cell?_setCell_other _ _ _ _ (by simp)]; exact g1, World.cell?_setCell_same _ _ _ g2, by simp [h3], by simp [h4], by simpa [World.setCell] using h5⟩
theorem Own2.drew {w : World} {q : Nat} {a b : Value} (h : Own2 w q a b) : Own2 w.drew q a b := h
theorem Own2.drewN {w : World} {q : Nat} {a b : Value} (h : Own2 w q a b) (n : Nat) : Own2 (w.drewN n) q a b := h

set_option maxHeartbeats 1000000 in
theorem power_any (v n m : Int) (w : World) (hv0 : 0 ≤ v) (hv1 : v < m) (h2 : m ≤ 1000000) (hn0 : 0 ≤ n) (hn1 : n ≤ 1000000) :
    Calls Try.prog 44 #[.agg #[.int .i64 v, .int .i64 m], .int .i64 n] w fun e w' => e = .returned (.agg #[.int .i64 (v ^ n.toNat % m), .int .i64 m]) ∧ Below w.heap.size w w' := by
  go_enter Try.func44, Try.ntmps44
  go_wp2_with (go_at_call 43; refine (residueOf_any _ _ _ (by omega) h2).mono ?_; rintro e w1 ⟨rfl, hb⟩; obtain ⟨hc, hf⟩ := bcell hb; have hz : w.heap.size + 1 < w1.heap.size := (by have := hb.size; simp at this; omega); have hz0 : w.heap.size < w1.heap.size := (by omega))
  go_loopw [1, 6] (fun s1 s6 wr => ∃ (e b r : Int) (q : Nat), s1 = .int .i64 e ∧ s6 = .pointer (some ⟨q, 0, none⟩) ∧ w1.heap.size < q ∧ Num.PowInv v n m r b e ∧ Own2 wr w1.heap.size (.int .i64 r) (.int .i64 m) ∧ Own2 wr q (.int .i64 b) (.int .i64 m) ∧ Own2 wr (w.heap.size + 1) (.int .i64 0) (.int .i64 0) ∧ Below w.heap.size w wr) (fun s1 _ _ => (intOf s1).toNat)
  case atStart =>
    have B1 : Below w.heap.size w w1 := ((((Below.refl _ _).alloc (Nat.le_refl _) _).alloc (by simp) _).trans (hb.mono (by simp; omega)))
    have O3 : Own2 w1 (w.heap.size + 1) (.int .i64 0) (.int .i64 0) := by
      have := Own2.new (w.alloc (Obj.cells #[Value.int IntKind.i64 v, Value.int IntKind.i64 m] 45)) (.int .i64 0) (.int .i64 0) 45
      have h := this.below hb (by simp)
      simpa using h
    have O1 := (Own2.new w1 (.int .i64 (1 % m)) (.int .i64 m) 45).alloc #[Value.int IntKind.i64 v, Value.int IntKind.i64 m] 45
    have O2 := Own2.new (w1.alloc (.cells #[.int .i64 (1 % m), .int .i64 m] 45)) (.int .i64 v) (.int .i64 m) 45
    refine ⟨n, v, 1 % m, w1.heap.size + 1, rfl, rfl, by omega, Num.powInv_start hv0 hv1 hn0, O1, by simpa using O2, (O3.alloc _ _).alloc _ _, (B1.alloc (by omega) _).alloc (by simp; omega) _⟩
  case round =>
    obtain ⟨e, b, r, q, rfl, rfl, hq, hinv, o1, o2, o3, hbel⟩ := hrel
    clear hc hf hb
    obtain ⟨r0, r1, b0, b1, e0, e1⟩ := Num.powInv_bd hinv
    have hne1 : w1.heap.size ≠ q := by omega
    have hne2 : w.heap.size + 1 ≠ w1.heap.size := by omega
    have hne3 : w.heap.size + 1 ≠ q := by omega
    obtain ⟨c1, c2, c3, c4, c5⟩ := id o1
    obtain ⟨d1, d2, d3, d4, d5⟩ := id o2
    obtain ⟨f1, f2, f3, f4, f5⟩ := id o3
    by_cases he : e = 0
    · subst he
      have hr := Lib.hid (Num.powInv_end hinv)
      go_wp2
      refine bodyPost_ret (v := .agg #[.int .i64 r, .int .i64 m]) (by simp [results, Try.results44, go_sem, *]) rfl ⟨by rw [hr.out], ?_⟩
      exact (hbel.setCell (by simp) _).setCell (by simp) _
    · have hp : 0 < e := by omega
      by_cases hodd : e % 2 = 1
      · have H1 := Lib.hid (Num.powInv_odd hinv hp hodd)
        go_wp2_with (fail)
        refine (times_any _ _ _ _ _ (by omega) h2 r0 r1 b0 b1).mono ?_
        rintro e' w2 ⟨rfl, hb2⟩
        have p1 := o1.below hb2 c5
        have p2 := o2.below hb2 d5
        have p3 := o3.below hb2 f5
        have hbel2 := hbel.trans (hb2.mono (by omega))
        clear o1 o2 o3 c1 c2 c3 c4 d1 d2 d3 d4 f1 f2 f3 f4 hbel hb2
        obtain ⟨c1, c2, c3, c4, c6⟩ := id p1
        obtain ⟨d1, d2, d3, d4, d6⟩ := id p2
        go_wp2_with (fail)
        refine (times_any _ _ _ _ _ (by omega) h2 b0 b1 b0 b1).mono ?_
        rintro e' w3 ⟨rfl, hb3⟩
        have q1 := (p1.set (.int .i64 (r * b % m)) (.int .i64 m)).below hb3 (by simpa [World.setCell] using c6)
        have q2 := ((p2.other ⟨w1.heap.size, 0, none⟩ (.int .i64 (r * b % m)) hne1).other ⟨w1.heap.size, 1, none⟩ (.int .i64 m) hne1).below hb3 (by simpa [World.setCell] using d6)
        have q3 := ((p3.other ⟨w1.heap.size, 0, none⟩ (.int .i64 (r * b % m)) (Ne.symm hne2)).other ⟨w1.heap.size, 1, none⟩ (.int .i64 m) (Ne.symm hne2)).below hb3 (by simp [World.setCell]; omega)
        have hbel3 := ((hbel2.setCell (p := ⟨w1.heap.size, 0, none⟩) (by simp; omega) (.int .i64 (r * b % m))).setCell (p := ⟨w1.heap.size, 1, none⟩) (by simp; omega) (.int .i64 m)).trans (hb3.mono (by simp [World.setCell]; omega))
        clear p1 p2 p3 c1 c2 c3 c4 c6 d1 d2 d3 d4 d6 hbel2 hb3
        obtain ⟨d1, d2, d3, d4, d6⟩ := id q2
        go_wp2_with (fail)
        exact ⟨⟨e / 2, b * b % m, r * b % m, w3.heap.size, rfl, rfl, by omega, H1.out, ((q1.other _ _ hne1.symm).other _ _ hne1.symm).alloc _ _, by simpa [World.setCell] using Own2.new ((w3.setCell ⟨q, 0, none⟩ (.int .i64 (b * b % m))).setCell ⟨q, 1, none⟩ (.int .i64 m)) (.int .i64 (b * b % m)) (.int .i64 m) 45, ((q3.other _ _ hne3.symm).other _ _ hne3.symm).alloc _ _, ((hbel3.setCell (by simp; omega) _).setCell (by simp; omega) _).alloc (by simp [World.setCell]; omega) _⟩, by simp [intOf]; omega⟩
      · have H1 := Lib.hid (Num.powInv_even hinv hp hodd)
        have hodd' : (e % 2 == 1) = false := by simpa using hodd
        go_wp2_with (fail)
        refine (times_any _ _ _ _ _ (by omega) h2 b0 b1 b0 b1).mono ?_
        rintro e' w3 ⟨rfl, hb3⟩
        have q1 := o1.below hb3 c5
        have q2 := o2.below hb3 d5
        have q3 := o3.below hb3 f5
        have hbel3 := hbel.trans (hb3.mono (by omega))
        clear o1 o2 o3 c1 c2 c3 c4 d1 d2 d3 d4 f1 f2 f3 f4 hbel hb3
        obtain ⟨d1, d2, d3, d4, d6⟩ := id q2
        have c6 := q1.2.2.2.2
        go_wp2_with (fail)
        exact ⟨⟨e / 2, b * b % m, r, w3.heap.size, rfl, rfl, by omega, H1.out, ((q1.other _ _ hne1.symm).other _ _ hne1.symm).alloc _ _, by simpa [World.setCell] using Own2.new ((w3.setCell ⟨q, 0, none⟩ (.int .i64 (b * b % m))).setCell ⟨q, 1, none⟩ (.int .i64 m)) (.int .i64 (b * b % m)) (.int .i64 m) 45, ((q3.other _ _ hne3.symm).other _ _ hne3.symm).alloc _ _, ((hbel3.setCell (by simp; omega) _).setCell (by simp; omega) _).alloc (by simp [World.setCell]; omega) _⟩, by simp [intOf]; omega⟩
end Go.Proofs.Ytkgiffmnhpbpiaa
