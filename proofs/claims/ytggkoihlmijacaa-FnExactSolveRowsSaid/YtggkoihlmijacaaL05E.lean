/- The end of a row multiplied by a residue. -/
import Derived.Test.YtggkoihlmijacaaL02G
namespace Go.Proofs.Ytggkoihlmijacaa
open Go.RowKit
set_option linter.unusedVariables false
set_option linter.unusedSimpArgs false

/-- Nothing to multiply. -/
theorem scaleNone_any (p c : Int) (A : Option Addr) (d : Nat) (w : World) :
    Calls Try.prog 85 #[.slice A 0 d, .agg #[.int .i64 c, .int .i64 p]] w fun e w' => e = .returned (.tuple #[]) ∧ Below w.heap.size w w' := by
  go_enter Try.func85, Try.ntmps85
  go_wp2_with (fail)
  go_loopw [7] (fun s wr => s = .int .i64 0 ∧ wr = w.alloc (.cells #[.int .i64 c, .int .i64 p] 60)) (fun s _ => 0)
  case atStart => exact ⟨rfl, rfl⟩
  case round =>
    obtain ⟨rfl, rfl⟩ := hrel
    go_wp2_with (fail)
    go_end0
    exact ⟨rfl, by go_grown⟩
theorem Num.behind_get {h y : List Int} {C j : Nat} (hh : h.length = C) : (h ++ y).getD (C + j) 0 = y.getD j 0 := by
  subst hh
  rw [List.getD_eq_getElem?_getD, List.getElem?_append_right (by omega), Nat.add_sub_cancel_left, ← List.getD_eq_getElem?_getD]
theorem Num.behind_set {h y : List Int} {C j : Nat} (hh : h.length = C) (a : Int) : (h ++ y).set (C + j) a = h ++ y.set j a := by
  subst hh
  rw [List.set_append_right _ _ (by omega), Nat.add_sub_cancel_left]
set_option maxRecDepth 100000 in
set_option maxHeartbeats 1000000 in
theorem scaleTail_any (p c : Int) (S : Nat → Prop) (g0 N cA d C n : Nat) (h y : List Int) (w : World) (ho : (spR p).own w S (.slice (some ⟨g0, 0, none⟩) N cA) (h ++ y)) (hh : h.length = C) (hp1 : 2 ≤ p) (hp2 : p ≤ 7)
    (hc0 : 0 ≤ c) (hc1 : c < p) (hx : Num.Vec p n y) (hn : n ≤ 1000) :
    Calls Try.prog 85 #[.slice (some ⟨g0, C * 2, none⟩) y.length d, .agg #[.int .i64 c, .int .i64 p]] w fun e w' => e = .returned (.tuple #[]) ∧ (spR p).own w' S (.slice (some ⟨g0, 0, none⟩) N cA) (h ++ Num.scaleV p c y) ∧ ChgS S w w' := by
  have hxl := hx.len
  have h0 := Num.upto_zero (Num.scaleF p c y) y
  have hall := Num.upto_all (Num.scaleF p c y) y
  have HS : Hid ((spR p).own (w.alloc (.cells #[.int .i64 c, .int .i64 p] 60)) S (.slice (some ⟨g0, 0, none⟩) N cA) (h ++ Num.upto (Num.scaleF p c y) y 0)) := Lib.hid (by rw [h0]; exact (spR p).own_alloc ho _)
  have nS : ¬ S w.heap.size := fun g => by have := (spR p).own_lt ho g; omega
  have HX := Lib.hid hx
  have HA := Lib.hid hall
  have HH := Lib.hid hh
  have hlen : y.length ≤ 1000 := by omega
  clear ho hx h0 hall hxl hn hh
  go_enter Try.func85, Try.ntmps85
  go_wp2_with (fail)
  go_loopw [7] (fun s wr => ∃ j : Nat, s = .int .i64 j ∧ j ≤ y.length ∧ (spR p).own wr S (.slice (some ⟨g0, 0, none⟩) N cA) (h ++ Num.upto (Num.scaleF p c y) y j) ∧ Blk wr w.heap.size [.int .i64 c, .int .i64 p] 60 ∧ ChgS S w wr) (fun s _ => y.length - (intOf s).toNat)
  case atStart => exact ⟨0, rfl, by omega, HS.out, Blk.new w [.int .i64 c, .int .i64 p] _, ChgS.of_below ((Below.refl _ _).alloc (Nat.le_refl _) _)⟩
  case round =>
    obtain ⟨j, rfl, hj, own, bx, chg⟩ := hrel
    clear HS
    by_cases hlt : j < y.length
    · have hup := Num.upto_length (Num.scaleF p c y) y j
      have hgt := Num.upto_get (Num.scaleF p c y) y hlt
      have hle : C + j < (h ++ Num.upto (Num.scaleF p c y) y j).length := by rw [List.length_append, HH.out]; omega
      obtain ⟨g, cg, e1, hSg, hgl, a0, a1, f0, f1⟩ := spR_own_at own hle
      simp only [Value.slice.injEq, Option.some.injEq, Addr.mk.injEq, and_true, true_and] at e1
      obtain ⟨rfl, -, rfl⟩ := e1
      rw [Num.behind_get HH.out, hgt, Nat.add_mul] at a0
      rw [Nat.add_mul] at a1 f0 f1
      obtain ⟨bl, b0, b1⟩ := bx.c2
      have i0 : (0 : Int) ≤ (j : Int) := by omega
      have i1 : (j : Int) < (y.length : Int) := by omega
      have x0 := HX.out.lo j
      have x1 := HX.out.hi j
      have HST : Hid ((h ++ Num.upto (Num.scaleF p c y) y j).set (C + j) (y.getD j 0 * c % p) = h ++ Num.upto (Num.scaleF p c y) y (j + 1)) := Lib.hid (by rw [Num.behind_set HH.out, Int.mul_comm]; exact congrArg (h ++ ·) (Num.upto_step (Num.scaleF p c y) y hlt))
      have HUL := Lib.hid hle
      have HO := Lib.hid own
      have HCH := Lib.hid chg
      clear own hup hgt chg hle
      generalize y.getD j 0 = x at *
      have HC := Lib.hid (fun W => times_any x c p p W (by omega) (by omega) x0 x1 hc0 hc1)
      have hm : ∀ (a b : Int) (W : World), (method 233 60 (.agg #[.int .i64 a, .int .i64 b]) "loop.example/g01076/impl.times").run Try.prog W = .ok (91, .agg #[.int .i64 a, .int .i64 b]) W := fun _ _ _ => by kernel_rfl
      go_wp2_with (fail)
      go_region_law (first | (go_simp; go_at_call 91; refine (HC.out _).mono ?_; rintro e w2 ⟨rfl, hb2⟩; have SM : w2.cell? ⟨g0, C * 2 + j * 2, none⟩ = some (.int .i64 x) ∧ w2.cell? ⟨g0, C * 2 + j * 2 + 1, none⟩ = some (.int .i64 p) ∧ w2.frozen? ⟨g0, C * 2 + j * 2, none⟩ = false ∧ w2.frozen? ⟨g0, C * 2 + j * 2 + 1, none⟩ = false := ⟨(by rw [hb2.cell hgl]; exact a0), (by rw [hb2.cell hgl]; exact a1), (by rw [hb2.frozen hgl]; exact f0), (by rw [hb2.frozen hgl]; exact f1)⟩))
      all_goals
        have O3 := spR_set ((spR p).own_below ((spR p).own_drew HO.out) hb2) HUL.out (x * c % p)
        rw [HST.out, Nat.add_mul] at O3
        have cs := chg_set2 (w := w2) (i := C * 2 + j * 2) (j := C * 2 + j * 2 + 1) hSg (.int .i64 (x * c % p)) (.int .i64 p)
        have B3 := ((bx.drew).below hb2).chg cs nS
        have C3 := (HCH.out.trans (ChgS.of_below ((Below.refl _ _).drew))).trans ((ChgS.of_below hb2).trans cs)
        have HO3 := Lib.hid O3
        clear O3 SM hb2 cs
        go_wp2_with (fail)
        exact ⟨⟨j + 1, by go_num, by omega, HO3.out, B3, C3⟩, by simp [intOf]; omega⟩
    · have hge : ¬ ((j : Int) < (y.length : Int)) := by omega
      obtain rfl : j = y.length := by omega
      rw [HA.out] at own
      have HO := Lib.hid own
      clear own
      go_wp2_with (fail)
      go_end0
      exact ⟨rfl, HO.out, chg⟩
/-- The end of a row is read. -/
theorem rdTail {p : Int} {w : World} {S : Nat → Prop} {g N cA C d : Nat} {h z : List Int} (ho : (spR p).own w S (.slice (some ⟨g, 0, none⟩) N cA) (h ++ z)) (hh : h.length = C) (hz : z.length ≤ 1000) : (spR p).rd w (.slice (some ⟨g, C * 2, none⟩) z.length d) z := by
  refine ⟨some ⟨g, C * 2, none⟩, d, rfl, by unfold maxLen; omega, fun i hi => ?_⟩
  obtain ⟨g', c, e1, -, hgl, a0, a1, -, -⟩ := spR_own_at ho (j := C + i) (by rw [List.length_append]; omega)
  simp only [Value.slice.injEq, Option.some.injEq, Addr.mk.injEq, and_true, true_and] at e1
  obtain ⟨rfl, -, rfl⟩ := e1
  rw [Num.behind_get hh, Nat.add_mul] at a0
  rw [Nat.add_mul] at a1
  exact ⟨g, C * 2, rfl, hgl, a0, a1⟩
theorem rdNone (p : Int) (w : World) (A : Option Addr) (d : Nat) : (spR p).rd w (.slice A 0 d) [] := ⟨A, d, rfl, by simp, fun i hi => by simp at hi⟩
theorem spR_cap {p : Int} {w : World} {S : Nat → Prop} {A : Option Addr} {n c : Nat} {x : List Int} (h : (spR p).own w S (.slice A n c) x) : (A = none ∧ n = 0 ∧ c = 0) ∨ ∃ g, A = some ⟨g, 0, none⟩ ∧ n ≤ c ∧ c ≤ maxLen := by
  obtain ⟨h1, h2, h3⟩ := h
  rcases h1.2 with ⟨hv, h0⟩ | ⟨g, cap, cur, hv, hb, hg, q1, q2, q3⟩
  · simp only [Value.slice.injEq] at hv
    exact .inl ⟨hv.1, hv.2.1, hv.2.2⟩
  · simp only [Value.slice.injEq] at hv
    obtain ⟨e1, e2, e3⟩ := hv
    exact .inr ⟨g, e1, by omega, by omega⟩
end Go.Proofs.Ytggkoihlmijacaa
