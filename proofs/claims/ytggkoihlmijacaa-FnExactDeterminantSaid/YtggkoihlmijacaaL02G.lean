/- A row multiplied by a residue. -/
import Derived.Test.YtggkoihlmijacaaL02E
namespace Go.Proofs.Ytggkoihlmijacaa
open Go.RowKit
set_option linter.unusedVariables false
set_option linter.unusedSimpArgs false

set_option maxRecDepth 100000 in
set_option maxHeartbeats 1000000 in
theorem scale_any (p c : Int) (S : Nat → Prop) (v : Value) (xs : List Int) (n : Nat) (w : World) (h : (spR p).own w S v xs) (hp1 : 2 ≤ p) (hp2 : p ≤ 7)
    (hc0 : 0 ≤ c) (hc1 : c < p) (hx : Num.Vec p n xs) (hn : n ≤ 1000) :
    Calls Try.prog 85 #[v, .agg #[.int .i64 c, .int .i64 p]] w fun e w' => e = .returned (.tuple #[]) ∧ (spR p).own w' S v (Num.scaleV p c xs) ∧ ChgS S w w' := by
  obtain ⟨A, cA, rfl, -⟩ := spR_form ((spR p).own_rd h)
  have hxl := hx.len
  have h0 := Num.upto_zero (Num.scaleF p c xs) xs
  have hall := Num.upto_all (Num.scaleF p c xs) xs
  have HS : Hid ((spR p).own (w.alloc (.cells #[.int .i64 c, .int .i64 p] 60)) S (.slice A xs.length cA) (Num.upto (Num.scaleF p c xs) xs 0)) := Lib.hid (by rw [h0]; exact (spR p).own_alloc h _)
  have nS : ¬ S w.heap.size := fun g => by have := (spR p).own_lt h g; omega
  have HX := Lib.hid hx
  have HA := Lib.hid hall
  have hlen : xs.length ≤ 1000 := by omega
  clear h hx h0 hall hxl hn
  go_enter Try.func85, Try.ntmps85
  go_wp2_with (fail)
  go_loopw [7] (fun s wr => ∃ j : Nat, s = .int .i64 j ∧ j ≤ xs.length ∧ (spR p).own wr S (.slice A xs.length cA) (Num.upto (Num.scaleF p c xs) xs j) ∧ Blk wr w.heap.size [.int .i64 c, .int .i64 p] 60 ∧ ChgS S w wr) (fun s _ => xs.length - (intOf s).toNat)
  case atStart => exact ⟨0, rfl, by omega, HS.out, Blk.new w [.int .i64 c, .int .i64 p] _, ChgS.of_below ((Below.refl _ _).alloc (Nat.le_refl _) _)⟩
  case round =>
    obtain ⟨j, rfl, hj, own, bx, chg⟩ := hrel
    clear HS
    by_cases hlt : j < xs.length
    · have hup := Num.upto_length (Num.scaleF p c xs) xs j
      have hgt := Num.upto_get (Num.scaleF p c xs) xs hlt
      obtain ⟨g, cg, e1, hSg, hgl, a0, a1, f0, f1⟩ := spR_own_at own (j := j) (by omega)
      simp only [Value.slice.injEq] at e1
      obtain ⟨rfl, -, rfl⟩ := e1
      rw [hgt] at a0
      obtain ⟨bl, b0, b1⟩ := bx.c2
      have i0 : (0 : Int) ≤ (j : Int) := by omega
      have i1 : (j : Int) < (xs.length : Int) := by omega
      have x0 := HX.out.lo j
      have x1 := HX.out.hi j
      have HST : Hid ((Num.upto (Num.scaleF p c xs) xs j).set j (xs.getD j 0 * c % p) = Num.upto (Num.scaleF p c xs) xs (j + 1)) := Lib.hid (by rw [Int.mul_comm]; exact Num.upto_step (Num.scaleF p c xs) xs hlt)
      have HUL : Hid (j < (Num.upto (Num.scaleF p c xs) xs j).length) := Lib.hid (by omega)
      have HO := Lib.hid own
      have HCH := Lib.hid chg
      clear own hup hgt chg
      generalize xs.getD j 0 = x at *
      have HC := Lib.hid (fun W => times_any x c p p W (by omega) (by omega) x0 x1 hc0 hc1)
      have hm : ∀ (a b : Int) (W : World), (method 233 60 (.agg #[.int .i64 a, .int .i64 b]) "loop.example/g01076/impl.times").run Try.prog W = .ok (91, .agg #[.int .i64 a, .int .i64 b]) W := fun _ _ _ => by kernel_rfl
      go_wp2_with (fail)
      go_region_law (first | (go_simp; go_at_call 91; refine (HC.out _).mono ?_; rintro e w2 ⟨rfl, hb2⟩; have SM : w2.cell? ⟨g, j * 2, none⟩ = some (.int .i64 x) ∧ w2.cell? ⟨g, j * 2 + 1, none⟩ = some (.int .i64 p) ∧ w2.frozen? ⟨g, j * 2, none⟩ = false ∧ w2.frozen? ⟨g, j * 2 + 1, none⟩ = false := ⟨(by rw [hb2.cell hgl]; exact a0), (by rw [hb2.cell hgl]; exact a1), (by rw [hb2.frozen hgl]; exact f0), (by rw [hb2.frozen hgl]; exact f1)⟩))
      all_goals
        have O3 := spR_set ((spR p).own_below ((spR p).own_drew HO.out) hb2) HUL.out (x * c % p)
        rw [HST.out] at O3
        have cs := chg_set2 (w := w2) (i := j * 2) (j := j * 2 + 1) hSg (.int .i64 (x * c % p)) (.int .i64 p)
        have B3 := ((bx.drew).below hb2).chg cs nS
        have C3 := (HCH.out.trans (ChgS.of_below ((Below.refl _ _).drew))).trans ((ChgS.of_below hb2).trans cs)
        have HO3 := Lib.hid O3
        clear O3 SM hb2 cs
        go_wp2_with (fail)
        exact ⟨⟨j + 1, by go_num, by omega, HO3.out, B3, C3⟩, by simp [intOf]; omega⟩
    · have hge : ¬ ((j : Int) < (xs.length : Int)) := by omega
      obtain rfl : j = xs.length := by omega
      rw [HA.out] at own
      have HO := Lib.hid own
      clear own
      go_wp2_with (fail)
      go_end0
      exact ⟨rfl, HO.out, chg⟩
end Go.Proofs.Ytggkoihlmijacaa
