/- A multiple of a row added to another one. -/
import Derived.Test.YtggkoihlmijacaaL02E
namespace Go.Proofs.Ytggkoihlmijacaa
open Go.RowKit
set_option linter.unusedVariables false
set_option linter.unusedSimpArgs false

set_option maxRecDepth 100000 in
set_option maxHeartbeats 1000000 in
theorem addMul_any (p c : Int) (S : Nat → Prop) (v u : Value) (xs ys : List Int) (n : Nat) (w : World) (h : (spR p).own w S v xs) (hu : ∀ w', ChgS S w w' → (spR p).rd w' u ys) (hp1 : 2 ≤ p) (hp2 : p ≤ 7)
    (hc0 : 0 ≤ c) (hc1 : c < p) (hx : Num.Vec p n xs) (hy : Num.Vec p n ys) (hn : n ≤ 1000) :
    Calls Try.prog 106 #[v, .agg #[.int .i64 c, .int .i64 p], u] w fun e w' => e = .returned (.tuple #[]) ∧ (spR p).own w' S v (Num.addV p c xs ys) ∧ ChgS S w w' := by
  obtain ⟨A, cA, rfl, -⟩ := spR_form ((spR p).own_rd h)
  obtain ⟨B, cB, rfl, -⟩ := spR_form (hu w (ChgS.refl _ _))
  have hxl := hx.len
  have hyl := hy.len
  have h0 := Num.upto_zero (Num.addF p c xs ys) xs
  have hall := Num.upto_all (Num.addF p c xs ys) xs
  have HS : Hid ((spR p).own (w.alloc (.cells #[.int .i64 c, .int .i64 p] 60)) S (.slice A xs.length cA) (Num.upto (Num.addF p c xs ys) xs 0)) := Lib.hid (by rw [h0]; exact (spR p).own_alloc h _)
  have HU := Lib.hid hu
  have nS : ¬ S w.heap.size := fun g => by have := (spR p).own_lt h g; omega
  have HX := Lib.hid hx
  have HY := Lib.hid hy
  have HA := Lib.hid hall
  have HXL := Lib.hid hxl
  have HYL := Lib.hid hyl
  have hlen : xs.length ≤ 1000 := by omega
  have hlen2 : Hid (ys.length = xs.length) := Lib.hid (by omega)
  clear h hu hx hy h0 hall hxl hyl hn
  go_enter Try.func106, Try.ntmps106
  go_wp2_with (fail)
  go_loopw [9] (fun s wr => ∃ j : Nat, s = .int .i64 j ∧ j ≤ xs.length ∧ (spR p).own wr S (.slice A xs.length cA) (Num.upto (Num.addF p c xs ys) xs j) ∧ Blk wr w.heap.size [.int .i64 c, .int .i64 p] 60 ∧ ChgS S w wr) (fun s _ => xs.length - (intOf s).toNat)
  case atStart => exact ⟨0, rfl, by omega, HS.out, Blk.new w [.int .i64 c, .int .i64 p] _, ChgS.of_below ((Below.refl _ _).alloc (Nat.le_refl _) _)⟩
  case round =>
    obtain ⟨j, rfl, hj, own, bx, chg⟩ := hrel
    clear HS
    by_cases hlt : j < xs.length
    · have hup := Num.upto_length (Num.addF p c xs ys) xs j
      have hgt := Num.upto_get (Num.addF p c xs ys) xs hlt
      obtain ⟨g, cg, e1, hSg, hgl, a0, a1, f0, f1⟩ := spR_own_at own (j := j) (by omega)
      obtain ⟨g', o', rfl, hgl', d0, d1⟩ := spR_at (HU.out _ chg) (j := j) (by have := hlen2.out; omega)
      simp only [Value.slice.injEq] at e1
      obtain ⟨rfl, -, rfl⟩ := e1
      rw [hgt] at a0
      obtain ⟨bl, b0, b1⟩ := bx.c2
      have i0 : (0 : Int) ≤ (j : Int) := by omega
      have i1 : (j : Int) < (xs.length : Int) := by omega
      have i2 : (j : Int) < (ys.length : Int) := by have := hlen2.out; omega
      have x0 := HX.out.lo j
      have x1 := HX.out.hi j
      have y0 := HY.out.lo j
      have y1 := HY.out.hi j
      have HST : Hid ((Num.upto (Num.addF p c xs ys) xs j).set j ((xs.getD j 0 + c * ys.getD j 0) % p) = Num.upto (Num.addF p c xs ys) xs (j + 1)) := Lib.hid (Num.upto_step (Num.addF p c xs ys) xs hlt)
      have HUL : Hid (j < (Num.upto (Num.addF p c xs ys) xs j).length) := Lib.hid (by omega)
      have HO := Lib.hid own
      have HCH := Lib.hid chg
      clear own hup hgt chg
      generalize xs.getD j 0 = x at *
      generalize ys.getD j 0 = y at *
      have cy0 := (Num.mod_bd (c * y) (m := p) (by omega)).1
      have cy1 := (Num.mod_bd (c * y) (m := p) (by omega)).2
      have HC := Lib.hid (fun W => times_any c y p p W (by omega) (by omega) hc0 hc1 y0 y1)
      have HC2 := Lib.hid (fun W => plus_any x (c * y % p) p p W (by omega) (by omega) x0 x1 cy0 cy1)
      have hm : ∀ (a b : Int) (W : World), (method 233 60 (.agg #[.int .i64 a, .int .i64 b]) "loop.example/g01076/impl.times").run Try.prog W = .ok (91, .agg #[.int .i64 a, .int .i64 b]) W := fun _ _ _ => by kernel_rfl
      have hm2 : ∀ (a b : Int) (W : World), (method 233 60 (.agg #[.int .i64 a, .int .i64 b]) "loop.example/g01076/impl.plus").run Try.prog W = .ok (139, .agg #[.int .i64 a, .int .i64 b]) W := fun _ _ _ => by kernel_rfl
      go_wp2_with (fail)
      go_region_law (first | (go_simp; go_at_call 91; refine (HC.out _).mono ?_; rintro e w2 ⟨rfl, hb2⟩; have SM : w2.cell? ⟨g, j * 2, none⟩ = some (.int .i64 x) ∧ w2.cell? ⟨g, j * 2 + 1, none⟩ = some (.int .i64 p) := ⟨(by rw [hb2.cell hgl]; exact a0), (by rw [hb2.cell hgl]; exact a1)⟩) | (go_simp; go_at_call 139; refine (HC2.out _).mono ?_; rintro e w3 ⟨rfl, hb3⟩; have SM3 : w3.cell? ⟨g, j * 2, none⟩ = some (.int .i64 x) ∧ w3.cell? ⟨g, j * 2 + 1, none⟩ = some (.int .i64 p) ∧ w3.frozen? ⟨g, j * 2, none⟩ = false ∧ w3.frozen? ⟨g, j * 2 + 1, none⟩ = false := (by have hg2 : g < w2.heap.size := Nat.lt_of_lt_of_le hgl hb2.size; exact ⟨(by rw [hb3.cell hg2]; exact SM.1), (by rw [hb3.cell hg2]; exact SM.2), (by rw [hb3.frozen hg2, hb2.frozen hgl]; exact f0), (by rw [hb3.frozen hg2, hb2.frozen hgl]; exact f1)⟩)))
      all_goals
        have O3 := spR_set ((spR p).own_below ((spR p).own_below ((spR p).own_drew HO.out) hb2) hb3) HUL.out ((x + c * y) % p)
        rw [HST.out] at O3
        have cs := chg_set2 (w := w3) (i := j * 2) (j := j * 2 + 1) hSg (.int .i64 ((x + c * y) % p)) (.int .i64 p)
        have B3 := (((bx.drew).below hb2).below hb3).chg cs nS
        have C3 := (HCH.out.trans (ChgS.of_below ((Below.refl _ _).drew))).trans ((ChgS.of_below hb2).trans ((ChgS.of_below hb3).trans cs))
        have HO3 := Lib.hid O3
        clear O3 SM SM3 hb2 hb3 cs
        go_wp2_with (fail)
        exact ⟨⟨j + 1, by go_num, by omega, HO3.out, B3, C3⟩, by simp [intOf]; omega⟩
    · have hge : ¬ ((j : Int) < (xs.length : Int)) := by omega
      obtain rfl : j = xs.length := by omega
      rw [HA.out] at own
      have HO := Lib.hid own
      clear own
      go_wp2_with (fail)
      go_end0
      exact ⟨rfl, HO.out, chg⟩
end Go.Proofs.Ytggkoihlmijacaa
