/- The model's rows: where they lead, sums. -/
import Derived.Test.YtggkoihlmijacaaKB
import Derived.Test.YtggkoihlmijacaaKC
import Derived.Deep.RegionLaw
import Derived.Deep.RegionHeld3
namespace Go.Proofs.Ytggkoihlmijacaa
open Go.RowKit
set_option linter.unusedVariables false
set_option linter.unusedSimpArgs false

theorem spI_at {w : World} {A : Option Addr} {n c : Nat} {x : List Int} (h : spI.rd w (.slice A n c) x) {j : Nat} (hj : j < x.length) :
    ∃ g o, A = some ⟨g, o, none⟩ ∧ g < w.heap.size ∧ w.cell? ⟨g, o + j, none⟩ = some (.int .i64 (x.getD j 0)) := by
  obtain ⟨A', c', e, _, h3⟩ := h
  simp only [Value.slice.injEq] at e
  obtain ⟨rfl, _, rfl⟩ := e
  exact h3 j hj
theorem spI_own_at {w : World} {S : Nat → Prop} {v : Value} {x : List Int} (h : spI.own w S v x) {j : Nat} (hj : j < x.length) :
    ∃ g c, v = .slice (some ⟨g, 0, none⟩) x.length c ∧ S g ∧ g < w.heap.size ∧ w.cell? ⟨g, j, none⟩ = some (.int .i64 (x.getD j 0)) ∧ w.frozen? ⟨g, j, none⟩ = false := by
  obtain ⟨h1, h2, h3⟩ := h
  rcases h1.2 with ⟨hv, h0⟩ | ⟨g, c, cur, hv, hb, hg, r⟩
  · omega
  · have hS := h2 g (by rw [hv]; rfl)
    subst hv
    exact ⟨g, c, rfl, hS, h3 g hS, by rw [h1.cellAt j (by simpa using hj)]; simp [hj], h1.frozenAt _⟩
theorem spI_set {w : World} {S : Nat → Prop} {g n c : Nat} {x : List Int} (h : spI.own w S (.slice (some ⟨g, 0, none⟩) n c) x) {j : Nat} (hj : j < x.length) (y : Int) :
    spI.own (w.setCell ⟨g, j, none⟩ (.int .i64 y)) S (.slice (some ⟨g, 0, none⟩) n c) (x.set j y) := by
  obtain ⟨h1, h2, h3⟩ := h
  obtain rfl : n = x.length := by
    obtain ⟨A', c', hv, _⟩ := ownsRow_cap h1
    simp only [Value.slice.injEq] at hv
    exact hv.2.1
  obtain ⟨st1, gr1⟩ := h1.stored j (.int .i64 y)
  refine ⟨?_, h2, fun k hk => by have := h3 k hk; simpa using this⟩
  rw [List.length_set, List.map_set]
  exact st1
theorem below_set {B : Nat} {w w' : World} (h : Below B w w') {g : Nat} (hg : B ≤ g) (i : Nat) (u : Value) : Below B w (w'.setCell ⟨g, i, none⟩ u) := h.setCell (p := ⟨g, i, none⟩) hg u

set_option maxHeartbeats 400000 in
theorem sLead_any (v : Value) (xs : List Int) (w : World) (h : spI.rd w v xs) (hl : xs.length ≤ 1000) :
    Calls Try.prog 74 #[v] w fun e w' => e = .returned (.int .i64 (Num.lead xs : Nat)) ∧ w = w' := by
  obtain ⟨A, c, rfl, -, -⟩ := spI_form h
  have HR := Lib.hid h
  clear h
  go_enter Try.func74, Try.ntmps74
  go_wp2_with (fail)
  go_loop [3] (fun s => ∃ j : Nat, s = .int .i64 j ∧ j ≤ xs.length ∧ Hid (∀ i, i < j → xs.getD i 0 = 0)) (fun s => xs.length - (intOf s).toNat)
  case atStart => exact ⟨0, rfl, by omega, Lib.hid fun i hi => by omega⟩
  case round =>
    obtain ⟨j, rfl, hj, hz⟩ := hrel
    by_cases hlt : j < xs.length
    · obtain ⟨g, o, rfl, hg, hc⟩ := spI_at HR.out hlt
      have i0 : (0 : Int) ≤ (j : Int) := by omega
      have i1 : (j : Int) < (xs.length : Int) := by omega
      by_cases hy : xs.getD j 0 = 0
      · have HZ : Hid (∀ i, i < j + 1 → xs.getD i 0 = 0) := Lib.hid fun i hi => by
          by_cases e : i = j
          · rw [e]; exact hy
          · exact hz.out i (by omega)
        rw [hy] at hc
        clear hy
        go_wp2_with (fail)
        exact ⟨⟨j + 1, by go_num, by omega, HZ⟩, by simp [intOf]; omega⟩
      · have E : Hid (Num.lead xs = j) := Lib.hid (Num.lead_eq hj hz.out fun _ => hy)
        have hy' : (xs.getD j 0 != 0) = true := by simpa using hy
        generalize xs.getD j 0 = y at *
        go_wp2_with (fail)
        go_ret
        exact ⟨by rw [E.out]; rfl, rfl⟩
    · have hge : ¬ ((j : Int) < (xs.length : Int)) := by omega
      obtain rfl : j = xs.length := by omega
      have E : Hid (Num.lead xs = xs.length) := Lib.hid (Num.lead_eq hj hz.out fun h => absurd h (by omega))
      go_wp2_with (fail)
      go_ret
      exact ⟨by rw [E.out]; rfl, rfl⟩

theorem cy_bd {c y p : Int} (h0 : 0 ≤ c) (h1 : c ≤ 1000) (h2 : 0 ≤ y) (h3 : y < p) (h4 : p ≤ 7) : 0 ≤ c * y ∧ c * y ≤ 7000 :=
  ⟨Int.mul_nonneg h0 h2, Int.le_trans (Int.mul_le_mul h1 (by omega : y ≤ 7) h2 (by omega)) (by omega)⟩
set_option maxRecDepth 100000 in
set_option maxHeartbeats 1000000 in
theorem sAdd_any (p c : Int) (v u : Value) (xs ys : List Int) (n : Nat) (w : World) (h : spI.rd w v xs) (hu : spI.rd w u ys) (hp1 : 2 ≤ p) (hp2 : p ≤ 7) (hc0 : 0 ≤ c) (hc1 : c ≤ 1000) (hx : Num.Vec p n xs) (hy : Num.Vec p n ys) (hn : n ≤ 1000) :
    Calls Try.prog 101 #[.int .i64 p, v, .int .i64 c, u] w (Made spI (Num.addV p c xs ys) w) := by
  obtain ⟨B, cB, rfl, -, -⟩ := spI_form hu
  have hxl := hx.len
  have hyl := hy.len
  have h0 := Num.upto_zero (Num.addF p c xs ys) xs
  have HA := Lib.hid (Num.upto_all (Num.addF p c xs ys) xs)
  have H0 := Lib.hid h0
  have HV := Lib.hid (sOwn_any v xs w h (by omega))
  have HU := Lib.hid hu
  have HX := Lib.hid hx
  have HY := Lib.hid hy
  have hlen : xs.length ≤ 1000 := by omega
  have hlen2 : Hid (ys.length = xs.length) := Lib.hid (by omega)
  clear h hu hx hy h0 hxl hyl hn
  go_enter Try.func101, Try.ntmps101
  go_wp2_with (fail)
  refine HV.out.mono ?_; rintro e w2 ⟨u2, S2, rfl, ow2, hS2, hb2⟩
  obtain ⟨U, cU, rfl, -, -⟩ := spI_form (spI.own_rd ow2)
  have HO := Lib.hid ow2
  have HS := Lib.hid hS2
  clear ow2 hS2
  go_wp2_with (fail)
  go_loopw [10] (fun s wr => ∃ j : Nat, s = .int .i64 j ∧ j ≤ xs.length ∧ spI.own wr S2 (.slice U xs.length cU) (Num.upto (Num.addF p c xs ys) xs j) ∧ Below w.heap.size w wr) (fun s _ => xs.length - (intOf s).toNat)
  case atStart => exact ⟨0, rfl, by omega, by rw [H0.out]; exact HO.out, hb2⟩
  case round =>
    obtain ⟨j, rfl, hj, own, bel⟩ := hrel
    clear HO
    by_cases hlt : j < xs.length
    · have hup := Num.upto_length (Num.addF p c xs ys) xs j
      have hgt := Num.upto_get (Num.addF p c xs ys) xs hlt
      obtain ⟨g, cg, e1, hSg, hgl, a0, f0⟩ := spI_own_at own (j := j) (by omega)
      obtain ⟨g', o', rfl, hgl', d0⟩ := spI_at (spI.rd_below HU.out bel) (j := j) (by have := hlen2.out; omega)
      simp only [Value.slice.injEq] at e1
      obtain ⟨rfl, -, rfl⟩ := e1
      rw [hgt] at a0
      have i0 : (0 : Int) ≤ (j : Int) := by omega
      have i1 : (j : Int) < (xs.length : Int) := by omega
      have i2 : (j : Int) < (ys.length : Int) := by have := hlen2.out; omega
      have x0 := HX.out.lo j
      have x1 := HX.out.hi j
      have cy := cy_bd hc0 hc1 (HY.out.lo j) (HY.out.hi j) hp2
      have HST : Hid ((Num.upto (Num.addF p c xs ys) xs j).set j ((xs.getD j 0 + c * ys.getD j 0) % p) = Num.upto (Num.addF p c xs ys) xs (j + 1)) := Lib.hid (Num.upto_step (Num.addF p c xs ys) xs hlt)
      have HUL : Hid (j < (Num.upto (Num.addF p c xs ys) xs j).length) := Lib.hid (by omega)
      have HO := Lib.hid own
      clear own hup hgt
      generalize xs.getD j 0 = x at *
      generalize ys.getD j 0 = y at *
      have w1 : IntKind.i64.wrap (c * y) = c * y := IntWalk.i64_in _ (by omega)
      have w2 : IntKind.i64.wrap (x + c * y) = x + c * y := IntWalk.i64_in _ (by omega)
      have HC := Lib.hid (fun W => sMod_any (x + c * y) p W (by omega) (by omega))
      go_wp2_with (fail)
      go_region_law (first | (go_simp; go_at_call 115; refine (HC.out _).mono ?_; rintro e w3 ⟨rfl, rfl⟩))
      all_goals
        have O3 := spI_set (spI.own_drew HO.out) HUL.out ((x + c * y) % p)
        rw [HST.out] at O3
        have L3 := below_set bel.drew (HS.out g hSg) j (.int .i64 ((x + c * y) % p))
        have HO3 := Lib.hid O3
        clear O3
        go_wp2_with (fail)
        exact ⟨⟨j + 1, by go_num, by omega, HO3.out, L3⟩, by simp [intOf]; omega⟩
    · have hge : ¬ ((j : Int) < (xs.length : Int)) := by omega
      obtain rfl : j = xs.length := by omega
      rw [HA.out] at own
      have HO := Lib.hid own
      clear own
      go_wp2_with (fail)
      go_ret
      exact Made.of rfl HO.out HS.out bel
end Go.Proofs.Ytggkoihlmijacaa
