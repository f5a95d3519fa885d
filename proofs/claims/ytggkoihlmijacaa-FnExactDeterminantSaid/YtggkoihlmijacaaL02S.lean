/- What is left of a row. -/
import Derived.Test.YtggkoihlmijacaaL02O
import Derived.Test.YtggkoihlmijacaaL02F
import Derived.Test.YtggkoihlmijacaaL02J
import Derived.Test.YtggkoihlmijacaaKB
namespace Go.Proofs.Ytggkoihlmijacaa
open Go.RowKit
set_option linter.unusedVariables false
set_option linter.unusedSimpArgs false

set_option maxRecDepth 100000 in
set_option maxHeartbeats 1000000 in
theorem remainder_any (p : Int) (ev v : Value) (e : List (List Int)) (xs : List Int) (n : Nat) (w : World) (hr : (spRR p).rd w ev e) (h : (spR p).rd w v xs) (hp1 : 2 ≤ p) (hp2 : p ≤ 7) (hrv : ∀ i, i < e.length → Num.Vec p n (e.getD i [])) (hld : ∀ i, i < e.length → Num.lead (e.getD i []) < n)
    (hx : Num.Vec p n xs) (hn : n ≤ 1000) (hrl : e.length ≤ 1000) : Calls Try.prog 57 #[ev, v] w (Made (spR p) (Num.clearV p e xs) w) := by
  have hxl := hx.len
  have HZ := Lib.hid (clone_any p v xs w h (by omega))
  have hr0 := hr
  obtain ⟨A, cA, rfl, -, -⟩ := hr0
  have HR := Lib.hid hr
  have HRV := Lib.hid hrv
  have HLD := Lib.hid hld
  have HX := Lib.hid hx
  clear h hr hrv hx hxl hld
  go_enter Try.func57, Try.ntmps57
  go_wp2_with (fail)
  refine HZ.out.mono ?_; rintro e' w1 ⟨u1, S, rfl, ow1, hS1, b1⟩
  obtain ⟨U, cU, rfl, -⟩ := spR_form ((spR p).own_rd ow1)
  have HO1 := Lib.hid ow1
  have HS := Lib.hid hS1
  clear ow1 hS1 HZ
  go_wp2_with (fail)
  go_loopw [12] (fun s wr => ∃ i : Nat, s = .int .i64 i ∧ i ≤ e.length ∧ Hid ((spR p).own wr S (.slice U xs.length cU) (Num.clearV p (e.take i) xs)) ∧ Below w.heap.size w wr) (fun s _ => e.length - (intOf s).toNat)
  case atStart => exact ⟨0, rfl, by omega, Lib.hid (by simpa [Num.clearV] using HO1.out), b1⟩
  case round =>
    obtain ⟨i, rfl, hi', own, bel⟩ := hrel
    clear HO1
    by_cases hlt : i < e.length
    · obtain ⟨g, o, u, rfl, hg, hc0, hru⟩ := spL_row HR.out hlt
      have hc : wr.cell? ⟨g, o + i, none⟩ = some u := by rw [bel.cell hg]; exact hc0
      have i0' : (0 : Int) ≤ (i : Int) := by omega
      have i2 : (i : Int) < (e.length : Int) := by omega
      have Y := Num.vec_clear (p := p) (by omega) (e.take i) xs HX.out
      have ET := Lib.hid (Num.clear_take (p := p) (v := xs) hlt)
      have yl := Y.len
      have xl := HX.out.len
      have V := HRV.out i hlt
      have hk1 := HLD.out i hlt
      obtain ⟨g', cg, e1, hSg, hgl, a0, a1, -, -⟩ := spR_own_at own.out (j := Num.lead (e.getD i [])) (by omega)
      simp only [Value.slice.injEq] at e1
      obtain ⟨rfl, -, rfl⟩ := e1
      have HP : Hid (∀ W, wr = W → Calls Try.prog 59 #[u] W fun e' w' => e' = .returned (.int .i64 (Num.lead (e.getD i []) : Nat)) ∧ W = w') := Lib.hid fun W hW => hW ▸ pivotOf_any p u _ wr ((spR p).rd_below hru bel) (by rw [V.len]; exact hn)
      have y0 := Y.lo (Num.lead (e.getD i []))
      have y1 := Y.hi (Num.lead (e.getD i []))
      have ng := Num.neg_bd (p := p) ((Num.clearV p (e.take i) xs).getD (Num.lead (e.getD i [])) 0) (by omega)
      have HN := Lib.hid (fun W => negated_any ((Num.clearV p (e.take i) xs).getD (Num.lead (e.getD i [])) 0) p W (by omega) (by omega) y0 y1)
      have HC : Hid (∀ W, Below wr.heap.size wr W → Calls Try.prog 106 #[.slice (some ⟨g', 0, none⟩) xs.length cU, .agg #[.int .i64 (Num.neg p ((Num.clearV p (e.take i) xs).getD (Num.lead (e.getD i [])) 0)), .int .i64 p], u] W fun e' w' => e' = .returned (.tuple #[]) ∧ (spR p).own w' S (.slice (some ⟨g', 0, none⟩) xs.length cU) (Num.clearV p (e.take (i + 1)) xs) ∧ ChgS S W w') := Lib.hid fun W hW => by
        rw [ET.out]
        exact addMul_any p _ S _ u (Num.clearV p (e.take i) xs) (e.getD i []) n W ((spR p).own_below own.out hW) (fun w' hc' => (spR p).rd_below hru ((bstep bel bel.size hW).trans (hc'.below HS.out (by have := bel.size; have := hW.size; omega)))) hp1 hp2 ng.1 ng.2 Y V hn
      have k0 : (0 : Int) ≤ (Num.lead (e.getD i []) : Int) := by omega
      have k1 : (Num.lead (e.getD i []) : Int) < (xs.length : Int) := by omega
      have k2 : (Num.lead (e.getD i []) : Int) ≤ 1000 := by omega
      clear hru hc0 Y V ET yl xl hk1 own
      generalize Num.neg p ((Num.clearV p (e.take i) xs).getD (Num.lead (e.getD i [])) 0) = z at *
      generalize (Num.clearV p (e.take i) xs).getD (Num.lead (e.getD i [])) 0 = y at *
      generalize Num.lead (e.getD i []) = k at *
      go_wp2_with (fail)
      refine (HP.out _ rfl).mono ?_; rintro e' w2 ⟨rfl, rfl⟩
      go_wp2_with (fail)
      refine (HN.out _).mono ?_; rintro e' w2 ⟨rfl, hb2⟩
      go_wp2_with (fail)
      refine (HC.out _ hb2).mono ?_; rintro e' w3 ⟨rfl, ow3, ch3⟩
      have HO3 := Lib.hid ow3
      have bel3 : Below w.heap.size w w3 := (bstep bel bel.size hb2).trans (ch3.below HS.out (by have := bel.size; have := hb2.size; omega))
      clear ow3 ch3 HC HN HP hb2
      go_wp2_with (fail)
      exact ⟨⟨i + 1, by go_num, by omega, HO3, bel3⟩, by simp [intOf]; omega⟩
    · obtain rfl : i = e.length := by omega
      have hge : ¬ ((e.length : Int) < (e.length : Int)) := by omega
      rw [List.take_length] at own
      go_wp2_with (fail)
      go_ret
      exact Made.of rfl own.out HS.out bel
end Go.Proofs.Ytggkoihlmijacaa
