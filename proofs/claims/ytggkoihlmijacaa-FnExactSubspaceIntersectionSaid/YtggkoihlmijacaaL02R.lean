/- A row of residues times rows. -/
import Derived.Test.YtggkoihlmijacaaL02O
import Derived.Test.YtggkoihlmijacaaL02F
import Derived.Test.YtggkoihlmijacaaL02K
import Derived.Test.YtggkoihlmijacaaKB
namespace Go.Proofs.Ytggkoihlmijacaa
open Go.RowKit
set_option linter.unusedVariables false
set_option linter.unusedSimpArgs false

set_option maxRecDepth 100000 in
set_option maxHeartbeats 1000000 in
theorem rowProduct_any (p : Int) (zv v rv : Value) (xs : List Int) (rows : List (List Int)) (n m : Nat) (w : World) (hz : (spR p).rd w zv (Num.zeroV n)) (h : (spR p).rd w v xs) (hr : (spRR p).rd w rv rows) (hp1 : 2 ≤ p) (hp2 : p ≤ 7)
    (hrv : ∀ i, i < rows.length → Num.Vec p n (rows.getD i [])) (hx : Num.Vec p m xs) (hm : rows.length = m) (hn : n ≤ 1000) (hml : m ≤ 1000) :
    Calls Try.prog 113 #[zv, v, rv] w (Made (spR p) (Num.timesV p xs rows n) w) := by
  have zl : (Num.zeroV n).length = n := by simp [Num.zeroV]
  have HZ := Lib.hid (clone_any p zv _ w hz (by omega))
  obtain ⟨B, cB, rfl, -⟩ := spR_form h
  have hr0 := hr
  obtain ⟨A, cA, rfl, -, -⟩ := hr0
  have hxl := hx.len
  have hlen : xs.length ≤ 1000 := by omega
  have HXL : Hid (xs.length = rows.length) := Lib.hid (by omega)
  have HI := Lib.hid h
  have HR := Lib.hid hr
  have HRV := Lib.hid hrv
  have HX := Lib.hid hx
  clear hz h hr hrv hx hxl hm hml zl
  go_enter Try.func113, Try.ntmps113
  go_wp2_with (fail)
  refine HZ.out.mono ?_; rintro e w1 ⟨u1, S, rfl, ow1, hS1, b1⟩
  have HO1 := Lib.hid ow1
  have HS := Lib.hid hS1
  clear ow1 hS1 HZ
  go_wp2_with (fail)
  go_loopw [14] (fun s wr => ∃ i : Nat, s = .int .i64 i ∧ i ≤ rows.length ∧ Hid ((spR p).own wr S u1 (Num.timesTo p xs rows n i)) ∧ Below w.heap.size w wr) (fun s _ => rows.length - (intOf s).toNat)
  case atStart => exact ⟨0, rfl, by omega, HO1, b1⟩
  case round =>
    obtain ⟨i, rfl, hi', own, bel⟩ := hrel
    clear HO1
    by_cases hlt : i < rows.length
    · obtain ⟨g, o, u, rfl, hg, hc0, hru⟩ := spL_row HR.out hlt
      obtain ⟨gv, ov, rfl, hgv, hcv0, hdv0⟩ := spR_at HI.out (j := i) (by have := HXL.out; omega)
      have hcv : wr.cell? ⟨gv, ov + i * 2, none⟩ = some (.int .i64 (xs.getD i 0)) := by rw [bel.cell hgv]; exact hcv0
      have hdv : wr.cell? ⟨gv, ov + i * 2 + 1, none⟩ = some (.int .i64 p) := by rw [bel.cell hgv]; exact hdv0
      have hc : wr.cell? ⟨g, o + i, none⟩ = some u := by rw [bel.cell hg]; exact hc0
      have i0' : (0 : Int) ≤ (i : Int) := by omega
      have i1 : (i : Int) < (xs.length : Int) := by have := HXL.out; omega
      have i2 : (i : Int) < (rows.length : Int) := by omega
      have hT := Num.vec_timesTo (p := p) (by omega) xs rows n i
      have x0 := HX.out.lo i
      have x1 := HX.out.hi i
      have hgr : g < wr.heap.size := Nat.lt_of_lt_of_le hg bel.size
      have HC : Hid (∀ W, Below wr.heap.size wr W → Calls Try.prog 106 #[u1, .agg #[.int .i64 (xs.getD i 0), .int .i64 p], u] W fun e w' => e = .returned (.tuple #[]) ∧ (spR p).own w' S u1 (Num.timesTo p xs rows n (i + 1)) ∧ ChgS S W w') := Lib.hid fun W hW =>
        addMul_any p (xs.getD i 0) S u1 u (Num.timesTo p xs rows n i) (rows.getD i []) n W ((spR p).own_below own.out hW) (fun w' hc' => (spR p).rd_below hru ((bstep bel bel.size hW).trans (hc'.below HS.out (by have := bel.size; have := hW.size; omega)))) hp1 hp2 x0 x1 hT (HRV.out i hlt) hn
      have hnS : ¬ S wr.heap.size := fun hk => by have := (spR p).own_lt own.out hk; omega
      have hnG : ¬ S g := fun hk => by have := HS.out g hk; omega
      clear hT hru hc0 hcv0 hdv0
      generalize xs.getD i 0 = z at *
      go_wp2_with (fail)
      have CC : Hid (∀ (W W' : World), ChgS S W W' → wr.heap.size < W.heap.size → W'.cell? ⟨wr.heap.size, 0, none⟩ = W.cell? ⟨wr.heap.size, 0, none⟩ ∧ W'.cell? ⟨wr.heap.size, 1, none⟩ = W.cell? ⟨wr.heap.size, 1, none⟩ ∧ W'.cell? ⟨g, o + i, none⟩ = W.cell? ⟨g, o + i, none⟩) := Lib.hid fun W W' h1 h2 => ⟨World.cell?_of_block (h1.block _ h2 hnS), World.cell?_of_block (h1.block _ h2 hnS), World.cell?_of_block (h1.block g (by omega) hnG)⟩
      go_region_held3 (fun wx => wx.cell? ⟨wr.heap.size, 0, none⟩ = some (.int .i64 z) ∧ wx.cell? ⟨wr.heap.size, 1, none⟩ = some (.int .i64 p) ∧ wx.cell? ⟨g, o + i, none⟩ = some u) (first | go_keep | assumption) (first | (go_at_call 106; refine (HC.out _ (((Below.refl _ _).alloc (Nat.le_refl _) _).drew)).mono ?_; rintro e w2 ⟨rfl, ow2, ch2⟩; have SM : w2.cell? ⟨wr.heap.size, 0, none⟩ = some (.int .i64 z) ∧ w2.cell? ⟨wr.heap.size, 1, none⟩ = some (.int .i64 p) ∧ w2.cell? ⟨g, o + i, none⟩ = some u := (by obtain ⟨k1, k2, k3⟩ := CC.out _ _ ch2 (by simp); rw [k1, k2, k3]; refine ⟨?_, ?_, ?_⟩ <;> go_simp)))
      all_goals
        have HO2 := Lib.hid ow2
        have bel2 : Below w.heap.size w w2 := ((bel.alloc bel.size _).drew).trans (ch2.below HS.out (by have := bel.size; simp; omega))
        clear ow2 ch2 SM
        go_wp2_with (fail)
        exact ⟨⟨i + 1, by go_num, by omega, HO2, bel2⟩, by simp [intOf]; omega⟩
    · obtain rfl : i = rows.length := by omega
      have hge : ¬ ((rows.length : Int) < (xs.length : Int)) := by have := HXL.out; omega
      go_wp2_with (fail)
      go_ret
      exact Made.of rfl own.out HS.out bel
end Go.Proofs.Ytggkoihlmijacaa
