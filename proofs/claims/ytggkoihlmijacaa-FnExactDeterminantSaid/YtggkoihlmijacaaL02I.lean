/- The model's rows: multiples, clearing. -/
import Derived.Test.YtggkoihlmijacaaL02H
import Derived.Test.YtggkoihlmijacaaL02D
namespace Go.Proofs.Ytggkoihlmijacaa
open Go.RowKit
set_option linter.unusedVariables false
set_option linter.unusedSimpArgs false

theorem Num.addV_zeroV (p c : Int) (v : List Int) : Num.addV p c (Num.zeroV v.length) v = Num.scaleV p c v := by
  unfold Num.addV Num.scaleV
  have e : (Num.zeroV v.length).length = v.length := by simp [Num.zeroV]
  rw [e]
  refine Num.tab_congr fun i _ => ?_
  unfold Num.addF Num.scaleF
  rw [Num.zeroV_get, Int.zero_add]
set_option maxHeartbeats 1000000 in
theorem sScale_any (p c : Int) (v : Value) (xs : List Int) (n : Nat) (w : World) (h : spI.rd w v xs) (hp1 : 2 ≤ p) (hp2 : p ≤ 7) (hc0 : 0 ≤ c) (hc1 : c ≤ 1000) (hx : Num.Vec p n xs) (hn : n ≤ 1000) :
    Calls Try.prog 99 #[.int .i64 p, .int .i64 c, v] w (Made spI (Num.scaleV p c xs) w) := by
  obtain ⟨i0, hi, hz0, hz1, hz2⟩ := info_parts infoI
  obtain ⟨A, cA, rfl, -, -⟩ := spI_form h
  have hxl := hx.len
  have HR := Lib.hid h
  have HX := Lib.hid hx
  have hlen : xs.length ≤ 1000 := by omega
  have HZ : Hid (Num.Vec p n (Num.zeroV xs.length)) := Lib.hid (by rw [hxl]; exact Num.Vec.zeros (by omega) n)
  clear h hx hxl
  go_enter Try.func99, Try.ntmps99
  go_wp2_with (refine wpList_make_full _ rfl (.tmp 9) (.tmp 9) 31 rfl w.heap.size 2 i0 (.int .i64 0) 1 Try.underlying31 hi hz0 hz1 .i64 .i64 (xs.length : Int) (xs.length : Int) xs.length rfl rfl rfl rfl (by rw [hz2]; omega) (by unfold maxLen; omega) (Nat.le_refl _) ?_; intro w1 own1 gr1)
  have b1 : Below w.heap.size w w1 := (Below.refl _ _).grown gr1 (Nat.le_refl _) (fun k hk => by simp at hk)
  have o1 : OwnI w1 w.heap.size (.slice (some ⟨w.heap.size, 0, none⟩) xs.length xs.length) (Num.zeroV xs.length) := made_zeros own1
  have hZ0 : spI.rd w1 (.slice (some ⟨w.heap.size, 0, none⟩) xs.length xs.length) (Num.zeroV xs.length) := spI.own_rd (spI_of o1)
  have HC := sAdd_any p c _ _ (Num.zeroV xs.length) xs n w1 hZ0 (spI.rd_below HR.out b1) hp1 hp2 hc0 hc1 HZ.out HX.out hn
  rw [Num.addV_zeroV] at HC
  have HC := Lib.hid HC
  clear own1 gr1 o1 hZ0
  go_wp2_with (fail)
  refine HC.out.mono ?_; rintro e w2 ⟨u, S, rfl, ow, hS, hb⟩
  have HO := Lib.hid ow
  clear ow
  go_wp2_with (fail)
  go_ret
  exact Made.of rfl HO.out (fun k hk => by have := hS k hk; have := b1.size; omega) (bstep b1 b1.size hb)
theorem Num.vec_clear {p : Int} {n : Nat} (hp : 0 < p) (rows : List (List Int)) (v : List Int) (hv : Num.Vec p n v) : Num.Vec p n (Num.clearV p rows v) := by
  unfold Num.clearV
  induction rows generalizing v with
  | nil => exact hv
  | cons a l ih => rw [List.foldl_cons]; exact ih _ (Num.Vec.add hp hv.len)
theorem Num.clear_skip {p : Int} {n : Nat} {v r : List Int} (hv : Num.Vec p n v) (hr : r.length = n) (h : v.getD (Num.lead r) 0 = 0) : Num.clearStep p v r = v := by
  unfold Num.clearStep
  rw [h, Num.neg_zero]
  exact Num.addV_zero hv (by rw [hr, hv.len])
end Go.Proofs.Ytggkoihlmijacaa
