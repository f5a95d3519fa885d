/- slices.Backward over a chain of orders that the rounds change behind the iterator. -/
import Derived.Test.YtpplojbcjgiabaaRng
import Derived.Test.YtpplojbcjgiabaaL07E
namespace Go.Proofs.Ytpplojbcjgiabaa
open Go.RowKit Go.Shelf
set_option linter.unusedVariables false
set_option linter.unusedSimpArgs false
attribute [local go_sem] Oper.semAt_some

/-- What the iterator reads: the box of the slice, and the elements that are still to come. -/
def ReadsBack (Bn : Nat) (A : Option Addr) (c : Nat) (zs : List Int) (t : Nat) (W : World) : Prop :=
  W.cell? ⟨Bn, 0, none⟩ = some (.slice A zs.length c) ∧ ∀ j, j + t < zs.length → ∃ g o, A = some ⟨g, o, none⟩ ∧ W.cell? ⟨g, o + j, none⟩ = some (.int .i64 (zs.getD j 0))
set_option maxRecDepth 100000 in
set_option maxHeartbeats 1000000 in
theorem backward_rounds (F : Fence) (n : Nat) (hF : F.fn 78) (hro : F.round = none) (hn : 1 ≤ n) (Bn c : Nat) (A : Option Addr) (zs : List Int) (hz : zs.length ≤ 1000) (I : Nat → World → Prop) (hI : ∀ t W, I t W → ReadsBack Bn A c zs t W) :
    Rounds F n Try.prog 78 #[.pointer (some ⟨Bn, 0, none⟩)] (fun t => #[.int .i64 ((zs.length : Int) - 1 - (t : Int)), .int .i64 (zs[zs.length - 1 - t]?.getD 0)]) zs.length I := by
  intro l J W hJ hY h0
  have hN : zs.length - 1 + 1 ≤ 1001 := by omega
  have b0 := (hI 0 W (hJ 0 W h0)).1
  refine callsIn_of_wp Try.func78 rfl hF ?_ hro
  simp only [Try.ntmps78, List.size_toArray, List.length_cons, List.length_nil, Nat.reduceAdd, Nat.reduceSub, Array.replicate_succ, Array.replicate_zero, List.push_toArray, List.append_toArray, List.nil_append, List.cons_append]
  have w0 : IntKind.i64.wrap ((zs.length : Int) - 1) = (zs.length : Int) - 1 := IntWalk.i64_in _ (by omega)
  gi_wp2
  gi_loopw [3] (fun s wr => ∃ t : Nat, t ≤ zs.length ∧ s = .int .i64 ((zs.length : Int) - 1 - (t : Int)) ∧ J t wr) (fun s _ => (intOf s + 1).toNat)
  case atStart => exact ⟨0, by omega, by simp, h0⟩
  case round =>
    obtain ⟨t, ht, rfl, hJt⟩ := hrel
    obtain ⟨rb, rc⟩ := hI t wr (hJ t wr hJt)
    by_cases hlt : t < zs.length
    · obtain ⟨g, o, rfl, hc⟩ := rc (zs.length - 1 - t) (by omega)
      obtain ⟨fn, tmps, assign, body, hy, hR⟩ := hY t wr hlt hJt
      rw [List.getD_eq_getElem?_getD] at hc
      generalize zs[zs.length - 1 - t]?.getD 0 = x at hc hy
      have i0 : (0 : Int) ≤ (zs.length : Int) - 1 - (t : Int) := by omega
      have i1 : (zs.length : Int) - 1 - (t : Int) < (zs.length : Int) := by omega
      have i2 : ((zs.length : Int) - 1 - (t : Int)).toNat = zs.length - 1 - t := by omega
      have i3 : IntKind.i64.wrap ((zs.length : Int) - 1 - (t : Int) - 1) = (zs.length : Int) - 1 - (t : Int) - 1 := IntWalk.i64_in _ (by omega)
      have HI3 := Lib.hid i3
      gi_wp2
      refine hR.mono ?_
      rintro e W3 ⟨rfl, hJ3⟩
      gi_wp2
      go_roundw
      case rel => exact ⟨t + 1, by omega, by rw [show ((t + 1 : Nat) : Int) = (t : Int) + 1 by omega]; congr 1; omega, hJ3⟩
      case measure => simp [intOf]; omega
    · obtain rfl : t = zs.length := by omega
      have i0 : ¬ ((0 : Int) ≤ (zs.length : Int) - 1 - (zs.length : Int)) := by omega
      gi_wp2
      go_end0
      exact ⟨⟨_, rfl⟩, hJt⟩
set_option maxHeartbeats 1000000 in
theorem backward_in (F : Fence) (n : Nat) (hF : F.fn 75) (hro : F.round = none) (A : Option Addr) (n0 c : Nat) (w : World) :
    CallsIn F n Try.prog 75 #[.slice A n0 c] w fun e w' => e = .returned (.func (.func 78) #[] #[.pointer (some ⟨w.heap.size, 0, none⟩)]) ∧ w' = w.alloc (.cells #[.slice A n0 c] 77) := by
  refine callsIn_of_wp Try.func75 rfl hF ?_ hro
  simp only [Try.ntmps75, List.size_toArray, List.length_cons, List.length_nil, Nat.reduceAdd, Nat.reduceSub, Array.replicate_succ, Array.replicate_zero, List.push_toArray, List.append_toArray, List.nil_append, List.cons_append]
  gi_wp2
  go_ret
  exact ⟨rfl, rfl⟩
end Go.Proofs.Ytpplojbcjgiabaa
