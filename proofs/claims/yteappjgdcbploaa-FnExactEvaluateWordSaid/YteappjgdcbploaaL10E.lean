/- Words: the program's inverse: slices.Backward over a word, whose rounds append to a box. -/
import Derived.Test.YteappjgdcbploaaL10D
import Derived.Test.YteappjgdcbploaaRng
namespace Go.Proofs.Yteappjgdcbploaa
open Go.RowKit Go.Shelf
set_option linter.unusedVariables false
set_option linter.unusedSimpArgs false
attribute [local go_sem] Oper.semAt_some

/-- What the iterator reads: the box of the word, and its letters that are still to come. -/
def ReadsBackW (Bn : Nat) (A : Option Addr) (n c : Nat) (zs : List Int) (t : Nat) (W : World) : Prop :=
  W.cell? ⟨Bn, 0, none⟩ = some (.slice A n c) ∧ ∀ j, j + t < zs.length → ∃ g o, A = some ⟨g, o, none⟩ ∧ W.cell? ⟨g, o + j, none⟩ = some (.int .i64 (zs.getD j 0))
set_option maxRecDepth 100000 in
set_option maxHeartbeats 1000000 in
theorem backwardW_rounds (F : Fence) (n : Nat) (hF : F.fn 163) (hro : F.round = none) (hn : 1 ≤ n) (Bn c : Nat) (A : Option Addr) (zs : List Int) (hz : zs.length ≤ 1000000) (I : Nat → World → Prop) (hI : ∀ t W, I t W → ReadsBackW Bn A zs.length c zs t W) :
    Rounds F n Try.prog 163 #[.pointer (some ⟨Bn, 0, none⟩)] (fun t => #[.int .i64 ((zs.length : Int) - 1 - (t : Int)), .int .i64 (zs.getD (zs.length - 1 - t) 0)]) zs.length I := by
  intro l J W hJ hY h0
  have hN : zs.length - 1 + 1 ≤ 1000001 := by omega
  have b0 := (hI 0 W (hJ 0 W h0)).1
  refine callsIn_of_wp Try.func163 rfl hF ?_ hro
  simp only [Try.ntmps163, List.size_toArray, List.length_cons, List.length_nil, Nat.reduceAdd, Nat.reduceSub, Array.replicate_succ, Array.replicate_zero, List.push_toArray, List.append_toArray, List.nil_append, List.cons_append]
  have w0 : IntKind.i64.wrap ((zs.length : Int) - 1) = (zs.length : Int) - 1 := IntWalk.i64_in _ (by omega)
  gi_wp2
  gi_loopw [3] (fun s wr => ∃ t : Nat, t ≤ zs.length ∧ s = .int .i64 ((zs.length : Int) - 1 - (t : Int)) ∧ J t wr) (fun s _ => (intOf s + 1).toNat)
  case atStart => exact ⟨0, by omega, by simp, h0⟩
  case round =>
    obtain ⟨t, ht, rfl, hJt⟩ := hrel
    obtain ⟨rb, rc⟩ := hI t wr (hJ t wr hJt)
    by_cases hlt : t < zs.length
    · obtain ⟨g, o, rfl, hc⟩ := rc (zs.length - 1 - t) (by omega)
      obtain ⟨fn, tmps, assign, body, hy, hR⟩ := hY t wr hlt hJt
      generalize zs.getD (zs.length - 1 - t) 0 = x at hc hy
      have i0 : (0 : Int) ≤ (zs.length : Int) - 1 - (t : Int) := by omega
      have i1 : (zs.length : Int) - 1 - (t : Int) < (zs.length : Int) := by omega
      have i2 : ((zs.length : Int) - 1 - (t : Int)).toNat = zs.length - 1 - t := by omega
      have i3 : IntKind.i64.wrap ((zs.length : Int) - 1 - (t : Int) - 1) = (zs.length : Int) - 1 - (t : Int) - 1 := IntWalk.i64_in _ (by omega)
      have HI3 := Lib.hid i3
      gi_wp2
      refine hR.mono ?_
      rintro e W3 ⟨rfl, hJ3⟩
      gi_wp2
      go_roundw
      case rel => exact ⟨t + 1, by omega, by rw [show ((t + 1 : Nat) : Int) = (t : Int) + 1 by omega]; congr 1; omega, hJ3⟩
      case measure => simp [intOf]; omega
    · obtain rfl : t = zs.length := by omega
      have i0 : ¬ ((0 : Int) ≤ (zs.length : Int) - 1 - (zs.length : Int)) := by omega
      gi_wp2
      go_end0
      exact ⟨⟨_, rfl⟩, hJt⟩
set_option maxHeartbeats 1000000 in
theorem backwardW_in (F : Fence) (n : Nat) (hF : F.fn 155) (hro : F.round = none) (A : Option Addr) (n0 c : Nat) (w : World) :
    CallsIn F n Try.prog 155 #[.slice A n0 c] w fun e w' => e = .returned (.func (.func 163) #[] #[.pointer (some ⟨w.heap.size, 0, none⟩)]) ∧ w' = w.alloc (.cells #[.slice A n0 c] 22) := by
  refine callsIn_of_wp Try.func155 rfl hF ?_ hro
  simp only [Try.ntmps155, List.size_toArray, List.length_cons, List.length_nil, Nat.reduceAdd, Nat.reduceSub, Array.replicate_succ, Array.replicate_zero, List.push_toArray, List.append_toArray, List.nil_append, List.cons_append]
  gi_wp2
  go_ret
  exact ⟨rfl, rfl⟩
theorem grownW_own {w : World} {B : Nat} : OwnFrom B (fun (_ : Nat) W => w.grownBy W none ∧ w.heap.size ≤ B) :=
  fun _ X Y row' hs hg hr => ⟨⟨hg.os.trans hs.1.os, hg.tape.trans hs.1.tape, hg.output.trans hs.1.output, Nat.le_trans hs.1.size hg.size, fun q hq hne => by
    refine (hg.block q (Nat.lt_of_lt_of_le hq hs.1.size) fun e => ?_).trans (hs.1.block q hq hne)
    have := (hr q e.symm).1
    have := hs.2
    omega⟩, hs.2⟩
theorem ownsW_own {base e c g B : Nat} {f : Nat → List Value} : OwnFrom B (fun (t : Nat) W => W.ownsRow base e 1 (.slice (some ⟨g, 0, none⟩) t c) t (f t)) :=
  fun t X Y row hs hgr hr => ownsRow_keep hs fun k hk => hgr.block k ((World.ownsRow.lt hs k hk).2) fun e => by
    simp only [Value.ownBlock, Option.some.injEq] at hk
    subst hk
    obtain ⟨_, o, ho, hoc⟩ := hr g e.symm
    rcases hs.2 with ⟨h0, _⟩ | ⟨g', cap, cur, hv, hb, hg, _⟩
    · cases h0
    · simp only [Value.slice.injEq, Option.some.injEq, Addr.mk.injEq] at hv
      obtain ⟨⟨rfl, _⟩, _⟩ := hv
      rw [hg] at ho
      cases ho
      cases hoc
theorem putW_grown {w W : World} {D : Nat} {o : Obj} (h : w.grownBy W none) (hD : w.heap.size ≤ D) : Below w.heap.size w (W.putObj D o) := by
  have gp := grownBy_putObj' W D o
  exact ⟨gp.os.trans h.os, gp.tape.trans h.tape, gp.output.trans h.output, Nat.le_trans h.size gp.size, fun q hq => (gp.block q (Nat.lt_of_lt_of_le hq h.size) fun e => by simp at e; omega).trans (h.block q hq (by simp))⟩
end Go.Proofs.Yteappjgdcbploaa
