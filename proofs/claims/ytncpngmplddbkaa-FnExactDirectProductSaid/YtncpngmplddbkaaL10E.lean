/- Words: the program's inverse: slices.Backward over a word, whose rounds append to a box. -/
import Derived.Test.YtncpngmplddbkaaL10D
import Derived.Test.YtncpngmplddbkaaRng
namespace Go.Proofs.Ytncpngmplddbkaa
open Go.RowKit Go.Shelf
set_option linter.unusedVariables false
set_option linter.unusedSimpArgs false
attribute [local go_sem] Oper.semAt_some

/-- What the iterator reads: the box of the word, and its letters that are still to come. -/
def ReadsBackW (Bn : Nat) (A : Option Addr) (n c : Nat) (zs : List Int) (t : Nat) (W : World) : Prop :=
  W.cell? ⟨Bn, 0, none⟩ = some (.slice A n c) ∧ ∀ j, j + t < zs.length → ∃ g o, A = some ⟨g, o, none⟩ ∧ W.cell? ⟨g, o + j, none⟩ = some (.int .i64 (zs.getD j 0))
set_option maxRecDepth 100000 in
set_option maxHeartbeats 1000000 in
theorem backwardW_rounds (F : Fence) (n : Nat) (hF : F.fn 86) (hro : F.round = none) (hn : 1 ≤ n) (Bn c : Nat) (A : Option Addr) (zs : List Int) (hz : zs.length ≤ 1000000) (I : Nat → World → Prop) (hI : ∀ t W, I t W → ReadsBackW Bn A zs.length c zs t W) :
    Rounds F n Try.prog 86 #[.pointer (some ⟨Bn, 0, none⟩)] (fun t => #[.int .i64 ((zs.length : Int) - 1 - (t : Int)), .int .i64 (zs.getD (zs.length - 1 - t) 0)]) zs.length I := by
  intro l J W hJ hY h0
  have hN : zs.length - 1 + 1 ≤ 1000001 := by omega
  have b0 := (hI 0 W (hJ 0 W h0)).1
  refine callsIn_of_wp Try.func86 rfl hF ?_ hro
  simp only [Try.ntmps86, List.size_toArray, List.length_cons, List.length_nil, Nat.reduceAdd, Nat.reduceSub, Array.replicate_succ, Array.replicate_zero, List.push_toArray, List.append_toArray, List.nil_append, List.cons_append]
  have w0 : IntKind.i64.wrap ((zs.length : Int) - 1) = (zs.length : Int) - 1 := IntWalk.i64_in _ (by omega)
  gi_wp2
  gi_loopw [3] (fun s wr => ∃ t : Nat, t ≤ zs.length ∧ s = .int .i64 ((zs.length : Int) - 1 - (t : Int)) ∧ J t wr) (fun s _ => (intOf s + 1).toNat)
  case atStart => exact ⟨0, by omega, by simp, h0⟩
  case round =>
    obtain ⟨t, ht, rfl, hJt⟩ := hrel
    obtain ⟨rb, rc⟩ := hI t wr (hJ t wr hJt)
    by_cases hlt : t < zs.length
    · obtain ⟨g, o, rfl, hc⟩ := rc (zs.length - 1 - t) (by omega)
      obtain ⟨fn, tmps, assign, body, hy, hR⟩ := hY t wr hlt hJt
      generalize zs.getD (zs.length - 1 - t) 0 = x at hc hy
      have i0 : (0 : Int) ≤ (zs.length : Int) - 1 - (t : Int) := by omega
      have i1 : (zs.length : Int) - 1 - (t : Int) < (zs.length : Int) := by omega
      have i2 : ((zs.length : Int) - 1 - (t : Int)).toNat = zs.length - 1 - t := by omega
      have i3 : IntKind.i64.wrap ((zs.length : Int) - 1 - (t : Int) - 1) = (zs.length : Int) - 1 - (t : Int) - 1 := IntWalk.i64_in _ (by omega)
      have HI3 := Lib.hid i3
      gi_wp2
      refine hR.mono ?_
      rintro e W3 ⟨rfl, hJ3⟩
      gi_wp2
      go_roundw
      case rel => exact ⟨t + 1, by omega, by rw [show ((t + 1 : Nat) : Int) = (t : Int) + 1 by omega]; congr 1; omega, hJ3⟩
      case measure => simp [intOf]; omega
    · obtain rfl : t = zs.length := by omega
      have i0 : ¬ ((0 : Int) ≤ (zs.length : Int) - 1 - (zs.length : Int)) := by omega
      gi_wp2
      go_end0
      exact ⟨⟨_, rfl⟩, hJt⟩
set_option maxHeartbeats 1000000 in
theorem backwardW_in (F : Fence) (n : Nat) (hF : F.fn 83) (hro : F.round = none) (A : Option Addr) (n0 c : Nat) (w : World) :
    CallsIn F n Try.prog 83 #[.slice A n0 c] w fun e w' => e = .returned (.func (.func 86) #[] #[.pointer (some ⟨w.heap.size, 0, none⟩)]) ∧ w' = w.alloc (.cells #[.slice A n0 c] 22) := by
  refine callsIn_of_wp Try.func83 rfl hF ?_ hro
  simp only [Try.ntmps83, List.size_toArray, List.length_cons, List.length_nil, Nat.reduceAdd, Nat.reduceSub, Array.replicate_succ, Array.replicate_zero, List.push_toArray, List.append_toArray, List.nil_append, List.cons_append]
  gi_wp2
  go_ret
  exact ⟨rfl, rfl⟩
theorem grownW_own {w : World} {B : Nat} : OwnFrom B (fun (_ : Nat) W => w.grownBy W none ∧ w.heap.size ≤ B) :=
  fun _ X Y row' hs hg hr => ⟨⟨hg.os.trans hs.1.os, hg.tape.trans hs.1.tape, hg.output.trans hs.1.output, Nat.le_trans hs.1.size hg.size, fun q hq hne => by
    refine (hg.block q (Nat.lt_of_lt_of_le hq hs.1.size) fun e => ?_).trans (hs.1.block q hq hne)
    have := (hr q e.symm).1
    have := hs.2
    omega⟩, hs.2⟩
theorem ownsW_own {base e c g B : Nat} {f : Nat → List Value} : OwnFrom B (fun (t : Nat) W => W.ownsRow base e 1 (.slice (some ⟨g, 0, none⟩) t c) t (f t)) :=
  fun t X Y row hs hgr hr => ownsRow_keep hs fun k hk => hgr.block k ((World.ownsRow.lt hs k hk).2) fun e => by
    simp only [Value.ownBlock, Option.some.injEq] at hk
    subst hk
    obtain ⟨_, o, ho, hoc⟩ := hr g e.symm
    rcases hs.2 with ⟨h0, _⟩ | ⟨g', cap, cur, hv, hb, hg, _⟩
    · cases h0
    · simp only [Value.slice.injEq, Option.some.injEq, Addr.mk.injEq] at hv
      obtain ⟨⟨rfl, _⟩, _⟩ := hv
      rw [hg] at ho
      cases ho
      cases hoc
theorem putW_grown {w W : World} {D : Nat} {o : Obj} (h : w.grownBy W none) (hD : w.heap.size ≤ D) : Below w.heap.size w (W.putObj D o) := by
  have gp := grownBy_putObj' W D o
  exact ⟨gp.os.trans h.os, gp.tape.trans h.tape, gp.output.trans h.output, Nat.le_trans h.size gp.size, fun q hq => (gp.block q (Nat.lt_of_lt_of_le hq h.size) fun e => by simp at e; omega).trans (h.block q hq (by simp))⟩
set_option maxRecDepth 100000 in
set_option maxHeartbeats 4000000 in
theorem inverseWord_any (A : Option Addr) (n0 c : Nat) (xs : List Int) (w : World) (h : RdI w A xs) (hn : xs.length = n0) (hl : xs.length ≤ 1000000) (hs : Num.SmallW xs) :
    Calls Try.prog 75 #[.slice A n0 c] w fun e w' => ∃ v, e = .returned v ∧ OwnI w' w.heap.size v (Num.invW xs) ∧ Below w.heap.size w w' := by
  subst hn
  obtain ⟨iT, hi, hz0, hz1, hz2⟩ := info_parts infoI
  refine (callsIn_wide (n := 9)).1 ?_
  refine callsIn_of_wp_marks Try.func75 rfl trivial ?_ rfl
  simp only [Try.ntmps75, List.size_toArray, List.length_cons, List.length_nil, Nat.reduceAdd, Nat.reduceSub, Array.replicate_succ, Array.replicate_zero, List.push_toArray, List.append_toArray, List.nil_append, List.cons_append]
  gi_wp2_with (first
    | (gi_at_make; refine wpListIn_make_own _ rfl _ _ 22 rfl w.heap.size 2 iT (.int .i64 0) 1 Try.underlying22 hi hz0 hz1 .i64 .i64 (xs.length : Int) xs.length rfl rfl rfl (by rw [hz2]; omega) (by unfold maxLen; omega) (Nat.le_refl _) ?_; intro w1 hown1 hgrow1)
    | (refine ⟨trivial, ?_⟩; gi_at_call 83; refine (backwardW_in Fence.wide _ trivial rfl _ _ _ _).mono ?_; rintro e w' ⟨rfl, rfl⟩))
  have hlt1 : w.heap.size < w1.heap.size := (World.ownsRow.lt hown1 _ rfl).2
  have bX := (Boxed.new w1 22 (.slice (some ⟨w.heap.size, 0, none⟩) 0 xs.length)).alloc (.cells #[.slice A xs.length c] 22)
  have bN := Boxed.new (w1.alloc (.cells #[.slice (some ⟨w.heap.size, 0, none⟩) 0 xs.length] 22)) 22 (.slice A xs.length c)
  simp only [World.size_alloc] at bN
  have own := (hown1.alloc (.cells #[.slice (some ⟨w.heap.size, 0, none⟩) 0 xs.length] 22)).alloc (.cells #[.slice A xs.length c] 22)
  have gr := World.grownBy.trans_ (World.grownBy.trans_ hgrow1 (World.grownBy_alloc w1 (.cells #[.slice (some ⟨w.heap.size, 0, none⟩) 0 xs.length] 22) none)) (World.grownBy_alloc _ (.cells #[.slice A xs.length c] 22) none)
  have hsz : ((w1.alloc (.cells #[.slice (some ⟨w.heap.size, 0, none⟩) 0 xs.length] 22)).alloc (.cells #[.slice A xs.length c] 22)).heap.size = w1.heap.size + 2 := by simp
  obtain ⟨W0, hW0⟩ : ∃ W0, (w1.alloc (.cells #[.slice (some ⟨w.heap.size, 0, none⟩) 0 xs.length] 22)).alloc (.cells #[.slice A xs.length c] 22) = W0 := ⟨_, rfl⟩
  rw [hW0] at bX bN own gr hsz ⊢
  clear hW0
  generalize hB1 : w1.heap.size = B1 at *
  clear hB1 hown1 hgrow1 w1
  refine wpIn_range_on rfl (by decide) (gf := 86) (lb := #[.pointer (some ⟨B1 + 1, 0, none⟩)]) rfl trivial (enters_of Try.func86 (by kernel_rfl) rfl)
    (I := fun t W => ((Boxed W B1 22 (.slice (some ⟨w.heap.size, 0, none⟩) t xs.length) ∧ Boxed W (B1 + 1) 22 (.slice A xs.length c)) ∧ W.ownsRow w.heap.size 2 1 (.slice (some ⟨w.heap.size, 0, none⟩) t xs.length) t (((Num.invW xs).take t).map (Value.int .i64))) ∧ w.grownBy W none ∧ w.heap.size ≤ W0.heap.size)
    (backwardW_rounds Fence.wide _ trivial rfl (by decide) (B1 + 1) c A xs hl _ (fun t W hi => ⟨hi.1.1.2.cell, fun j hj => by
      obtain ⟨g, o, rfl, hg, hc⟩ := h j (by omega)
      exact ⟨g, o, rfl, hi.2.1.cell hc (by simp)⟩⟩)) (fun _ => rfl)
    (OwnFrom.and (OwnFrom.and (OwnFrom.and (Own.from (boxed_own _ _ _) _) (Own.from (boxed_own _ _ _) _)) ownsW_own) grownW_own)
    ⟨⟨⟨bX, bN⟩, own⟩, gr, by omega⟩
    (fun t => { tmps := #[.slice A xs.length c, undef, .slice none 0 0, .pointer (some ⟨B1, 0, none⟩), undef, .int .i64 (xs.getD (xs.length - 1 - t) 0), .slice A xs.length c, .int .i64 xs.length, .slice (some ⟨w.heap.size, 0, none⟩) 0 xs.length, .slice A xs.length c, .func (.func 86) #[] #[.pointer (some ⟨B1 + 1, 0, none⟩)], .int .i64 ((xs.length : Int) - 1 - (t : Int)), .int .i64 (xs.getD (xs.length - 1 - t) 0), undef, undef, undef, undef, undef, undef], defers := [] }) ?assign ?body ?done
  case assign =>
    intro l t W K _ hK
    gi_wp2
    exact hK
  case body =>
    rintro l t W ht ⟨⟨⟨bX1, bN1⟩, ow1⟩, gr1, hzz⟩
    have cX := bX1.cell
    have lX := bX1.lt
    have HST := Lib.hid (Num.invW_take xs t ht)
    have hsx := hs.at_ (xs.length - 1 - t) (by omega)
    generalize xs.getD (xs.length - 1 - t) 0 = x at HST hsx ⊢
    have w9 : IntKind.i64.wrap (-x) = -x := IntWalk.i64_in _ (by omega)
    generalize (Num.invW xs).take t = out at HST ow1
    gi_wp2_with (gi_at_builtin; refine wpListIn_append_fits _ rfl _ _ 22 rfl w.heap.size 2 iT 1 Try.underlying22 hi hz1 w.heap.size t xs.length (out.map (Value.int .i64)) rfl (ow1.alloc _) ⟨W.heap.size, 0, none⟩ 1 1 [.int .i64 (-x)] rfl rfl (cell_one_new _ _ _) (fun y hy => by simp at hy; subst hy; rfl) (by omega) ?_; intro w3 hown3 hgrow3; have hap := Boxed.appended bX1 (by decide) ow1 (by omega) (by omega) hown3 hgrow3; have cX3 := hap.1.cell; have fX3 := hap.1.frozen)
    obtain ⟨a1, a2, a3, a4, a5⟩ := hap
    refine ⟨a4.from _, ⟨⟨a2, ?_⟩, ?_⟩, ?_, hzz⟩
    · have hbn := (bN1.alloc (.cells #[.int .i64 (-x)] 2)).kept hgrow3 (by simp; omega)
      show (World.setCell _ _ _).heap[B1 + 1]? = _
      rw [Below.heap_setCell _ _ _ _ (by simp)]
      exact hbn
    · rw [HST.out, List.map_append]
      exact a3
    · exact ⟨a5.os.trans gr1.os, a5.tape.trans gr1.tape, a5.output.trans gr1.output, Nat.le_trans gr1.size a5.size, fun q hq hne => (a5.block q hq).trans (gr1.block q hq hne)⟩
  case done =>
    rintro D W hD ⟨⟨⟨bX1, bN1⟩, ow1⟩, gr1, hzz⟩ hK
    have cX := bX1.cell
    rw [List.take_of_length_le (by rw [Num.invW_len]; omega)] at ow1
    gi_wp2
    refine ⟨by simp, .inl ⟨_, _, rfl, run_takeDeferred hK, ?_⟩⟩
    refine ⟨_, results_tmp rfl _ _ _, _, rfl, ?_, putW_grown gr1 (by omega)⟩
    have := ownsRow_putObj ow1 (.deferred none) hK rfl
    unfold OwnI
    rw [Num.invW_len]
    exact this
end Go.Proofs.Ytncpngmplddbkaa
