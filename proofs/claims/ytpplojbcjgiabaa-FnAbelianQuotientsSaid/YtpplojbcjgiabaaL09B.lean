/- An order put into a chain: the program's insert. -/
import Derived.Test.YtpplojbcjgiabaaL09A
import Derived.Test.YtpplojbcjgiabaaInsC
import Derived.Test.YtpplojbcjgiabaaNumAm
namespace Go.Proofs.Ytpplojbcjgiabaa
open Go.RowKit Go.Shelf
set_option linter.unusedVariables false
set_option linter.unusedSimpArgs false
attribute [local go_sem] Oper.semAt_some

theorem isOneC_any (a : Int) (w : World) : Calls Try.prog 100 #[.int .i64 a] w fun e w' => e = .returned (.bool (a == 1)) ∧ w = w' := by
  go_enter Try.func100, Try.ntmps100
  go_wp2_with (fail)
  go_ret
  exact ⟨rfl, rfl⟩
theorem multipleWith_any (a b : Int) (w : World) (ha0 : 0 ≤ a) (ha1 : a ≤ 1000000) (hb0 : 0 ≤ b) (hb1 : b ≤ 1000000) :
    Calls Try.prog 101 #[.int .i64 a, .int .i64 b] w fun e w' => e = .returned (.int .i64 (Num.lcmI a b)) ∧ Below w.heap.size w w' := by
  by_cases hz : a = 0
  · subst hz
    go_enter Try.func101, Try.ntmps101
    go_wp2_with (fail)
    go_ret
    exact ⟨rfl, Below.refl _ _⟩
  · have HC := Lib.hid (divisorWith_any a b w ha0 ha1 hb0 hb1)
    obtain ⟨q0, q1, q2, q3⟩ := Num.lcmI_bd ha0 ha1 hb0 hb1
    have HE : Hid (Num.lcmI a b = a / (Int.gcd a b : Int) * b) := Lib.hid (by unfold Num.lcmI; rw [if_neg hz])
    rw [HE.out] at q0 q1
    have hg : ((Int.gcd a b : Int)) ≠ 0 := by have := Int.gcd_pos_of_ne_zero_left b hz; omega
    have ht : a.tdiv (Int.gcd a b : Int) = a / (Int.gcd a b : Int) := Int.tdiv_eq_ediv_of_nonneg ha0
    have hw1 : IntKind.i64.wrap (a / (Int.gcd a b : Int)) = a / (Int.gcd a b : Int) := IntWalk.i64_in _ (by omega)
    have hw2 : IntKind.i64.wrap (a / (Int.gcd a b : Int) * b) = a / (Int.gcd a b : Int) * b := IntWalk.i64_in _ (by omega)
    have T1 : (a == 0) = false := by simpa using hz
    rw [HE.out]
    generalize (Int.gcd a b : Int) = g at *
    generalize a / g = q at *
    clear HE q0 q1 q2 q3
    go_enter Try.func101, Try.ntmps101
    go_wp2_with (fail)
    refine HC.out.mono ?_; rintro e w1 ⟨rfl, hb⟩
    clear HC
    go_wp2_with (fail)
    go_ret
    exact ⟨rfl, hb⟩

/-- What lies but for a block, over the turns of blocks that are laid behind it. -/
theorem grown_own {w : World} {B : Nat} {row : Option Nat} (hB : w.heap.size ≤ B) : OwnFrom B (fun (_ : Nat) W => w.grownBy W row) :=
  fun _ X Y row' hs hg hr => ⟨hg.os.trans hs.os, hg.tape.trans hs.tape, hg.output.trans hs.output, Nat.le_trans hs.size hg.size, fun q hq hne => by
    refine (hg.block q (Nat.lt_of_lt_of_le hq hs.size) fun e => ?_).trans (hs.block q hq hne)
    have := (hr q e.symm).1
    omega⟩
theorem owns_own {base e n c g B : Nat} {f : Nat → List Value} (hg : g < B) : OwnFrom B (fun (t : Nat) W => W.ownsRow base e 1 (.slice (some ⟨g, 0, none⟩) n c) n (f t)) :=
  fun t X Y row hs hgr hr => ownsRow_keep hs fun k hk => hgr.block k ((World.ownsRow.lt hs k hk).2) fun e => by
    simp only [Value.ownBlock, Option.some.injEq] at hk
    have := (hr k e.symm).1
    omega
/-- What insert leaves: a chain of the call's own; but for the old chain's block all lies as it lay. -/
def InsC (w : World) (A : Option Addr) (n c : Nat) (zs : List Int) (e : Ending) (w' : World) : Prop :=
  ∃ v, e = .returned v ∧ w'.ownsRow 0 80 1 v zs.length (zs.map (Value.int .i64)) ∧ w.grownBy w' (Value.slice A n c).ownBlock ∧ (v.ownBlock = (Value.slice A n c).ownBlock ∨ ∀ k, v.ownBlock = some k → w.heap.size ≤ k)
theorem ins_first (g n c vb vc : Nat) (xs : List Int) (y : Int) (w : World) (h : w.ownsRow 0 80 1 (.slice (some ⟨g, 0, none⟩) n c) n (xs.map (Value.int .i64))) (hn : n ≤ 1000) (hvb : vb ≠ g) (hbx : Boxed w vb 80 (.int .i64 y)) :
    Calls Try.prog 76 #[.slice (some ⟨g, 0, none⟩) n c, .int .i64 0, .slice (some ⟨vb, 0, none⟩) 1 vc] w (InsAtC w (some ⟨g, 0, none⟩) n c (xs.map (Value.int .i64)) 0 (.int .i64 y)) := by
  have h1 : ∀ x ∈ xs.map (Value.int .i64), x.oneCell' = true := fun x hx => by
    obtain ⟨z, _, rfl⟩ := List.mem_map.mp hx
    rfl
  by_cases h0 : n = 0
  · subst h0
    exact ins_endC _ 0 c vb vc _ _ w h (by omega) hbx.cell rfl
  · by_cases hr : n + 1 ≤ c
    · exact ins_shiftC g n c 0 vb vc _ _ w h hn (by omega) hr hvb hbx rfl h1
    · exact ins_growC g n c 0 vb vc _ _ w h hn (by omega) (by omega) hvb hbx rfl h1
theorem grown_put {w W : World} {row : Option Nat} {D : Nat} {o : Obj} (h : w.grownBy W row) (hD : w.heap.size ≤ D) : w.grownBy (W.putObj D o) row := by
  have gp := grownBy_putObj' W D o
  exact ⟨gp.os.trans h.os, gp.tape.trans h.tape, gp.output.trans h.output, Nat.le_trans h.size gp.size, fun q hq hne => (gp.block q (Nat.lt_of_lt_of_le hq h.size) fun e => by simp at e; omega).trans (h.block q hq hne)⟩
set_option maxRecDepth 100000 in
set_option maxHeartbeats 4000000 in
theorem insert_some (g n c : Nat) (zs : List Int) (r : Int) (w : World) (h : w.ownsRow 0 80 1 (.slice (some ⟨g, 0, none⟩) n c) n (zs.map (Value.int .i64))) (hn : n ≤ 100) (hz : ∀ j, 0 ≤ zs.getD j 0 ∧ zs.getD j 0 ≤ 1000000) (r0 : 0 ≤ r) (r1 : r ≤ 1000000) :
    Calls Try.prog 67 #[.slice (some ⟨g, 0, none⟩) n c, .int .i64 r] w (InsC w (some ⟨g, 0, none⟩) n c (Num.insC zs r)) := by
  have zl : zs.length = n := by have := h.1; simpa using this
  subst zl
  have hgl : g < w.heap.size := (World.ownsRow.lt h g rfl).2
  have hm1 : ∀ (a : Int) (W : World), (method 232 80 (.int .i64 a) "loop.example/g01076/impl.multipleWith").run Try.prog W = .ok (101, .int .i64 a) W := fun _ _ => by kernel_rfl
  have hm2 : ∀ (a : Int) (W : World), (method 232 80 (.int .i64 a) "loop.example/g01076/impl.divisorWith").run Try.prog W = .ok (99, .int .i64 a) W := fun _ _ => by kernel_rfl
  have hm3 : ∀ (a : Int) (W : World), (method 232 80 (.int .i64 a) "loop.example/g01076/impl.isOne").run Try.prog W = .ok (100, .int .i64 a) W := fun _ _ => by kernel_rfl
  refine (callsIn_wide (n := 9)).1 ?_
  refine callsIn_of_wp_marks Try.func67 rfl trivial ?_ rfl
  simp only [Try.ntmps67, List.size_toArray, List.length_cons, List.length_nil, Nat.reduceAdd, Nat.reduceSub, Array.replicate_succ, Array.replicate_zero, List.push_toArray, List.append_toArray, List.nil_append, List.cons_append]
  gi_wp2_with (refine ⟨trivial, ?_⟩; gi_at_call 75; refine (backward_in Fence.wide _ trivial rfl _ _ _ _).mono ?_; rintro e w' ⟨rfl, rfl⟩)
  have bC := ((Boxed.new w 77 (.slice (some ⟨g, 0, none⟩) zs.length c)).alloc (.cells #[.int .i64 r] 80)).alloc (.cells #[.slice (some ⟨g, 0, none⟩) zs.length c] 77)
  have bR := (Boxed.new (w.alloc (.cells #[.slice (some ⟨g, 0, none⟩) zs.length c] 77)) 80 (.int .i64 r)).alloc (.cells #[.slice (some ⟨g, 0, none⟩) zs.length c] 77)
  have bN := Boxed.new ((w.alloc (.cells #[.slice (some ⟨g, 0, none⟩) zs.length c] 77)).alloc (.cells #[.int .i64 r] 80)) 77 (.slice (some ⟨g, 0, none⟩) zs.length c)
  simp only [World.size_alloc] at bR bN
  have gr := World.grownBy.trans_ (World.grownBy.trans_ (World.grownBy_alloc w (.cells #[.slice (some ⟨g, 0, none⟩) zs.length c] 77) (some g)) (World.grownBy_alloc _ (.cells #[.int .i64 r] 80) (some g))) (World.grownBy_alloc _ (.cells #[.slice (some ⟨g, 0, none⟩) zs.length c] 77) (some g))
  have own := ((h.alloc (.cells #[.slice (some ⟨g, 0, none⟩) zs.length c] 77)).alloc (.cells #[.int .i64 r] 80)).alloc (.cells #[.slice (some ⟨g, 0, none⟩) zs.length c] 77)
  have hsz : (((w.alloc (.cells #[.slice (some ⟨g, 0, none⟩) zs.length c] 77)).alloc (.cells #[.int .i64 r] 80)).alloc (.cells #[.slice (some ⟨g, 0, none⟩) zs.length c] 77)).heap.size = w.heap.size + 3 := by simp
  obtain ⟨W0, hW0⟩ : ∃ W0, ((w.alloc (.cells #[.slice (some ⟨g, 0, none⟩) zs.length c] 77)).alloc (.cells #[.int .i64 r] 80)).alloc (.cells #[.slice (some ⟨g, 0, none⟩) zs.length c] 77) = W0 := ⟨_, rfl⟩
  rw [hW0] at bC bR bN gr own hsz ⊢
  clear hW0
  refine wpIn_range_on rfl (by decide) (gf := 78) (lb := #[.pointer (some ⟨w.heap.size + 1 + 1, 0, none⟩)]) rfl trivial (enters_of Try.func78 (by kernel_rfl) rfl)
    (I := fun t W => (((Boxed W w.heap.size 77 (.slice (some ⟨g, 0, none⟩) zs.length c) ∧ Boxed W (w.heap.size + 1) 80 (.int .i64 (Num.rAt zs r t))) ∧ Boxed W (w.heap.size + 1 + 1) 77 (.slice (some ⟨g, 0, none⟩) zs.length c)) ∧ W.ownsRow 0 80 1 (.slice (some ⟨g, 0, none⟩) zs.length c) zs.length ((Num.cAt zs r t).map (Value.int .i64))) ∧ w.grownBy W (some g))
    (backward_rounds Fence.wide _ trivial rfl (by decide) (w.heap.size + 1 + 1) c (some ⟨g, 0, none⟩) zs (by omega) _ (fun t W hi => ⟨hi.1.1.2.cell, fun j hj => ⟨g, 0, rfl, by
      have := hi.1.2.cellAt j (by omega)
      rw [Nat.zero_add, this, List.getElem?_map]
      have hl := Num.cAt_len zs r t
      have hv := Num.cAt_low zs r t j hj
      rw [List.getD_eq_getElem?_getD] at hv
      rw [← hv, List.getElem?_eq_getElem (by omega)]
      simp⟩⟩)) (fun _ => rfl)
    (OwnFrom.and (OwnFrom.and (OwnFrom.and (OwnFrom.and (Own.from (boxed_own _ _ _) _) (Own.from (boxed_own _ _ _) _)) (Own.from (boxed_own _ _ _) _)) (owns_own (by omega))) (grown_own (by omega)))
    ⟨⟨⟨⟨bC, bR⟩, bN⟩, own⟩, gr⟩
    (fun t => { tmps := #[.slice (some ⟨g, 0, none⟩) zs.length c, .int .i64 r, .pointer (some ⟨w.heap.size, 0, none⟩), .pointer (some ⟨w.heap.size + 1, 0, none⟩), .slice none 0 0, .int .i64 ((zs.length : Int) - 1 - (t : Int)), .int .i64 (zs[zs.length - 1 - t]?.getD 0), .slice (some ⟨g, 0, none⟩) zs.length c, .func (.func 78) #[] #[.pointer (some ⟨w.heap.size + 1 + 1, 0, none⟩)], .int .i64 ((zs.length : Int) - 1 - (t : Int)), .int .i64 (zs[zs.length - 1 - t]?.getD 0), undef, undef, undef, undef, undef, undef, undef, undef, undef, undef, undef, undef, undef, undef, undef, undef, undef, undef, undef], defers := [] }) ?assign ?body ?done
  case assign =>
    intro l t W K _ hK
    gi_wp2
    exact hK
  case body =>
    rintro l t W ht ⟨⟨⟨⟨bC1, bR1⟩, bN1⟩, ow1⟩, gr1⟩
    have cC := bC1.cell
    have cR := bR1.cell
    have fR := bR1.frozen
    have lC := bC1.lt
    have lR := bR1.lt
    have lg : g < W.heap.size := (World.ownsRow.lt ow1 g rfl).2
    have i0 : (0 : Int) ≤ (zs.length : Int) - 1 - (t : Int) := by omega
    have i1 : (zs.length : Int) - 1 - (t : Int) < (zs.length : Int) := by omega
    have i2 : ((zs.length : Int) - 1 - (t : Int)).toNat = zs.length - 1 - t := by omega
    obtain ⟨ov0, hov0⟩ : ∃ ov, W.cell? ⟨g, zs.length - 1 - t, none⟩ = some ov := ⟨_, by rw [ow1.cellAt (zs.length - 1 - t) (by omega)]; exact List.getElem?_eq_getElem (by have := Num.cAt_len zs r t; simp; omega)⟩
    have hf0 := ow1.frozenAt (zs.length - 1 - t)
    have hx := hz (zs.length - 1 - t)
    have hr := Num.rAt_bd hz r0 r1 t
    have hrn : Num.rAt zs r (t + 1) = (Int.gcd (zs[zs.length - 1 - t]?.getD 0) (Num.rAt zs r t) : Int) := rfl
    have hcn : Num.cAt zs r (t + 1) = (Num.cAt zs r t).set (zs.length - 1 - t) (Num.lcmI (zs[zs.length - 1 - t]?.getD 0) (Num.rAt zs r t)) := rfl
    have HRN := Lib.hid hrn
    have HCN := Lib.hid hcn
    clear hrn hcn
    have HM := Lib.hid (fun W => multipleWith_any (zs[zs.length - 1 - t]?.getD 0) (Num.rAt zs r t) W hx.1 hx.2 hr.1 hr.2)
    have HD := Lib.hid (fun W => divisorWith_any (zs[zs.length - 1 - t]?.getD 0) (Num.rAt zs r t) W hx.1 hx.2 hr.1 hr.2)
    have HO := Lib.hid ow1
    clear ow1 hx hr h own bC bR bN gr hz r0 r1
    generalize zs[zs.length - 1 - t]?.getD 0 = x at *
    generalize Num.rAt zs r t = y at *
    have hmx : Try.prog.follows .mixedOrders = true := by kernel_rfl
    gi_wp2
    have i3 : (t : Int) ≤ (zs.length : Int) - 1 := by omega
    refine wpIn_cut (fun a' w' => a' = { tmps := #[.slice (some ⟨g, 0, none⟩) zs.length c, .int .i64 r, .pointer (some ⟨w.heap.size, 0, none⟩), .pointer (some ⟨w.heap.size + 1, 0, none⟩), .slice none 0 0, .int .i64 ((zs.length : Int) - 1 - (t : Int)), .int .i64 x, .slice (some ⟨g, 0, none⟩) zs.length c, .func (.func 78) #[] #[.pointer (some ⟨w.heap.size + 1 + 1, 0, none⟩)], .int .i64 ((zs.length : Int) - 1 - (t : Int)), .int .i64 x, .slice (some ⟨g, 0, none⟩) zs.length c, .int .i64 ((zs.length : Int) - 1 - (t : Int)), .int .i64 x, .iface 80 (.int .i64 x), .int .i64 y, .int .i64 (Num.lcmI x y), .pointer (some ⟨g, zs.length - 1 - t, none⟩), undef, undef, undef, undef, undef, undef, undef, undef, undef, undef, undef, undef], defers := [] } ∧ ∃ w2, Below W.drew.heap.size W.drew w2 ∧ w' = w2.setCell ⟨g, zs.length - 1 - t, none⟩ (.int .i64 (Num.lcmI x y))) (wpIn_region_any hmx (wpAnyIn_round rfl ?_ ?_)) ?_
    · intro i o hi cc
      match i, hi with
      | 0, hi | 1, hi | 2, hi | 3, hi | 4, hi | 5, hi | 6, hi | 7, hi => simp at hi; subst hi; simp
      | i + 8, hi => simp at hi
    · change wpAnyIn _ _ _ _ _ _ _ _ _ (World.drew _)
      refine wpAnyIn_take (i := 1) (v := ?_) rfl rfl (by kernel_rfl) (by kernel_rfl) (by kernel_rfl) (fun _ _ _ h => h) ⟨Or.inl ⟨by rfl, ?_⟩, fun _ => rfl⟩ ?_
      rotate_left
      · intro W9; go_simp
        with_reducible rfl
      refine wpAnyIn_take (i := 2) (v := ?_) rfl rfl (by kernel_rfl) (by kernel_rfl) (by kernel_rfl) (fun _ _ _ h => h) ⟨Or.inl ⟨by rfl, ?_⟩, fun _ => rfl⟩ ?_
      rotate_left
      · intro W9; go_simp
        with_reducible rfl
      refine wpAnyIn_take (i := 3) (v := ?_) rfl rfl (by kernel_rfl) (by kernel_rfl) (by kernel_rfl) (fun _ _ _ h => h) ⟨Or.inl ⟨by rfl, ?_⟩, fun _ => rfl⟩ ?_
      rotate_left
      · intro W9; go_simp
        with_reducible rfl
      refine wpAnyIn_ready (rs := [0, 4]) (by kernel_rfl) (by simp) ?_
      refine (AllReadyIn.cons rfl (fun K hK => ?_) (AllReadyIn.cons rfl (fun K hK => ?_) AllReadyIn.nil))
      · go_simp
        refine hK _ _ ?_
        clear hK K
        refine wpAnyIn_ready (rs := [4]) (by kernel_rfl) (by simp) ?_
        refine (AllReadyIn.cons rfl (fun K hK => ?_) AllReadyIn.nil)
        · go_simp
          refine hK _ _ ?_
          clear hK K
          refine wpAnyIn_ready (rs := [5]) (by kernel_rfl) (by simp) ?_
          refine (AllReadyIn.cons rfl (fun K hK => ?_) AllReadyIn.nil)
          · go_simp
            refine ⟨trivial, (callsIn_wide.2 (HM.out _)).mono ?_⟩
            rintro e w2 ⟨rfl, hb2⟩
            have e1 := (hb2.cell (p := ⟨g, zs.length - 1 - t, none⟩) lg).trans hov0
            have e2 := (hb2.frozen (p := ⟨g, zs.length - 1 - t, none⟩) lg).trans hf0
            have e3 := (hb2.cell (p := ⟨w.heap.size, 0, none⟩) lC).trans cC
            go_simp
            refine hK _ _ ?_
            clear hK K
            refine wpAnyIn_ready (rs := [6]) (by kernel_rfl) (by simp) ?_
            refine (AllReadyIn.cons rfl (fun K hK => ?_) AllReadyIn.nil)
            · go_simp
              refine hK _ _ ?_
              clear hK K
              refine wpAnyIn_ready (rs := [7]) (by kernel_rfl) (by simp) ?_
              refine (AllReadyIn.cons rfl (fun K hK => ?_) AllReadyIn.nil)
              · go_simp
                refine hK _ _ ?_
                clear hK K
                refine wpAnyIn_done (by kernel_rfl) ?_ _
                exact ⟨rfl, _, hb2, rfl⟩
      · go_simp
        refine hK _ _ ?_
        clear hK K
        refine wpAnyIn_ready (rs := [0, 5]) (by kernel_rfl) (by simp) ?_
        refine (AllReadyIn.cons rfl (fun K hK => ?_) (AllReadyIn.cons rfl (fun K hK => ?_) AllReadyIn.nil))
        · go_simp
          refine hK _ _ ?_
          clear hK K
          refine wpAnyIn_ready (rs := [5]) (by kernel_rfl) (by simp) ?_
          refine (AllReadyIn.cons rfl (fun K hK => ?_) AllReadyIn.nil)
          · go_simp
            refine ⟨trivial, (callsIn_wide.2 (HM.out _)).mono ?_⟩
            rintro e w2 ⟨rfl, hb2⟩
            have e1 := (hb2.cell (p := ⟨g, zs.length - 1 - t, none⟩) lg).trans hov0
            have e2 := (hb2.frozen (p := ⟨g, zs.length - 1 - t, none⟩) lg).trans hf0
            have e3 := (hb2.cell (p := ⟨w.heap.size, 0, none⟩) lC).trans cC
            go_simp
            refine hK _ _ ?_
            clear hK K
            refine wpAnyIn_ready (rs := [6]) (by kernel_rfl) (by simp) ?_
            refine (AllReadyIn.cons rfl (fun K hK => ?_) AllReadyIn.nil)
            · go_simp
              refine hK _ _ ?_
              clear hK K
              refine wpAnyIn_ready (rs := [7]) (by kernel_rfl) (by simp) ?_
              refine (AllReadyIn.cons rfl (fun K hK => ?_) AllReadyIn.nil)
              · go_simp
                refine hK _ _ ?_
                clear hK K
                refine wpAnyIn_done (by kernel_rfl) ?_ _
                exact ⟨rfl, _, hb2, rfl⟩
        · go_simp
          refine ⟨trivial, (callsIn_wide.2 (HM.out _)).mono ?_⟩
          rintro e w2 ⟨rfl, hb2⟩
          have e1 := (hb2.cell (p := ⟨g, zs.length - 1 - t, none⟩) lg).trans hov0
          have e2 := (hb2.frozen (p := ⟨g, zs.length - 1 - t, none⟩) lg).trans hf0
          have e3 := (hb2.cell (p := ⟨w.heap.size, 0, none⟩) lC).trans cC
          go_simp
          refine hK _ _ ?_
          clear hK K
          refine wpAnyIn_ready (rs := [0]) (by kernel_rfl) (by simp) ?_
          refine (AllReadyIn.cons rfl (fun K hK => ?_) AllReadyIn.nil)
          · go_simp
            refine hK _ _ ?_
            clear hK K
            refine wpAnyIn_ready (rs := [6]) (by kernel_rfl) (by simp) ?_
            refine (AllReadyIn.cons rfl (fun K hK => ?_) AllReadyIn.nil)
            · go_simp
              refine hK _ _ ?_
              clear hK K
              refine wpAnyIn_ready (rs := [7]) (by kernel_rfl) (by simp) ?_
              refine (AllReadyIn.cons rfl (fun K hK => ?_) AllReadyIn.nil)
              · go_simp
                refine hK _ _ ?_
                clear hK K
                refine wpAnyIn_done (by kernel_rfl) ?_ _
                exact ⟨rfl, _, hb2, rfl⟩
    rintro a' w' ⟨rfl, w2, hb2, rfl⟩
    have ow2 := ownsRow_keep (HO.out.drew) (fun k hk => hb2.block k (World.ownsRow.lt HO.out.drew k hk).2)
    obtain ⟨st, gs⟩ := ow2.stored (zs.length - 1 - t) (.int .i64 (Num.lcmI x y))
    have gw2 : W.grownBy w2 none := ⟨hb2.os, hb2.tape, hb2.output, hb2.size, fun k hk _ => hb2.block k hk⟩
    have ng1 : some w.heap.size ≠ some g := fun e => by simp at e; omega
    have ng2 : some (w.heap.size + 1) ≠ some g := fun e => by simp at e; omega
    have ng3 : some (w.heap.size + 1 + 1) ≠ some g := fun e => by simp at e; omega
    have bC3 := (bC1.kept gw2 (by simp)).kept gs ng1
    have bR3 := (bR1.kept gw2 (by simp)).kept gs ng2
    have bN3 := (bN1.kept gw2 (by simp)).kept gs ng3
    have gr3 := World.grownBy.trans_ (World.grownBy.trans_ gr1 (⟨hb2.os, hb2.tape, hb2.output, hb2.size, fun k hk _ => hb2.block k hk⟩ : W.grownBy w2 (some g))) gs
    have kf3 : KeepsFrom W0.heap.size W (w2.setCell ⟨g, zs.length - 1 - t, none⟩ (.int .i64 (Num.lcmI x y))) := ((KeepsOthers.of_grownBy gw2 (fun j o e => by cases e)).trans (KeepsOthers.setCell _ _ _)).from _
    have ow3 : (w2.setCell ⟨g, zs.length - 1 - t, none⟩ (.int .i64 (Num.lcmI x y))).ownsRow 0 80 1 (.slice (some ⟨g, 0, none⟩) zs.length c) zs.length ((Num.cAt zs r (t + 1)).map (Value.int .i64)) := by rw [HCN.out, List.map_set]; exact st
    have HO3 := Lib.hid ow3
    clear HO ow2 st gs gw2 ow3 hov0 hf0 bC1 bN1 gr1 cC cR fR bR1 hb2
    generalize w2.setCell ⟨g, zs.length - 1 - t, none⟩ (.int .i64 (Num.lcmI x y)) = W3 at *
    have cR := bR3.cell
    have fR := bR3.frozen
    have lR3 := bR3.lt
    gi_wp2_with (refine ⟨trivial, ?_⟩; gi_at_call 99; refine (CallsIn.inRound l (callsIn_wide.2 (HD.out _))).mono ?_; rintro e w4 ⟨rfl, hb4⟩; have gw4 : W3.grownBy w4 none := ⟨hb4.os, hb4.tape, hb4.output, hb4.size, fun k hk _ => hb4.block k hk⟩; have bR4 := bR3.kept gw4 (by simp); have cR4 := bR4.cell; have fR4 := bR4.frozen)
    have bR5 : Boxed (w4.setCell ⟨w.heap.size + 1, 0, none⟩ (.int .i64 (Int.gcd x y : Int))) (w.heap.size + 1) 80 (.int .i64 (Num.rAt zs r (t + 1))) := by rw [HRN.out]; exact bR4.set _
    have ng4 : ∀ k, (Value.slice (some ⟨g, 0, none⟩) zs.length c).ownBlock = some k → some k ≠ some (w.heap.size + 1) := fun k hk e => by
      have e1 : g = k := by simpa [Value.ownBlock] using hk
      have e2 : k = w.heap.size + 1 := by simpa using e
      omega
    have gs5 := grownBy_setCell' w4 (w.heap.size + 1) (.int .i64 (Int.gcd x y : Int))
    exact ⟨kf3.trans (((KeepsOthers.of_grownBy gw4 (fun j o e => by cases e)).trans (KeepsOthers.setCell _ _ _)).from _),
      ⟨⟨⟨(bC3.kept gw4 (by simp)).other (by omega) _, bR5⟩, (bN3.kept gw4 (by simp)).other (by omega) _⟩,
        ownsRow_keep (ownsRow_keep HO3.out (fun k hk => gw4.block k (World.ownsRow.lt HO3.out k hk).2 (by simp))) (fun k hk => gs5.block k (Nat.lt_of_lt_of_le (World.ownsRow.lt HO3.out k hk).2 gw4.size) (ng4 k hk))⟩,
      ⟨gw4.os.trans gr3.os, gw4.tape.trans gr3.tape, gw4.output.trans gr3.output, by have := gw4.size; have := gr3.size; simp; omega, fun q hq hne => by
        have h1 := gr3.block q hq hne
        have h2 := gw4.block q (Nat.lt_of_lt_of_le hq gr3.size) (by simp)
        have h3 := gs5.block q (Nat.lt_of_lt_of_le (Nat.lt_of_lt_of_le hq gr3.size) gw4.size) (fun e => by simp at e; omega)
        exact h3.trans (h2.trans h1)⟩⟩
  case done =>
    rintro D W hD ⟨⟨⟨⟨bC1, bR1⟩, bN1⟩, ow1⟩, gr1⟩ hK
    have cC := bC1.cell
    have cR := bR1.cell
    have lC := bC1.lt
    have lR := bR1.lt
    have HO := Lib.hid ow1
    have hDg : D ≠ g := by omega
    have hDlt : D < W.heap.size := (Array.getElem?_eq_some_iff.1 hK).1
    have HI : Hid (Num.insC zs r = if Num.rAt zs r zs.length = 1 then Num.cAt zs r zs.length else Num.rAt zs r zs.length :: Num.cAt zs r zs.length) := Lib.hid rfl
    have HCL := Lib.hid (Num.cAt_len zs r zs.length)
    clear ow1 h own bC bR bN gr
    generalize Num.rAt zs r zs.length = y at *
    generalize Num.cAt zs r zs.length = cs at *
    by_cases hy : y = 1
    · subst hy
      have H1 := Lib.hid (fun W => isOneC_any 1 W)
      gi_wp2_with (refine ⟨trivial, ?_⟩; gi_at_call 100; refine (callsIn_wide.2 (H1.out _)).mono ?_; rintro e w2 ⟨rfl, rfl⟩)
      refine ⟨by simp, .inl ⟨_, _, rfl, run_takeDeferred hK, ?_⟩⟩
      have E : Num.insC zs r = cs := by rw [HI.out, if_pos trivial]
      have el := HCL.out
      refine ⟨_, results_tmp rfl _ _ _, _, rfl, ?_, grown_put gr1 (by omega), .inl rfl⟩
      rw [E, el]
      exact ownsRow_putObj HO.out _ hK rfl
    · have H1 : Hid (∀ W, Calls Try.prog 100 #[.int .i64 y] W fun e w' => e = .returned (.bool false) ∧ W = w') := Lib.hid fun W => by
        have := isOneC_any y W
        rwa [show (y == 1) = false by simpa using hy] at this
      have HOa := Lib.hid (HO.out.alloc (.cells #[.int .i64 y] 80))
      have hgW : g < W.heap.size := by omega
      have HN := Lib.hid (ins_first g zs.length c W.heap.size 1 cs y _ HOa.out (by omega) (by omega) (Boxed.new W 80 (.int .i64 y)))
      gi_wp2_with (first
        | (refine ⟨trivial, ?_⟩; gi_at_call 100; refine (callsIn_wide.2 (H1.out _)).mono ?_; rintro e w2 ⟨rfl, rfl⟩)
        | (refine ⟨trivial, ?_⟩; gi_at_call 76; refine (callsIn_wide.2 HN.out).mono ?_; rintro e w3 ⟨g3, c3, rfl, own3, gr3, hg3, hl3⟩))
      have hK1 : (W.alloc (.cells #[.int .i64 y] 80)).heap[D]? = some (.deferred (some [])) := (Below.heap_alloc W _ D hDlt).trans hK
      have hK3 : w3.heap[D]? = some (.deferred (some [])) := (gr3.block D (by simp; omega) (fun e => by simp [Value.ownBlock] at e; omega)).trans hK1
      refine ⟨by simp, .inl ⟨_, _, rfl, run_takeDeferred hK3, ?_⟩⟩
      have E : Num.insC zs r = y :: cs := by rw [HI.out, if_neg hy]
      have el := HCL.out
      have gA : w.grownBy w3 (some g) := World.grownBy.trans_ (World.grownBy.trans_ gr1 (World.grownBy_alloc _ _ (some g))) gr3
      refine ⟨_, results_tmp rfl _ _ _, _, rfl, ?_, grown_put gA (by omega), ?_⟩
      · rw [E]
        have := ownsRow_putObj own3 (.deferred none) hK3 rfl
        simpa [el] using this
      · rcases hg3 with hg3 | hg3
        · left
          rw [hg3]
          rfl
        · right
          intro k hk
          simp [Value.ownBlock] at hk
          simp at hg3
          omega
set_option maxRecDepth 100000 in
set_option maxHeartbeats 4000000 in
theorem insert_nil (r : Int) (w : World) :
    Calls Try.prog 67 #[.slice none 0 0, .int .i64 r] w (InsC w none 0 0 (Num.insC [] r)) := by
  have hm3 : ∀ (a : Int) (W : World), (method 232 80 (.int .i64 a) "loop.example/g01076/impl.isOne").run Try.prog W = .ok (100, .int .i64 a) W := fun _ _ => by kernel_rfl
  refine (callsIn_wide (n := 9)).1 ?_
  refine callsIn_of_wp_marks Try.func67 rfl trivial ?_ rfl
  simp only [Try.ntmps67, List.size_toArray, List.length_cons, List.length_nil, Nat.reduceAdd, Nat.reduceSub, Array.replicate_succ, Array.replicate_zero, List.push_toArray, List.append_toArray, List.nil_append, List.cons_append]
  gi_wp2_with (refine ⟨trivial, ?_⟩; gi_at_call 75; refine (backward_in Fence.wide _ trivial rfl _ _ _ _).mono ?_; rintro e w' ⟨rfl, rfl⟩)
  have bC := ((Boxed.new w 77 (.slice none 0 0)).alloc (.cells #[.int .i64 r] 80)).alloc (.cells #[.slice none 0 0] 77)
  have bR := (Boxed.new (w.alloc (.cells #[.slice none 0 0] 77)) 80 (.int .i64 r)).alloc (.cells #[.slice none 0 0] 77)
  have bN := Boxed.new ((w.alloc (.cells #[.slice none 0 0] 77)).alloc (.cells #[.int .i64 r] 80)) 77 (.slice none 0 0)
  simp only [World.size_alloc] at bR bN
  have gr := World.grownBy.trans_ (World.grownBy.trans_ (World.grownBy_alloc w (.cells #[.slice none 0 0] 77) none) (World.grownBy_alloc _ (.cells #[.int .i64 r] 80) none)) (World.grownBy_alloc _ (.cells #[.slice none 0 0] 77) none)
  have hsz : (((w.alloc (.cells #[.slice none 0 0] 77)).alloc (.cells #[.int .i64 r] 80)).alloc (.cells #[.slice none 0 0] 77)).heap.size = w.heap.size + 3 := by simp
  obtain ⟨W0, hW0⟩ : ∃ W0, ((w.alloc (.cells #[.slice none 0 0] 77)).alloc (.cells #[.int .i64 r] 80)).alloc (.cells #[.slice none 0 0] 77) = W0 := ⟨_, rfl⟩
  rw [hW0] at bC bR bN gr hsz ⊢
  clear hW0
  refine wpIn_range_on rfl (by decide) (gf := 78) (lb := #[.pointer (some ⟨w.heap.size + 1 + 1, 0, none⟩)]) rfl trivial (enters_of Try.func78 (by kernel_rfl) rfl)
    (I := fun _ W => ((Boxed W w.heap.size 77 (.slice none 0 0) ∧ Boxed W (w.heap.size + 1) 80 (.int .i64 r)) ∧ Boxed W (w.heap.size + 1 + 1) 77 (.slice none 0 0)) ∧ w.grownBy W none)
    (backward_rounds Fence.wide _ trivial rfl (by decide) (w.heap.size + 1 + 1) 0 none [] (by decide) _ (fun t W hi => ⟨hi.1.2.cell, fun j hj => by simp at hj⟩)) (fun _ => rfl)
    (OwnFrom.and (OwnFrom.and (OwnFrom.and (Own.from (boxed_own _ _ _) _) (Own.from (boxed_own _ _ _) _)) (Own.from (boxed_own _ _ _) _)) (grown_own (by omega))) ⟨⟨⟨bC, bR⟩, bN⟩, gr⟩
    (fun t => { tmps := #[.slice none 0 0, .int .i64 r, .pointer (some ⟨w.heap.size, 0, none⟩), .pointer (some ⟨w.heap.size + 1, 0, none⟩), .slice none 0 0, undef, undef, .slice none 0 0, .func (.func 78) #[] #[.pointer (some ⟨w.heap.size + 1 + 1, 0, none⟩)], undef, undef, undef, undef, undef, undef, undef, undef, undef, undef, undef, undef, undef, undef, undef, undef, undef, undef, undef, undef, undef], defers := [] }) ?assign ?body ?done
  case assign =>
    intro l t W K ht
    exact absurd ht (Nat.not_lt_zero t)
  case body =>
    intro l t W ht
    exact absurd ht (Nat.not_lt_zero t)
  case done =>
    rintro D W hD ⟨⟨⟨bC1, bR1⟩, bN1⟩, gr1⟩ hK
    have cC := bC1.cell
    have cR := bR1.cell
    have hDlt : D < W.heap.size := (Array.getElem?_eq_some_iff.1 hK).1
    by_cases hy : r = 1
    · subst hy
      have H1 := Lib.hid (fun W => isOneC_any 1 W)
      gi_wp2_with (refine ⟨trivial, ?_⟩; gi_at_call 100; refine (callsIn_wide.2 (H1.out _)).mono ?_; rintro e w2 ⟨rfl, rfl⟩)
      refine ⟨by simp, .inl ⟨_, _, rfl, run_takeDeferred hK, ?_⟩⟩
      exact ⟨_, results_tmp rfl _ _ _, _, rfl, World.ownsRow_nil _ _ _ _, grown_put gr1 (by omega), .inl rfl⟩
    · have H1 : Hid (∀ W, Calls Try.prog 100 #[.int .i64 r] W fun e w' => e = .returned (.bool false) ∧ W = w') := Lib.hid fun W => by
        have := isOneC_any r W
        rwa [show (r == 1) = false by simpa using hy] at this
      have HN := Lib.hid (ins_endC none 0 0 W.heap.size 1 [] (.int .i64 r) (W.alloc (.cells #[.int .i64 r] 80)) (World.ownsRow_nil _ _ _ _) (by decide) (Boxed.new W 80 (.int .i64 r)).cell rfl)
      gi_wp2_with (first
        | (refine ⟨trivial, ?_⟩; gi_at_call 100; refine (callsIn_wide.2 (H1.out _)).mono ?_; rintro e w2 ⟨rfl, rfl⟩)
        | (refine ⟨trivial, ?_⟩; gi_at_call 76; refine (callsIn_wide.2 HN.out).mono ?_; rintro e w3 ⟨g3, c3, rfl, own3, gr3, hg3, hl3⟩))
      have hK1 : (W.alloc (.cells #[.int .i64 r] 80)).heap[D]? = some (.deferred (some [])) := (Below.heap_alloc W _ D hDlt).trans hK
      have hK3 : w3.heap[D]? = some (.deferred (some [])) := (gr3.block D (by simp; omega) (fun e => by simp [Value.ownBlock] at e)).trans hK1
      refine ⟨by simp, .inl ⟨_, _, rfl, run_takeDeferred hK3, ?_⟩⟩
      have E : Num.insC [] r = [r] := by show (if r = 1 then [] else [r]) = [r]; rw [if_neg hy]
      have gA : w.grownBy w3 none := World.grownBy.trans_ (World.grownBy.trans_ gr1 (World.grownBy_alloc _ _ none)) gr3
      refine ⟨_, results_tmp rfl _ _ _, _, rfl, ?_, grown_put gA (by omega), ?_⟩
      · rw [E]
        exact ownsRow_putObj own3 (.deferred none) hK3 rfl
      · right
        intro k hk
        rcases hg3 with hg3 | hg3
        · cases hg3
        · simp [Value.ownBlock] at hk
          simp at hg3
          have := gr1.size
          omega
/-- An order put into a chain of the call's own, or into none. -/
theorem insert_any (v : Value) (zs : List Int) (r : Int) (w : World) (h : w.ownsRow 0 80 1 v zs.length (zs.map (Value.int .i64))) (hn : zs.length ≤ 100) (hz : ∀ j, 0 ≤ zs.getD j 0 ∧ zs.getD j 0 ≤ 1000000) (r0 : 0 ≤ r) (r1 : r ≤ 1000000) :
    Calls Try.prog 67 #[v, .int .i64 r] w fun e w' => ∃ u, e = .returned u ∧ w'.ownsRow 0 80 1 u (Num.insC zs r).length ((Num.insC zs r).map (Value.int .i64)) ∧ w.grownBy w' v.ownBlock ∧ (u.ownBlock = v.ownBlock ∨ ∀ k, u.ownBlock = some k → w.heap.size ≤ k) := by
  have h0 := h
  rcases h.2 with ⟨rfl, hl⟩ | ⟨g, cap, cur, rfl, -⟩
  · obtain rfl : zs = [] := List.eq_nil_of_length_eq_zero hl
    exact insert_nil r w
  · exact insert_some g zs.length cap zs r w h0 hn hz r0 r1
end Go.Proofs.Ytpplojbcjgiabaa
