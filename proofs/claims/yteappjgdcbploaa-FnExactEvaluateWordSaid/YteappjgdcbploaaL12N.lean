/- Consistency of the program: trivialTower. -/
import Derived.Test.YteappjgdcbploaaL12M
import Derived.Test.YteappjgdcbploaaL10E
import Derived.Test.YteappjgdcbploaaL11C
import Derived.Test.YteappjgdcbploaaL12Na
namespace Go.Proofs.Yteappjgdcbploaa
open Go.RowKit Go.Shelf
set_option linter.unusedVariables false
set_option linter.unusedSimpArgs false
attribute [local go_sem] Oper.semAt_some

/-- The sizes that are known behind an index. -/
def Num.szP (O : List Int) (W : List (List Int)) (J : List (List (List Int))) (m : Nat) : List Int := (List.range (O.length + 1)).map fun i => if m ≤ i then Num.szL (Num.tlL O W J i) else 1
def FRel (O : List Int) (W : List (List Int)) (J : List (List (List Int))) (w W1 : World) (vR : Value) : Prop := ∃ ps, ps.map (·.2) = Num.rels O W J ∧ (∀ p ∈ ps, RelRd w p) ∧ OwnR W1 w.heap.size vR ps
theorem FRel.of {O : List Int} {W : List (List Int)} {J : List (List (List Int))} {w W1 : World} {vR : Value} {B : Nat} (h : RelsOut w W1 B vR (Num.rels O W J)) (hB : w.heap.size ≤ B) : FRel O W J w W1 vR := by
  obtain ⟨ps, h1, h2, h3⟩ := h
  exact ⟨ps, h2, h3, ownsRow_base h1 hB⟩
theorem RelsOut.form {w W1 : World} {v : Value} {B : Nat} {rs : List Num.Rel} (h : RelsOut w W1 B v rs) : ∃ A n c, v = .slice A n c := by
  obtain ⟨ps, h1, -, -⟩ := h
  obtain ⟨A, c, e, -⟩ := h1.form
  exact ⟨A, _, c, e⟩
theorem FRel.below {O : List Int} {W : List (List Int)} {J : List (List (List Int))} {w W1 W2 : World} {vR : Value} (h : FRel O W J w W1 vR) (hb : Below W1.heap.size W1 W2) : FRel O W J w W2 vR := by
  obtain ⟨ps, h1, h2, h3⟩ := h
  exact ⟨ps, h1, h2, ownsRow_keep h3 fun k e => hb.block k (World.ownsRow.lt h3 k e).2⟩
def FPrd (O : List Int) (w W1 : World) (gP : Nat) : Prop := ∃ vals, W1.ownsRow w.heap.size 22 1 (.slice (some ⟨gP, 0, none⟩) O.length O.length) O.length vals
theorem FPrd.below {O : List Int} {w W1 W2 : World} {gP : Nat} (h : FPrd O w W1 gP) (hb : Below W1.heap.size W1 W2) : FPrd O w W2 gP := by
  obtain ⟨vals, h1⟩ := h
  exact ⟨vals, ownsRow_keep h1 fun k e => hb.block k (World.ownsRow.lt h1 k e).2⟩
def FMap (w W1 : World) (bo : Nat) : Prop := w.heap.size ≤ bo ∧ W1.ownsMap Try.prog 3 mapR bo 0 (.map [])
theorem FMap.below {w W1 W2 : World} {bo : Nat} (h : FMap w W1 bo) (hb : Below W1.heap.size W1 W2) : FMap w W2 bo := ⟨h.1, own_keep h.2 (hb.block _ h.2.lt)⟩
theorem bStart {w X Y : World} (h : Below w.heap.size w X) (hb : Below X.heap.size X Y) : Below w.heap.size w Y := bstep h h.size hb
theorem Num.szP_len (O : List Int) (W : List (List Int)) (J : List (List (List Int))) (m : Nat) : (Num.szP O W J m).length = O.length + 1 := by simp [Num.szP]
theorem Num.szP_at {O : List Int} {W : List (List Int)} {J : List (List (List Int))} {m i : Nat} (hi : i ≤ O.length) (hm : m ≤ i) : (Num.szP O W J m).getD i 0 = Num.szL (Num.tlL O W J i) := by
  unfold Num.szP
  rw [List.getD_eq_getElem?_getD, List.getElem?_map, List.getElem?_range (by omega)]
  show (if m ≤ i then _ else _) = _
  rw [if_pos hm]
theorem Num.szP_start (O : List Int) (W : List (List Int)) (J : List (List (List Int))) : Num.szP O W J O.length = List.replicate (O.length + 1) 1 := by
  apply List.ext_getElem?
  intro i
  by_cases hi : i < O.length + 1
  · unfold Num.szP
    rw [List.getElem?_map, List.getElem?_range hi, List.getElem?_replicate, if_pos hi]
    show some (if O.length ≤ i then _ else _) = _
    by_cases h : O.length ≤ i
    · rw [if_pos h, Num.tlL_end h]; rfl
    · rw [if_neg h]
  · rw [List.getElem?_eq_none (by rw [Num.szP_len]; omega), List.getElem?_eq_none (by simp; omega)]
theorem Num.szP_zero (O : List Int) (W : List (List Int)) (J : List (List (List Int))) : Num.szP O W J 0 = Num.szsL O W J := by
  unfold Num.szP Num.szsL
  simp
theorem Num.szP_step {O : List Int} {W : List (List Int)} {J : List (List (List Int))} {m : Nat} (hm : m < O.length) : (Num.szP O W J (m + 1)).set m (Num.szL (Num.tlL O W J m)) = Num.szP O W J m := by
  apply List.ext_getElem?
  intro i
  by_cases hi : i < O.length + 1
  · by_cases e : i = m
    · subst e
      rw [List.getElem?_set_self (by rw [Num.szP_len]; omega)]
      unfold Num.szP
      rw [List.getElem?_map, List.getElem?_range hi]
      show _ = some (if i ≤ i then _ else _)
      rw [if_pos (Nat.le_refl _)]
    · rw [List.getElem?_set_ne (by omega)]
      unfold Num.szP
      rw [List.getElem?_map, List.getElem?_map, List.getElem?_range hi]
      show some (if m + 1 ≤ i then _ else _) = some (if m ≤ i then _ else _)
      by_cases h : m + 1 ≤ i
      · rw [if_pos h, if_pos (by omega)]
      · rw [if_neg h, if_neg (by omega)]
  · rw [List.getElem?_eq_none (by rw [List.length_set, Num.szP_len]; omega), List.getElem?_eq_none (by rw [Num.szP_len]; omega)]
theorem grown_ownT {w : World} {B : Nat} {row : Option Nat} (hB : w.heap.size ≤ B) : OwnFrom B (fun (_ : Nat) W => w.grownBy W row) :=
  fun _ X Y row' hs hg hr => ⟨hg.os.trans hs.os, hg.tape.trans hs.tape, hg.output.trans hs.output, Nat.le_trans hs.size hg.size, fun q hq hne => by
    refine (hg.block q (Nat.lt_of_lt_of_le hq hs.size) fun e => ?_).trans (hs.block q hq hne)
    have := (hr q e.symm).1
    omega⟩
theorem owns_ownT {base e n c g B : Nat} {f : Nat → List Value} (hg : g < B) : OwnFrom B (fun (t : Nat) W => W.ownsRow base e 1 (.slice (some ⟨g, 0, none⟩) n c) n (f t)) :=
  fun t X Y row hs hgr hr => ownsRow_keep hs fun k hk => hgr.block k ((World.ownsRow.lt hs k hk).2) fun e => by
    simp only [Value.ownBlock, Option.some.injEq] at hk
    have := (hr k e.symm).1
    omega
set_option maxRecDepth 100000 in
set_option maxHeartbeats 16000000 in
theorem trivial_any {A0 A1 A2 : Option Addr} {c0 c1 c2 : Nat} {O : List Int} {W : List (List Int)} {J : List (List (List Int))} (V : Num.Val O W J) (w : World) (hP : RdP A0 A1 A2 O W J w) :
    Calls Try.prog 142 #[prV A0 A1 A2 c0 c1 c2 O] w fun e w' => ∃ t gP ps, e = .returned (.pointer (some ⟨t.tb, 0, none⟩)) ∧ ps.map (·.2) = Num.rels O W J ∧ TwS O W J t gP ps w O.length 0 w' ∧ t.A0 = A0 ∧ t.A1 = A1 ∧ t.A2 = A2 := by
  have n6 := V.n6
  have HV := Lib.hid V
  obtain ⟨W0, hW0⟩ : ∃ X, (w.alloc (.cells #[.slice A0 O.length c0, .slice A1 O.length c1, .slice A2 O.length c2] 29)).alloc (.cells #[.int .i64 1] 2) = X := ⟨_, rfl⟩
  have b0 : Below w.heap.size w W0 := by rw [← hW0]; go_grown
  have BP : Blk W0 w.heap.size [.slice A0 O.length c0, .slice A1 O.length c1, .slice A2 O.length c2] 29 := by rw [← hW0]; exact (Blk.new w [.slice A0 O.length c0, .slice A1 O.length c1, .slice A2 O.length c2] 29).alloc _
  have hone : W0.cell? ⟨w.heap.size + 1, 0, none⟩ = some (.int .i64 1) := by
    rw [← hW0]
    simp
  obtain ⟨iN, hiN, hzN, hz1N, hz2N⟩ := info_parts infoII
  have HRep := Lib.hid (repeatI_any (w.heap.size + 1) (O.length + 1) 1 W0 (by omega) hone)
  have hiw : IntKind.i64.wrap ((O.length : Int) + 1) = ((O.length + 1 : Nat) : Int) := by rw [IntWalk.i64_in _ (by omega)]; omega
  obtain ⟨bl, x0, x1, x2⟩ := BP.c3
  refine (callsIn_wide (n := 9)).1 ?_
  refine callsIn_of_wp_marks Try.func142 rfl trivial ?_ rfl
  simp only [Try.ntmps142, List.size_toArray, List.length_cons, List.length_nil, Nat.reduceAdd, Nat.reduceSub, Array.replicate_succ, Array.replicate_zero, List.push_toArray, List.append_toArray, List.nil_append, List.cons_append]
  gi_wp2_with (first
    | (refine ⟨trivial, ?_⟩; gi_at_call 146; refine (callsIn_wide.2 HRep.out).mono ?_; rintro e w1 ⟨AR, cR, rfl, hRR, hRO, hb1⟩; have hRO1 := hRO (by omega); have BP1 := BP.below hb1; obtain ⟨bl1, z0, z1, z2⟩ := BP1.c3)
    | (refine ⟨trivial, ?_⟩; gi_at_call 155; refine (backwardW_in Fence.wide _ trivial rfl _ _ _ _).mono ?_; rintro e w2 ⟨rfl, rfl⟩))
  obtain ⟨gR, dR, e, hgR, hgR0⟩ := ownI_first hRO1 (by rw [List.length_replicate]; omega) (by rw [List.length_replicate])
  simp only [Value.slice.injEq, true_and] at e
  obtain ⟨rfl, rfl⟩ := e
  have hgRw : w.heap.size ≤ gR := by have := b0.size; omega
  have hgR2 : w.heap.size < gR := by have := BP.lt; omega
  have bX := (Boxed.new w1 22 (.slice (some ⟨gR, 0, none⟩) (O.length + 1) cR)).alloc (.cells #[.slice A0 O.length c0] 22)
  have bN := Boxed.new (w1.alloc (.cells #[.slice (some ⟨gR, 0, none⟩) (O.length + 1) cR] 22)) 22 (.slice A0 O.length c0)
  simp only [World.size_alloc] at bN
  have own0 : OwnI w1 w.heap.size (.slice (some ⟨gR, 0, none⟩) (O.length + 1) cR) (Num.szP O W J O.length) := by
    rw [Num.szP_start]; exact hRO1.base_ b0.size
  have own := (own0.alloc (.cells #[.slice (some ⟨gR, 0, none⟩) (O.length + 1) cR] 22)).alloc (.cells #[.slice A0 O.length c0] 22)
  have gr := World.grownBy.trans_ (World.grownBy_alloc w1 (.cells #[.slice (some ⟨gR, 0, none⟩) (O.length + 1) cR] 22) (some gR)) (World.grownBy_alloc _ (.cells #[.slice A0 O.length c0] 22) (some gR))
  have hsz : ((w1.alloc (.cells #[.slice (some ⟨gR, 0, none⟩) (O.length + 1) cR] 22)).alloc (.cells #[.slice A0 O.length c0] 22)).heap.size = w1.heap.size + 2 := by simp
  have L1 : Below w.heap.size w w1 := bstep b0 b0.size hb1
  have hz1 := L1.size
  have hrdA := hP.1.below' L1
  have HPP := Lib.hid hP
  have HP := Lib.hid hP
  have HBP := Lib.hid BP1
  have HL1 := Lib.hid L1
  obtain ⟨W1, hW1⟩ : ∃ W1, (w1.alloc (.cells #[.slice (some ⟨gR, 0, none⟩) (O.length + 1) cR] 22)).alloc (.cells #[.slice A0 O.length c0] 22) = W1 := ⟨_, rfl⟩
  rw [hW1] at bX bN own gr hsz ⊢
  have hpl : w.heap.size < w1.heap.size := by have := HBP.out.lt; omega
  clear hW1 hRR hRO hRO1 own0 BP BP1 hone HRep hb1 x0 x1 x2 z0 z1 z2 hP L1 hW0
  refine wpIn_range_on rfl (by decide) (gf := 163) (lb := #[.pointer (some ⟨w1.heap.size + 1, 0, none⟩)]) rfl trivial (enters_of Try.func163 (by kernel_rfl) rfl)
    (I := fun t X => ((Boxed X w1.heap.size 22 (.slice (some ⟨gR, 0, none⟩) (O.length + 1) cR) ∧ Boxed X (w1.heap.size + 1) 22 (.slice A0 O.length c0)) ∧ X.ownsRow w.heap.size 2 1 (.slice (some ⟨gR, 0, none⟩) (O.length + 1) cR) (O.length + 1) ((Num.szP O W J (O.length - t)).map (Value.int .i64))) ∧ w1.grownBy X (some gR))
    (backwardW_rounds Fence.wide _ trivial rfl (by decide) (w1.heap.size + 1) c0 A0 O (by omega) _ (fun t X hi => ⟨hi.1.1.2.cell, fun j hj => by
      obtain ⟨g, o, rfl, hg, hc⟩ := HP.out.1 j (by omega)
      have hg1 : w1.cell? ⟨g, o + j, none⟩ = some (.int .i64 (O.getD j 0)) := by rw [HL1.out.cell hg]; exact hc
      exact ⟨g, o, rfl, hi.2.cell hg1 (by simp; omega)⟩⟩)) (fun _ => rfl)
    (OwnFrom.and (OwnFrom.and (OwnFrom.and (Own.from (boxed_own _ _ _) _) (Own.from (boxed_own _ _ _) _)) (owns_ownT (by omega))) (grown_ownT (by omega)))
    ⟨⟨⟨bX, bN⟩, by have h := own; unfold OwnI at h; rw [Num.szP_len] at h; exact h⟩, gr⟩
    (fun t => { tmps := #[prV A0 A1 A2 c0 c1 c2 O, .pointer (some ⟨w.heap.size, 0, none⟩), .pointer none, .int .i64 (O.length : Int), .pointer (some ⟨w1.heap.size, 0, none⟩), .int .i64 ((O.length : Int) - 1 - (t : Int)), .int .i64 (O.getD (O.length - 1 - t) 0), .pointer (some ⟨w.heap.size, 0, none⟩), .slice A0 O.length c0, .int .i64 (O.length : Int), .slice (some ⟨w.heap.size + 1, 0, none⟩) 1 1, .int .i64 (O.length : Int), .int .i64 ((O.length : Int) + 1), .slice (some ⟨gR, 0, none⟩) (O.length + 1) cR, .pointer (some ⟨w.heap.size, 0, none⟩), .slice A0 O.length c0, .func (.func 163) #[] #[.pointer (some ⟨w1.heap.size + 1, 0, none⟩)], .int .i64 ((O.length : Int) - 1 - (t : Int)), .int .i64 (O.getD (O.length - 1 - t) 0), undef, undef, undef, undef, undef, undef, undef, undef, undef, undef, undef, undef, undef, undef, undef, undef, undef, undef, undef, undef], defers := [] }) ?assign ?body ?done
  case assign =>
    intro l t X K _ hK
    gi_wp2
    exact hK
  case body =>
    rintro l t X ht ⟨⟨⟨bX1, bN1⟩, ow1⟩, gr1⟩
    obtain ⟨m, hm⟩ : ∃ m, m = O.length - 1 - t := ⟨_, rfl⟩
    have em : (O.length : Int) - 1 - (t : Int) = (m : Int) := by omega
    have hmn : m < O.length := by omega
    have ent : O.length - t = m + 1 := by omega
    have ent1 : O.length - (t + 1) = m := by omega
    rw [em, ← hm]
    rw [ent] at ow1
    have HENT := Lib.hid ent1
    have cX := bX1.cell
    have hsl := Num.szP_len O W J (m + 1)
    have hs1 := szL_bd HV.out (m + 1)
    have hs0 := szL_bd HV.out m
    have hse : Num.szL (Num.tlL O W J m) = Num.szL (Num.tlL O W J (m + 1)) * O.getD m 0 := by rw [Num.tlL_step hmn, Int.mul_comm]; rfl
    have hstep := Num.szP_step (O := O) (W := W) (J := J) hmn
    have ownI1 : OwnI X w.heap.size (.slice (some ⟨gR, 0, none⟩) (O.length + 1) cR) (Num.szP O W J (m + 1)) := by unfold OwnI; rw [hsl]; exact ow1
    obtain ⟨c1', -⟩ := ownI1.at_ (m + 1) (by rw [hsl]; omega)
    rw [Num.szP_at (by omega) (by omega)] at c1'
    obtain ⟨c0', f0'⟩ := ownI1.at_ m (by rw [hsl]; omega)
    have hset := ownI1.set m (Num.szL (Num.tlL O W J m))
    rw [hstep] at hset
    rw [hse] at hset hs0
    generalize O.getD m 0 = y at *
    generalize Num.szL (Num.tlL O W J (m + 1)) = s1 at *
    generalize (Num.szP O W J (m + 1)).getD m 0 = old at *
    have HSET := Lib.hid hset
    have HOW := Lib.hid ow1
    have m0 : (0 : Int) ≤ (m : Int) := by omega
    have m1 : (m : Int) < ((O.length + 1 : Nat) : Int) := by omega
    have m2 : (0 : Int) ≤ ((m + 1 : Nat) : Int) := by omega
    have m3 : ((m + 1 : Nat) : Int) < ((O.length + 1 : Nat) : Int) := by omega
    have m5 : m ≤ O.length := by omega
    have m6 : (m : Int) ≤ (O.length : Int) := by omega
    have m7 : (m : Int) < (O.length : Int) + 1 := by omega
    have m4 : (((m + 1 : Nat) : Int)).toNat = m + 1 := by omega
    have hw1 : IntKind.i64.wrap ((m : Int) + 1) = ((m + 1 : Nat) : Int) := by rw [IntWalk.i64_in _ (by omega)]; omega
    have hw2 : IntKind.i64.wrap (s1 * y) = s1 * y := IntWalk.i64_in _ (by omega)
    have hmx : Try.prog.follows .mixedOrders = true := by kernel_rfl
    clear em ent ent1 hm ht own bX bN gr hset ow1 hstep hse hsl ownI1
    gi_wp2
    refine wpIn_cut (fun a' w' => w' = X.drew.setCell ⟨gR, m, none⟩ (.int .i64 (s1 * y))) (wpIn_region_any hmx (wpAnyIn_round rfl ?_ ?_)) ?_
    · intro q o hi cc
      match q, hi with
      | 0, hi | 1, hi | 2, hi | 3, hi | 4, hi | 5, hi | 6, hi | 7, hi | 8, hi | 9, hi | 10, hi => simp at hi; subst hi; simp
      | q + 11, hi => simp at hi
    · change wpAnyIn _ _ _ _ _ _ _ _ _ (World.drew _)
      refine wpAnyIn_take (i := 1) (v := ?_) rfl rfl (by kernel_rfl) (by kernel_rfl) (by kernel_rfl) (fun _ _ _ h => h) ⟨Or.inl ⟨by rfl, ?_⟩, fun _ => rfl⟩ ?_
      rotate_left
      · intro W9; go_simp
        with_reducible rfl
      refine wpAnyIn_take (i := 3) (v := ?_) rfl rfl (by kernel_rfl) (by kernel_rfl) (by kernel_rfl) (fun _ _ _ h => h) ⟨Or.inl ⟨by rfl, ?_⟩, fun _ => rfl⟩ ?_
      rotate_left
      · intro W9; go_simp
        with_reducible rfl
      refine wpAnyIn_take (i := 4) (v := ?_) rfl rfl (by kernel_rfl) (by kernel_rfl) (by kernel_rfl) (fun _ _ _ h => h) ⟨Or.inl ⟨by rfl, ?_⟩, fun _ => rfl⟩ ?_
      rotate_left
      · intro W9; go_simp
        with_reducible rfl
      refine wpAnyIn_take (i := 7) (v := ?_) rfl rfl (by kernel_rfl) (by kernel_rfl) (by kernel_rfl) (fun _ _ _ h => h) ⟨Or.inl ⟨by rfl, ?_⟩, fun _ => rfl⟩ ?_
      rotate_left
      · intro W9; go_simp
        with_reducible rfl
      refine wpAnyIn_ready (rs := [0, 2]) (by kernel_rfl) (by simp) ?_
      refine (AllReadyIn.cons rfl (fun K hK => ?_) (AllReadyIn.cons rfl (fun K hK => ?_) AllReadyIn.nil))
      · go_simp
        refine hK _ _ ?_
        clear hK K
        refine wpAnyIn_ready (rs := [2]) (by kernel_rfl) (by simp) ?_
        refine (AllReadyIn.cons rfl (fun K hK => ?_) AllReadyIn.nil)
        · go_simp
          refine hK _ _ ?_
          clear hK K
          refine wpAnyIn_ready (rs := [5]) (by kernel_rfl) (by simp) ?_
          refine (AllReadyIn.cons rfl (fun K hK => ?_) AllReadyIn.nil)
          · go_simp
            refine hK _ _ ?_
            clear hK K
            refine wpAnyIn_ready (rs := [6]) (by kernel_rfl) (by simp) ?_
            refine (AllReadyIn.cons rfl (fun K hK => ?_) AllReadyIn.nil)
            · go_simp
              refine hK _ _ ?_
              clear hK K
              refine wpAnyIn_ready (rs := [8]) (by kernel_rfl) (by simp) ?_
              refine (AllReadyIn.cons rfl (fun K hK => ?_) AllReadyIn.nil)
              · go_simp
                refine hK _ _ ?_
                clear hK K
                refine wpAnyIn_ready (rs := [9]) (by kernel_rfl) (by simp) ?_
                refine (AllReadyIn.cons rfl (fun K hK => ?_) AllReadyIn.nil)
                · go_simp
                  refine hK _ _ ?_
                  clear hK K
                  refine wpAnyIn_ready (rs := [10]) (by kernel_rfl) (by simp) ?_
                  refine (AllReadyIn.cons rfl (fun K hK => ?_) AllReadyIn.nil)
                  · go_simp
                    refine hK _ _ ?_
                    clear hK K
                    refine wpAnyIn_done (by kernel_rfl) ?_ _
                    exact rfl
      · go_simp
        refine hK _ _ ?_
        clear hK K
        refine wpAnyIn_ready (rs := [0, 5]) (by kernel_rfl) (by simp) ?_
        refine (AllReadyIn.cons rfl (fun K hK => ?_) (AllReadyIn.cons rfl (fun K hK => ?_) AllReadyIn.nil))
        · go_simp
          refine hK _ _ ?_
          clear hK K
          refine wpAnyIn_ready (rs := [5]) (by kernel_rfl) (by simp) ?_
          refine (AllReadyIn.cons rfl (fun K hK => ?_) AllReadyIn.nil)
          · go_simp
            refine hK _ _ ?_
            clear hK K
            refine wpAnyIn_ready (rs := [6]) (by kernel_rfl) (by simp) ?_
            refine (AllReadyIn.cons rfl (fun K hK => ?_) AllReadyIn.nil)
            · go_simp
              refine hK _ _ ?_
              clear hK K
              refine wpAnyIn_ready (rs := [8]) (by kernel_rfl) (by simp) ?_
              refine (AllReadyIn.cons rfl (fun K hK => ?_) AllReadyIn.nil)
              · go_simp
                refine hK _ _ ?_
                clear hK K
                refine wpAnyIn_ready (rs := [9]) (by kernel_rfl) (by simp) ?_
                refine (AllReadyIn.cons rfl (fun K hK => ?_) AllReadyIn.nil)
                · go_simp
                  refine hK _ _ ?_
                  clear hK K
                  refine wpAnyIn_ready (rs := [10]) (by kernel_rfl) (by simp) ?_
                  refine (AllReadyIn.cons rfl (fun K hK => ?_) AllReadyIn.nil)
                  · go_simp
                    refine hK _ _ ?_
                    clear hK K
                    refine wpAnyIn_done (by kernel_rfl) ?_ _
                    exact rfl
        · go_simp
          refine hK _ _ ?_
          clear hK K
          refine wpAnyIn_ready (rs := [0, 6]) (by kernel_rfl) (by simp) ?_
          refine (AllReadyIn.cons rfl (fun K hK => ?_) (AllReadyIn.cons rfl (fun K hK => ?_) AllReadyIn.nil))
          · go_simp
            refine hK _ _ ?_
            clear hK K
            refine wpAnyIn_ready (rs := [6]) (by kernel_rfl) (by simp) ?_
            refine (AllReadyIn.cons rfl (fun K hK => ?_) AllReadyIn.nil)
            · go_simp
              refine hK _ _ ?_
              clear hK K
              refine wpAnyIn_ready (rs := [8]) (by kernel_rfl) (by simp) ?_
              refine (AllReadyIn.cons rfl (fun K hK => ?_) AllReadyIn.nil)
              · go_simp
                refine hK _ _ ?_
                clear hK K
                refine wpAnyIn_ready (rs := [9]) (by kernel_rfl) (by simp) ?_
                refine (AllReadyIn.cons rfl (fun K hK => ?_) AllReadyIn.nil)
                · go_simp
                  refine hK _ _ ?_
                  clear hK K
                  refine wpAnyIn_ready (rs := [10]) (by kernel_rfl) (by simp) ?_
                  refine (AllReadyIn.cons rfl (fun K hK => ?_) AllReadyIn.nil)
                  · go_simp
                    refine hK _ _ ?_
                    clear hK K
                    refine wpAnyIn_done (by kernel_rfl) ?_ _
                    exact rfl
          · go_simp
            refine hK _ _ ?_
            clear hK K
            refine wpAnyIn_ready (rs := [0, 8]) (by kernel_rfl) (by simp) ?_
            refine (AllReadyIn.cons rfl (fun K hK => ?_) (AllReadyIn.cons rfl (fun K hK => ?_) AllReadyIn.nil))
            · go_simp
              refine hK _ _ ?_
              clear hK K
              refine wpAnyIn_ready (rs := [8]) (by kernel_rfl) (by simp) ?_
              refine (AllReadyIn.cons rfl (fun K hK => ?_) AllReadyIn.nil)
              · go_simp
                refine hK _ _ ?_
                clear hK K
                refine wpAnyIn_ready (rs := [9]) (by kernel_rfl) (by simp) ?_
                refine (AllReadyIn.cons rfl (fun K hK => ?_) AllReadyIn.nil)
                · go_simp
                  refine hK _ _ ?_
                  clear hK K
                  refine wpAnyIn_ready (rs := [10]) (by kernel_rfl) (by simp) ?_
                  refine (AllReadyIn.cons rfl (fun K hK => ?_) AllReadyIn.nil)
                  · go_simp
                    refine hK _ _ ?_
                    clear hK K
                    refine wpAnyIn_done (by kernel_rfl) ?_ _
                    exact rfl
            · go_simp
              refine hK _ _ ?_
              clear hK K
              refine wpAnyIn_ready (rs := [0]) (by kernel_rfl) (by simp) ?_
              refine (AllReadyIn.cons rfl (fun K hK => ?_) AllReadyIn.nil)
              · go_simp
                refine hK _ _ ?_
                clear hK K
                refine wpAnyIn_ready (rs := [9]) (by kernel_rfl) (by simp) ?_
                refine (AllReadyIn.cons rfl (fun K hK => ?_) AllReadyIn.nil)
                · go_simp
                  refine hK _ _ ?_
                  clear hK K
                  refine wpAnyIn_ready (rs := [10]) (by kernel_rfl) (by simp) ?_
                  refine (AllReadyIn.cons rfl (fun K hK => ?_) AllReadyIn.nil)
                  · go_simp
                    refine hK _ _ ?_
                    clear hK K
                    refine wpAnyIn_done (by kernel_rfl) ?_ _
                    exact rfl
    · rintro a' w' rfl
      have kk : KeepsFrom W1.heap.size X (X.drew.setCell ⟨gR, m, none⟩ (.int .i64 (s1 * y))) := ⟨((KeepsOthers.setCell X.drew ⟨gR, m, none⟩ (.int .i64 (s1 * y))).from W1.heap.size).size, ((KeepsOthers.setCell X.drew ⟨gR, m, none⟩ (.int .i64 (s1 * y))).from W1.heap.size).same⟩
      have gs : X.grownBy (X.drew.setCell ⟨gR, m, none⟩ (.int .i64 (s1 * y))) (some gR) := ⟨rfl, rfl, rfl, by simp, fun k hk hne => Below.heap_setCell _ _ _ _ (fun e => hne (by rw [e]))⟩
      refine ⟨kk, ⟨⟨⟨bX1.kept gs (fun e => by simp at e; omega), bN1.kept gs (fun e => by simp at e; omega)⟩, ?_⟩, World.grownBy.trans_ gr1 gs⟩⟩
      rw [HENT.out]
      have h := HSET.out
      unfold OwnI at h
      rw [Num.szP_len] at h
      exact h
  case done =>
    rintro D X hD ⟨⟨⟨bX1, bN1⟩, ow1⟩, gr1⟩ hK
    rw [Nat.sub_self] at ow1
    have cX := bX1.cell
    have BX : Blk X w.heap.size [.slice A0 O.length c0, .slice A1 O.length c1, .slice A2 O.length c2] 29 := by
      have h := HBP.out
      unfold Blk at h ⊢
      rw [gr1.block _ hpl (by simp; omega)]
      exact h
    obtain ⟨bl, x0, x1, x2⟩ := BX.c3
    have q0 : X.drew.cell? ⟨w.heap.size, 0, none⟩ = _ := x0
    have q1 : X.drew.cell? ⟨w.heap.size, 1, none⟩ = _ := x1
    have q2 : X.drew.cell? ⟨w.heap.size, 2, none⟩ = _ := x2
    have qS : X.drew.cell? ⟨w1.heap.size, 0, none⟩ = _ := cX
    have hq : w.heap.size < X.drew.heap.size := bl
    have hqS : w1.heap.size < X.drew.heap.size := World.block_lt_of_cell? _ _ cX
    have SC : Below X.drew.heap.size X.drew X.drew := Below.refl _ _
    have HZ : Hid (Below w.heap.size w X.drew) := Lib.hid ((HL1.out.grown gr1 hz1 (fun k hk => by simp at hk; omega)).drew)
    have hshape := Num.shapeB_ok HV.out.lw HV.out.lj (fun i hi => HV.out.lr i (by have := HV.out.lj; omega))
    have HREL : Hid (∀ WC, Below w.heap.size w WC → Calls Try.prog 127 #[.agg #[.slice A0 O.length c0, .slice A1 O.length c1, .slice A2 O.length c2]] WC fun e w' => ∃ v, e = .returned v ∧ RelsOut w w' WC.heap.size v (Num.rels O W J) ∧ Below WC.heap.size WC w') := Lib.hid fun WC hb => by
      have h := relationsOf_at A0 A1 A2 c0 c1 c2 O W J w WC hb HPP.out.1 HPP.out.2.1 HPP.out.2.2 n6 hshape
      rw [HV.out.lw, HV.out.lj] at h
      exact h
    have HOW := Lib.hid ow1
    have HDD := Lib.hid hK
    clear BX bX1 bN1 ow1 gr1 cX x0 x1 x2 bl hK
    gi_wp2
    refine wpIn_cut (fun a' w' => ∃ vR gP bo tb v37 WE, Below X.drew.heap.size X.drew WE ∧ FRel O W J w WE vR ∧ FPrd O w WE gP ∧ FMap w WE bo ∧ tb = WE.heap.size ∧ w' = WE.alloc (.cells #[.slice A0 O.length c0, .slice A1 O.length c1, .slice A2 O.length c2, vR, .slice (some ⟨gR, 0, none⟩) (O.length + 1) cR, .slice (some ⟨gP, 0, none⟩) O.length O.length, .int .i64 (O.length : Int), .map (some bo)] 121) ∧ a' = { tmps := #[prV A0 A1 A2 c0 c1 c2 O, .pointer (some ⟨w.heap.size, 0, none⟩), .pointer (some ⟨tb, 0, none⟩), .int .i64 (O.length : Int), .pointer (some ⟨w1.heap.size, 0, none⟩), undef, undef, .pointer (some ⟨w.heap.size, 0, none⟩), .slice A0 O.length c0, .int .i64 (O.length : Int), .slice (some ⟨w.heap.size + 1, 0, none⟩) 1 1, .int .i64 (O.length : Int), .int .i64 ((O.length : Int) + 1), .slice (some ⟨gR, 0, none⟩) (O.length + 1) cR, .pointer (some ⟨w.heap.size, 0, none⟩), .slice A0 O.length c0, .func (.func 163) #[] #[.pointer (some ⟨w1.heap.size + 1, 0, none⟩)], undef, undef, undef, undef, undef, undef, undef, undef, undef, undef, undef, undef, .agg #[.slice A0 O.length c0, .slice A1 O.length c1, .slice A2 O.length c2], .agg #[.slice A0 O.length c0, .slice A1 O.length c1, .slice A2 O.length c2], vR, .slice (some ⟨gR, 0, none⟩) (O.length + 1) cR, .int .i64 (O.length : Int), .slice (some ⟨gP, 0, none⟩) O.length O.length, .int .i64 (O.length : Int), .map (some bo), v37, .pointer (some ⟨tb, 0, none⟩)], defers := [{ target := .collected D, args := #[] }] }) (wpIn_wide.2 ?_) ?_
    · refine wp_region_held_drew (S := fun W' => Below X.drew.heap.size X.drew W') (by kernel_rfl) SC (fun _ => ?_)
      generalize X.drew = XD at *
      refine wpAnyH_take (i := 0) (v := ?_) rfl (by kernel_rfl) (by kernel_rfl) (by kernel_rfl) (fun _ _ _ h => h) (Or.inl ⟨by rfl, ?_⟩) SC ?_
      rotate_left
      · intro W9 hS9
        have y0 : W9.cell? ⟨w.heap.size, 0, none⟩ = _ := (hS9.cell hq).trans q0
        have y1 : W9.cell? ⟨w.heap.size, 1, none⟩ = _ := (hS9.cell hq).trans q1
        have y2 : W9.cell? ⟨w.heap.size, 2, none⟩ = _ := (hS9.cell hq).trans q2
        have y3 : W9.cell? ⟨w1.heap.size, 0, none⟩ = _ := (hS9.cell hqS).trans qS
        go_simp
        with_reducible rfl
      refine wpAnyH_take (i := 1) (v := ?_) rfl (by kernel_rfl) (by kernel_rfl) (by kernel_rfl) (fun _ _ _ h => h) (Or.inl ⟨by rfl, ?_⟩) SC ?_
      rotate_left
      · intro W9 hS9
        have y0 : W9.cell? ⟨w.heap.size, 0, none⟩ = _ := (hS9.cell hq).trans q0
        have y1 : W9.cell? ⟨w.heap.size, 1, none⟩ = _ := (hS9.cell hq).trans q1
        have y2 : W9.cell? ⟨w.heap.size, 2, none⟩ = _ := (hS9.cell hq).trans q2
        have y3 : W9.cell? ⟨w1.heap.size, 0, none⟩ = _ := (hS9.cell hqS).trans qS
        go_simp
        with_reducible rfl
      refine wpAnyH_take (i := 3) (v := ?_) rfl (by kernel_rfl) (by kernel_rfl) (by kernel_rfl) (fun _ _ _ h => h) (Or.inl ⟨by rfl, ?_⟩) SC ?_
      rotate_left
      · intro W9 hS9
        have y0 : W9.cell? ⟨w.heap.size, 0, none⟩ = _ := (hS9.cell hq).trans q0
        have y1 : W9.cell? ⟨w.heap.size, 1, none⟩ = _ := (hS9.cell hq).trans q1
        have y2 : W9.cell? ⟨w.heap.size, 2, none⟩ = _ := (hS9.cell hq).trans q2
        have y3 : W9.cell? ⟨w1.heap.size, 0, none⟩ = _ := (hS9.cell hqS).trans qS
        go_simp
        with_reducible rfl
      refine wpAnyH_take (i := 4) (v := ?_) rfl (by kernel_rfl) (by kernel_rfl) (by kernel_rfl) (fun _ _ _ h => h) (Or.inl ⟨by rfl, ?_⟩) SC ?_
      rotate_left
      · intro W9 hS9
        have y0 : W9.cell? ⟨w.heap.size, 0, none⟩ = _ := (hS9.cell hq).trans q0
        have y1 : W9.cell? ⟨w.heap.size, 1, none⟩ = _ := (hS9.cell hq).trans q1
        have y2 : W9.cell? ⟨w.heap.size, 2, none⟩ = _ := (hS9.cell hq).trans q2
        have y3 : W9.cell? ⟨w1.heap.size, 0, none⟩ = _ := (hS9.cell hqS).trans qS
        go_simp
        with_reducible rfl
      refine wpAnyH_take (i := 6) (v := ?_) rfl (by kernel_rfl) (by kernel_rfl) (by kernel_rfl) (fun _ _ _ h => h) (Or.inl ⟨by rfl, ?_⟩) SC ?_
      rotate_left
      · intro W9 hS9
        have y0 : W9.cell? ⟨w.heap.size, 0, none⟩ = _ := (hS9.cell hq).trans q0
        have y1 : W9.cell? ⟨w.heap.size, 1, none⟩ = _ := (hS9.cell hq).trans q1
        have y2 : W9.cell? ⟨w.heap.size, 2, none⟩ = _ := (hS9.cell hq).trans q2
        have y3 : W9.cell? ⟨w1.heap.size, 0, none⟩ = _ := (hS9.cell hqS).trans qS
        go_simp
        with_reducible rfl
      refine wpAnyH_ready (rs := [2, 5, 7]) (by kernel_rfl) (by simp) ?_
      refine (AllReadyH.cons rfl (fun K hK => ?_) (AllReadyH.cons rfl (fun K hK => ?_) (AllReadyH.cons rfl (fun K hK => ?_) AllReadyH.nil)))
      · go_simp
        refine (HREL.out XD (bStart HZ.out SC)).mono ?_
        rintro e W2 ⟨vR, rfl, hro, hb⟩
        obtain ⟨AR, nR, cRR, rfl⟩ := hro.form
        have FR : FRel O W J w W2 (.slice AR nR cRR) := FRel.of hro (by have := (bStart HZ.out SC).size; omega)
        have SC : Below XD.heap.size XD W2 := bstep SC SC.size hb
        refine hK.out _ _ SC (fun _ => ?_)
        clear hK K hb
        refine wpAnyH_ready (rs := [5, 7]) (by kernel_rfl) (by simp) ?_
        refine (AllReadyH.cons rfl (fun K hK => ?_) (AllReadyH.cons rfl (fun K hK => ?_) AllReadyH.nil))
        · obtain ⟨W5, hrun5, own5, gr5⟩ := run_make_full (P := Try.prog) W2 w.heap.size 23 22 iN (.slice none 0 0) 1 Try.underlying23 hiN hzN hz1N .i64 .i64 O.length (by rw [hz2N]; omega) (by unfold maxLen; omega) (bStart HZ.out SC).size
          have hb : Below W2.heap.size W2 W5 := (Below.refl _ _).grown gr5 (Nat.le_refl _) (fun k hk => by simp at hk)
          generalize hgP : W2.heap.size = gP at own5 hrun5
          go_simp
          have FP : FPrd O w W5 gP := ⟨_, own5⟩
          have SC : Below XD.heap.size XD W5 := bstep SC SC.size hb
          have FR := FR.below hb
          refine hK.out _ _ SC (fun _ => ?_)
          clear hK K hb
          refine wpAnyH_ready (rs := [7]) (by kernel_rfl) (by simp) ?_
          refine (AllReadyH.cons rfl (fun K hK => ?_) AllReadyH.nil)
          · have hb : Below W5.heap.size W5 (W5.alloc (.map #[] 0)) := by go_grown
            have FM : FMap w (W5.alloc (.map #[] 0)) W5.heap.size := ⟨(bStart HZ.out SC).size, World.ownsMap_made _ _ _ _⟩
            have SC : Below XD.heap.size XD (W5.alloc (.map #[] 0)) := bstep SC SC.size hb
            have hmm := @run_makeMap Try.prog
            go_simp
            have FR := FR.below hb
            have FP := FP.below hb
            generalize hbo : W5.heap.size = bo at FM ⊢
            generalize W5.alloc (.map #[] 0) = W7 at *
            refine hK.out _ _ SC (fun _ => ?_)
            clear hK K hb
            refine wpAnyH_ready (rs := [8]) (by kernel_rfl) (by simp) ?_
            refine (AllReadyH.cons rfl (fun K hK => ?_) AllReadyH.nil)
            · go_simp
              refine hK.out _ _ SC (fun _ => ?_)
              clear hK K
              refine wpAnyH_ready (rs := [9]) (by kernel_rfl) (by simp) ?_
              refine (AllReadyH.cons rfl (fun K hK => ?_) AllReadyH.nil)
              · go_simp
                have hb : Below W7.heap.size W7 (W7.alloc (.cells #[.slice A0 O.length c0, .slice A1 O.length c1, .slice A2 O.length c2, .slice AR nR cRR, .slice (some ⟨gR, 0, none⟩) (O.length + 1) cR, .slice (some ⟨gP, 0, none⟩) O.length O.length, .int .i64 (O.length : Int), .map (some bo)] 121)) := by go_grown
                refine hK.out _ _ (bstep SC SC.size hb) (fun _ => ?_)
                clear hK K
                refine wpAnyH_ready (rs := [10]) (by kernel_rfl) (by simp) ?_
                refine (AllReadyH.cons rfl (fun K hK => ?_) AllReadyH.nil)
                · go_simp
                  refine hK.out _ _ (bstep SC SC.size hb) (fun _ => ?_)
                  clear hK K
                  refine wpAnyH_done (by kernel_rfl) ?_ _
                  refine ⟨.slice AR nR cRR, gP, bo, W7.heap.size, .agg #[.slice A0 O.length c0, .slice A1 O.length c1, .slice A2 O.length c2, .slice AR nR cRR, .slice (some ⟨gR, 0, none⟩) (O.length + 1) cR, .slice (some ⟨gP, 0, none⟩) O.length O.length, .int .i64 (O.length : Int), .map (some bo)], W7, SC, FR, FP, FM, rfl, ?_, ?_⟩
                  · with_reducible rfl
                  · with_reducible rfl
        · have hb : Below W2.heap.size W2 (W2.alloc (.map #[] 0)) := by go_grown
          have FM : FMap w (W2.alloc (.map #[] 0)) W2.heap.size := ⟨(bStart HZ.out SC).size, World.ownsMap_made _ _ _ _⟩
          have SC : Below XD.heap.size XD (W2.alloc (.map #[] 0)) := bstep SC SC.size hb
          have hmm := @run_makeMap Try.prog
          go_simp
          have FR := FR.below hb
          generalize hbo : W2.heap.size = bo at FM ⊢
          generalize W2.alloc (.map #[] 0) = W7 at *
          refine hK.out _ _ SC (fun _ => ?_)
          clear hK K hb
          refine wpAnyH_ready (rs := [5]) (by kernel_rfl) (by simp) ?_
          refine (AllReadyH.cons rfl (fun K hK => ?_) AllReadyH.nil)
          · obtain ⟨W5, hrun5, own5, gr5⟩ := run_make_full (P := Try.prog) W7 w.heap.size 23 22 iN (.slice none 0 0) 1 Try.underlying23 hiN hzN hz1N .i64 .i64 O.length (by rw [hz2N]; omega) (by unfold maxLen; omega) (bStart HZ.out SC).size
            have hb : Below W7.heap.size W7 W5 := (Below.refl _ _).grown gr5 (Nat.le_refl _) (fun k hk => by simp at hk)
            generalize hgP : W7.heap.size = gP at own5 hrun5
            go_simp
            have FP : FPrd O w W5 gP := ⟨_, own5⟩
            have SC : Below XD.heap.size XD W5 := bstep SC SC.size hb
            have FR := FR.below hb
            have FM := FM.below hb
            refine hK.out _ _ SC (fun _ => ?_)
            clear hK K hb
            refine wpAnyH_ready (rs := [8]) (by kernel_rfl) (by simp) ?_
            refine (AllReadyH.cons rfl (fun K hK => ?_) AllReadyH.nil)
            · go_simp
              refine hK.out _ _ SC (fun _ => ?_)
              clear hK K
              refine wpAnyH_ready (rs := [9]) (by kernel_rfl) (by simp) ?_
              refine (AllReadyH.cons rfl (fun K hK => ?_) AllReadyH.nil)
              · go_simp
                have hb : Below W5.heap.size W5 (W5.alloc (.cells #[.slice A0 O.length c0, .slice A1 O.length c1, .slice A2 O.length c2, .slice AR nR cRR, .slice (some ⟨gR, 0, none⟩) (O.length + 1) cR, .slice (some ⟨gP, 0, none⟩) O.length O.length, .int .i64 (O.length : Int), .map (some bo)] 121)) := by go_grown
                refine hK.out _ _ (bstep SC SC.size hb) (fun _ => ?_)
                clear hK K
                refine wpAnyH_ready (rs := [10]) (by kernel_rfl) (by simp) ?_
                refine (AllReadyH.cons rfl (fun K hK => ?_) AllReadyH.nil)
                · go_simp
                  refine hK.out _ _ (bstep SC SC.size hb) (fun _ => ?_)
                  clear hK K
                  refine wpAnyH_done (by kernel_rfl) ?_ _
                  refine ⟨.slice AR nR cRR, gP, bo, W5.heap.size, .agg #[.slice A0 O.length c0, .slice A1 O.length c1, .slice A2 O.length c2, .slice AR nR cRR, .slice (some ⟨gR, 0, none⟩) (O.length + 1) cR, .slice (some ⟨gP, 0, none⟩) O.length O.length, .int .i64 (O.length : Int), .map (some bo)], W5, SC, FR, FP, FM, rfl, ?_, ?_⟩
                  · with_reducible rfl
                  · with_reducible rfl
      · obtain ⟨W5, hrun5, own5, gr5⟩ := run_make_full (P := Try.prog) XD w.heap.size 23 22 iN (.slice none 0 0) 1 Try.underlying23 hiN hzN hz1N .i64 .i64 O.length (by rw [hz2N]; omega) (by unfold maxLen; omega) (bStart HZ.out SC).size
        have hb : Below XD.heap.size XD W5 := (Below.refl _ _).grown gr5 (Nat.le_refl _) (fun k hk => by simp at hk)
        generalize hgP : XD.heap.size = gP at own5 hrun5
        go_simp
        have FP : FPrd O w W5 gP := ⟨_, own5⟩
        have SC : Below XD.heap.size XD W5 := bstep SC SC.size hb
        refine hK.out _ _ SC (fun _ => ?_)
        clear hK K hb
        refine wpAnyH_ready (rs := [2, 7]) (by kernel_rfl) (by simp) ?_
        refine (AllReadyH.cons rfl (fun K hK => ?_) (AllReadyH.cons rfl (fun K hK => ?_) AllReadyH.nil))
        · go_simp
          refine (HREL.out W5 (bStart HZ.out SC)).mono ?_
          rintro e W2 ⟨vR, rfl, hro, hb⟩
          obtain ⟨AR, nR, cRR, rfl⟩ := hro.form
          have FR : FRel O W J w W2 (.slice AR nR cRR) := FRel.of hro (by have := (bStart HZ.out SC).size; omega)
          have SC : Below XD.heap.size XD W2 := bstep SC SC.size hb
          have FP := FP.below hb
          refine hK.out _ _ SC (fun _ => ?_)
          clear hK K hb
          refine wpAnyH_ready (rs := [7]) (by kernel_rfl) (by simp) ?_
          refine (AllReadyH.cons rfl (fun K hK => ?_) AllReadyH.nil)
          · have hb : Below W2.heap.size W2 (W2.alloc (.map #[] 0)) := by go_grown
            have FM : FMap w (W2.alloc (.map #[] 0)) W2.heap.size := ⟨(bStart HZ.out SC).size, World.ownsMap_made _ _ _ _⟩
            have SC : Below XD.heap.size XD (W2.alloc (.map #[] 0)) := bstep SC SC.size hb
            have hmm := @run_makeMap Try.prog
            go_simp
            have FR := FR.below hb
            have FP := FP.below hb
            generalize hbo : W2.heap.size = bo at FM ⊢
            generalize W2.alloc (.map #[] 0) = W7 at *
            refine hK.out _ _ SC (fun _ => ?_)
            clear hK K hb
            refine wpAnyH_ready (rs := [8]) (by kernel_rfl) (by simp) ?_
            refine (AllReadyH.cons rfl (fun K hK => ?_) AllReadyH.nil)
            · go_simp
              refine hK.out _ _ SC (fun _ => ?_)
              clear hK K
              refine wpAnyH_ready (rs := [9]) (by kernel_rfl) (by simp) ?_
              refine (AllReadyH.cons rfl (fun K hK => ?_) AllReadyH.nil)
              · go_simp
                have hb : Below W7.heap.size W7 (W7.alloc (.cells #[.slice A0 O.length c0, .slice A1 O.length c1, .slice A2 O.length c2, .slice AR nR cRR, .slice (some ⟨gR, 0, none⟩) (O.length + 1) cR, .slice (some ⟨gP, 0, none⟩) O.length O.length, .int .i64 (O.length : Int), .map (some bo)] 121)) := by go_grown
                refine hK.out _ _ (bstep SC SC.size hb) (fun _ => ?_)
                clear hK K
                refine wpAnyH_ready (rs := [10]) (by kernel_rfl) (by simp) ?_
                refine (AllReadyH.cons rfl (fun K hK => ?_) AllReadyH.nil)
                · go_simp
                  refine hK.out _ _ (bstep SC SC.size hb) (fun _ => ?_)
                  clear hK K
                  refine wpAnyH_done (by kernel_rfl) ?_ _
                  refine ⟨.slice AR nR cRR, gP, bo, W7.heap.size, .agg #[.slice A0 O.length c0, .slice A1 O.length c1, .slice A2 O.length c2, .slice AR nR cRR, .slice (some ⟨gR, 0, none⟩) (O.length + 1) cR, .slice (some ⟨gP, 0, none⟩) O.length O.length, .int .i64 (O.length : Int), .map (some bo)], W7, SC, FR, FP, FM, rfl, ?_, ?_⟩
                  · with_reducible rfl
                  · with_reducible rfl
        · have hb : Below W5.heap.size W5 (W5.alloc (.map #[] 0)) := by go_grown
          have FM : FMap w (W5.alloc (.map #[] 0)) W5.heap.size := ⟨(bStart HZ.out SC).size, World.ownsMap_made _ _ _ _⟩
          have SC : Below XD.heap.size XD (W5.alloc (.map #[] 0)) := bstep SC SC.size hb
          have hmm := @run_makeMap Try.prog
          go_simp
          have FP := FP.below hb
          generalize hbo : W5.heap.size = bo at FM ⊢
          generalize W5.alloc (.map #[] 0) = W7 at *
          refine hK.out _ _ SC (fun _ => ?_)
          clear hK K hb
          refine wpAnyH_ready (rs := [2]) (by kernel_rfl) (by simp) ?_
          refine (AllReadyH.cons rfl (fun K hK => ?_) AllReadyH.nil)
          · go_simp
            refine (HREL.out W7 (bStart HZ.out SC)).mono ?_
            rintro e W2 ⟨vR, rfl, hro, hb⟩
            obtain ⟨AR, nR, cRR, rfl⟩ := hro.form
            have FR : FRel O W J w W2 (.slice AR nR cRR) := FRel.of hro (by have := (bStart HZ.out SC).size; omega)
            have SC : Below XD.heap.size XD W2 := bstep SC SC.size hb
            have FP := FP.below hb
            have FM := FM.below hb
            refine hK.out _ _ SC (fun _ => ?_)
            clear hK K hb
            refine wpAnyH_ready (rs := [8]) (by kernel_rfl) (by simp) ?_
            refine (AllReadyH.cons rfl (fun K hK => ?_) AllReadyH.nil)
            · go_simp
              refine hK.out _ _ SC (fun _ => ?_)
              clear hK K
              refine wpAnyH_ready (rs := [9]) (by kernel_rfl) (by simp) ?_
              refine (AllReadyH.cons rfl (fun K hK => ?_) AllReadyH.nil)
              · go_simp
                have hb : Below W2.heap.size W2 (W2.alloc (.cells #[.slice A0 O.length c0, .slice A1 O.length c1, .slice A2 O.length c2, .slice AR nR cRR, .slice (some ⟨gR, 0, none⟩) (O.length + 1) cR, .slice (some ⟨gP, 0, none⟩) O.length O.length, .int .i64 (O.length : Int), .map (some bo)] 121)) := by go_grown
                refine hK.out _ _ (bstep SC SC.size hb) (fun _ => ?_)
                clear hK K
                refine wpAnyH_ready (rs := [10]) (by kernel_rfl) (by simp) ?_
                refine (AllReadyH.cons rfl (fun K hK => ?_) AllReadyH.nil)
                · go_simp
                  refine hK.out _ _ (bstep SC SC.size hb) (fun _ => ?_)
                  clear hK K
                  refine wpAnyH_done (by kernel_rfl) ?_ _
                  refine ⟨.slice AR nR cRR, gP, bo, W2.heap.size, .agg #[.slice A0 O.length c0, .slice A1 O.length c1, .slice A2 O.length c2, .slice AR nR cRR, .slice (some ⟨gR, 0, none⟩) (O.length + 1) cR, .slice (some ⟨gP, 0, none⟩) O.length O.length, .int .i64 (O.length : Int), .map (some bo)], W2, SC, FR, FP, FM, rfl, ?_, ?_⟩
                  · with_reducible rfl
                  · with_reducible rfl
      · have hb : Below XD.heap.size XD (XD.alloc (.map #[] 0)) := by go_grown
        have FM : FMap w (XD.alloc (.map #[] 0)) XD.heap.size := ⟨(bStart HZ.out SC).size, World.ownsMap_made _ _ _ _⟩
        have SC : Below XD.heap.size XD (XD.alloc (.map #[] 0)) := bstep SC SC.size hb
        have hmm := @run_makeMap Try.prog
        go_simp
        generalize hbo : XD.heap.size = bo at FM ⊢
        generalize XD.alloc (.map #[] 0) = W7 at *
        refine hK.out _ _ SC (fun _ => ?_)
        clear hK K hb
        refine wpAnyH_ready (rs := [2, 5]) (by kernel_rfl) (by simp) ?_
        refine (AllReadyH.cons rfl (fun K hK => ?_) (AllReadyH.cons rfl (fun K hK => ?_) AllReadyH.nil))
        · go_simp
          refine (HREL.out W7 (bStart HZ.out SC)).mono ?_
          rintro e W2 ⟨vR, rfl, hro, hb⟩
          obtain ⟨AR, nR, cRR, rfl⟩ := hro.form
          have FR : FRel O W J w W2 (.slice AR nR cRR) := FRel.of hro (by have := (bStart HZ.out SC).size; omega)
          have SC : Below XD.heap.size XD W2 := bstep SC SC.size hb
          have FM := FM.below hb
          refine hK.out _ _ SC (fun _ => ?_)
          clear hK K hb
          refine wpAnyH_ready (rs := [5]) (by kernel_rfl) (by simp) ?_
          refine (AllReadyH.cons rfl (fun K hK => ?_) AllReadyH.nil)
          · obtain ⟨W5, hrun5, own5, gr5⟩ := run_make_full (P := Try.prog) W2 w.heap.size 23 22 iN (.slice none 0 0) 1 Try.underlying23 hiN hzN hz1N .i64 .i64 O.length (by rw [hz2N]; omega) (by unfold maxLen; omega) (bStart HZ.out SC).size
            have hb : Below W2.heap.size W2 W5 := (Below.refl _ _).grown gr5 (Nat.le_refl _) (fun k hk => by simp at hk)
            generalize hgP : W2.heap.size = gP at own5 hrun5
            go_simp
            have FP : FPrd O w W5 gP := ⟨_, own5⟩
            have SC : Below XD.heap.size XD W5 := bstep SC SC.size hb
            have FR := FR.below hb
            have FM := FM.below hb
            refine hK.out _ _ SC (fun _ => ?_)
            clear hK K hb
            refine wpAnyH_ready (rs := [8]) (by kernel_rfl) (by simp) ?_
            refine (AllReadyH.cons rfl (fun K hK => ?_) AllReadyH.nil)
            · go_simp
              refine hK.out _ _ SC (fun _ => ?_)
              clear hK K
              refine wpAnyH_ready (rs := [9]) (by kernel_rfl) (by simp) ?_
              refine (AllReadyH.cons rfl (fun K hK => ?_) AllReadyH.nil)
              · go_simp
                have hb : Below W5.heap.size W5 (W5.alloc (.cells #[.slice A0 O.length c0, .slice A1 O.length c1, .slice A2 O.length c2, .slice AR nR cRR, .slice (some ⟨gR, 0, none⟩) (O.length + 1) cR, .slice (some ⟨gP, 0, none⟩) O.length O.length, .int .i64 (O.length : Int), .map (some bo)] 121)) := by go_grown
                refine hK.out _ _ (bstep SC SC.size hb) (fun _ => ?_)
                clear hK K
                refine wpAnyH_ready (rs := [10]) (by kernel_rfl) (by simp) ?_
                refine (AllReadyH.cons rfl (fun K hK => ?_) AllReadyH.nil)
                · go_simp
                  refine hK.out _ _ (bstep SC SC.size hb) (fun _ => ?_)
                  clear hK K
                  refine wpAnyH_done (by kernel_rfl) ?_ _
                  refine ⟨.slice AR nR cRR, gP, bo, W5.heap.size, .agg #[.slice A0 O.length c0, .slice A1 O.length c1, .slice A2 O.length c2, .slice AR nR cRR, .slice (some ⟨gR, 0, none⟩) (O.length + 1) cR, .slice (some ⟨gP, 0, none⟩) O.length O.length, .int .i64 (O.length : Int), .map (some bo)], W5, SC, FR, FP, FM, rfl, ?_, ?_⟩
                  · with_reducible rfl
                  · with_reducible rfl
        · obtain ⟨W5, hrun5, own5, gr5⟩ := run_make_full (P := Try.prog) W7 w.heap.size 23 22 iN (.slice none 0 0) 1 Try.underlying23 hiN hzN hz1N .i64 .i64 O.length (by rw [hz2N]; omega) (by unfold maxLen; omega) (bStart HZ.out SC).size
          have hb : Below W7.heap.size W7 W5 := (Below.refl _ _).grown gr5 (Nat.le_refl _) (fun k hk => by simp at hk)
          generalize hgP : W7.heap.size = gP at own5 hrun5
          go_simp
          have FP : FPrd O w W5 gP := ⟨_, own5⟩
          have SC : Below XD.heap.size XD W5 := bstep SC SC.size hb
          have FM := FM.below hb
          refine hK.out _ _ SC (fun _ => ?_)
          clear hK K hb
          refine wpAnyH_ready (rs := [2]) (by kernel_rfl) (by simp) ?_
          refine (AllReadyH.cons rfl (fun K hK => ?_) AllReadyH.nil)
          · go_simp
            refine (HREL.out W5 (bStart HZ.out SC)).mono ?_
            rintro e W2 ⟨vR, rfl, hro, hb⟩
            obtain ⟨AR, nR, cRR, rfl⟩ := hro.form
            have FR : FRel O W J w W2 (.slice AR nR cRR) := FRel.of hro (by have := (bStart HZ.out SC).size; omega)
            have SC : Below XD.heap.size XD W2 := bstep SC SC.size hb
            have FP := FP.below hb
            have FM := FM.below hb
            refine hK.out _ _ SC (fun _ => ?_)
            clear hK K hb
            refine wpAnyH_ready (rs := [8]) (by kernel_rfl) (by simp) ?_
            refine (AllReadyH.cons rfl (fun K hK => ?_) AllReadyH.nil)
            · go_simp
              refine hK.out _ _ SC (fun _ => ?_)
              clear hK K
              refine wpAnyH_ready (rs := [9]) (by kernel_rfl) (by simp) ?_
              refine (AllReadyH.cons rfl (fun K hK => ?_) AllReadyH.nil)
              · go_simp
                have hb : Below W2.heap.size W2 (W2.alloc (.cells #[.slice A0 O.length c0, .slice A1 O.length c1, .slice A2 O.length c2, .slice AR nR cRR, .slice (some ⟨gR, 0, none⟩) (O.length + 1) cR, .slice (some ⟨gP, 0, none⟩) O.length O.length, .int .i64 (O.length : Int), .map (some bo)] 121)) := by go_grown
                refine hK.out _ _ (bstep SC SC.size hb) (fun _ => ?_)
                clear hK K
                refine wpAnyH_ready (rs := [10]) (by kernel_rfl) (by simp) ?_
                refine (AllReadyH.cons rfl (fun K hK => ?_) AllReadyH.nil)
                · go_simp
                  refine hK.out _ _ (bstep SC SC.size hb) (fun _ => ?_)
                  clear hK K
                  refine wpAnyH_done (by kernel_rfl) ?_ _
                  refine ⟨.slice AR nR cRR, gP, bo, W2.heap.size, .agg #[.slice A0 O.length c0, .slice A1 O.length c1, .slice A2 O.length c2, .slice AR nR cRR, .slice (some ⟨gR, 0, none⟩) (O.length + 1) cR, .slice (some ⟨gP, 0, none⟩) O.length O.length, .int .i64 (O.length : Int), .map (some bo)], W2, SC, FR, FP, FM, rfl, ?_, ?_⟩
                  · with_reducible rfl
                  · with_reducible rfl
    · rintro a' w' ⟨vR, gP, bo, tb, v37, WE, SE, FR, FP, FM, rfl, rfl, rfl⟩
      have hDX : X.heap[D]? = some (.deferred (some [])) := HDD.out
      have hDl : D < X.heap.size := (Array.getElem?_eq_some_iff.1 hDX).1
      have hDE : WE.heap[D]? = some (.deferred (some [])) := (SE.block D hDl).trans hDX
      have hbE : Below WE.heap.size WE (WE.alloc (.cells #[.slice A0 O.length c0, .slice A1 O.length c1, .slice A2 O.length c2, vR, .slice (some ⟨gR, 0, none⟩) (O.length + 1) cR, .slice (some ⟨gP, 0, none⟩) O.length O.length, .int .i64 (O.length : Int), .map (some bo)] 121)) := by go_grown
      have hK : (WE.alloc (.cells #[.slice A0 O.length c0, .slice A1 O.length c1, .slice A2 O.length c2, vR, .slice (some ⟨gR, 0, none⟩) (O.length + 1) cR, .slice (some ⟨gP, 0, none⟩) O.length O.length, .int .i64 (O.length : Int), .map (some bo)] 121)).heap[D]? = some (.deferred (some [])) := (hbE.block D (Nat.lt_of_lt_of_le hDl SE.size)).trans hDE
      have FR1 := FR.below hbE
      have FP1 := FP.below hbE
      have FM1 := FM.below hbE
      have hmap : ∃ es ck, (WE.alloc (.cells #[.slice A0 O.length c0, .slice A1 O.length c1, .slice A2 O.length c2, vR, .slice (some ⟨gR, 0, none⟩) (O.length + 1) cR, .slice (some ⟨gP, 0, none⟩) O.length O.length, .int .i64 (O.length : Int), .map (some bo)] 121)).heap[bo]? = some (.map es ck) := by
        obtain ⟨es, ck, hm, _⟩ := FM1.2
        exact ⟨es, ck, hm⟩
      have B1 : Below w.heap.size w (WE.alloc (.cells #[.slice A0 O.length c0, .slice A1 O.length c1, .slice A2 O.length c2, vR, .slice (some ⟨gR, 0, none⟩) (O.length + 1) cR, .slice (some ⟨gP, 0, none⟩) O.length O.length, .int .i64 (O.length : Int), .map (some bo)] 121)) := bStart (bStart HZ.out SE) hbE
      have BX : Blk (WE.alloc (.cells #[.slice A0 O.length c0, .slice A1 O.length c1, .slice A2 O.length c2, vR, .slice (some ⟨gR, 0, none⟩) (O.length + 1) cR, .slice (some ⟨gP, 0, none⟩) O.length O.length, .int .i64 (O.length : Int), .map (some bo)] 121)) WE.heap.size [.slice A0 O.length c0, .slice A1 O.length c1, .slice A2 O.length c2, vR, .slice (some ⟨gR, 0, none⟩) (O.length + 1) cR, .slice (some ⟨gP, 0, none⟩) O.length O.length, .int .i64 (O.length : Int), .map (some bo)] 121 := Blk.new WE _ _
      have hsE : w.heap.size ≤ WE.heap.size := (bStart HZ.out SE).size
      have OWE : (WE.alloc (.cells #[.slice A0 O.length c0, .slice A1 O.length c1, .slice A2 O.length c2, vR, .slice (some ⟨gR, 0, none⟩) (O.length + 1) cR, .slice (some ⟨gP, 0, none⟩) O.length O.length, .int .i64 (O.length : Int), .map (some bo)] 121)).ownsRow w.heap.size 2 1 (.slice (some ⟨gR, 0, none⟩) (O.length + 1) cR) (O.length + 1) ((Num.szP O W J 0).map (Value.int .i64)) :=
        ownsRow_keep HOW.out fun k e => (hbE.block k (Nat.lt_of_lt_of_le (World.ownsRow.lt HOW.out k e).2 SE.size)).trans (SE.block k (World.ownsRow.lt HOW.out k e).2)
      rw [Num.szP_zero] at OWE
      have OWI : OwnI (WE.alloc (.cells #[.slice A0 O.length c0, .slice A1 O.length c1, .slice A2 O.length c2, vR, .slice (some ⟨gR, 0, none⟩) (O.length + 1) cR, .slice (some ⟨gP, 0, none⟩) O.length O.length, .int .i64 (O.length : Int), .map (some bo)] 121)) w.heap.size (.slice (some ⟨gR, 0, none⟩) (O.length + 1) cR) (Num.szsL O W J) := by
        unfold OwnI
        rw [← Num.szP_zero, Num.szP_len, Num.szP_zero]
        exact OWE
      obtain ⟨ps, r1, r2, r3⟩ := FR1
      obtain ⟨vals, v1⟩ := FP1
      have TW : TwS O W J ⟨A0, c0, A1, c1, A2, c2, vR, gR, cR, some ⟨gP, 0, none⟩, O.length, bo, WE.heap.size⟩ gP ps w O.length 0 (WE.alloc (.cells #[.slice A0 O.length c0, .slice A1 O.length c1, .slice A2 O.length c2, vR, .slice (some ⟨gR, 0, none⟩) (O.length + 1) cR, .slice (some ⟨gP, 0, none⟩) O.length O.length, .int .i64 (O.length : Int), .map (some bo)] 121)) :=
        ⟨B1, HPP.out, r2, BX, OWI, rfl, ⟨vals, v1, fun j h1 h2 => by omega⟩, r3, ⟨.map [], Nat.le_refl _, FM1.2⟩, hsE, FM1.1⟩
      have hDb : D ≠ bo := fun e => by
        obtain ⟨es, ck, hm⟩ := hmap
        rw [e, hm] at hK
        cases hK
      generalize WE.alloc (.cells #[.slice A0 O.length c0, .slice A1 O.length c1, .slice A2 O.length c2, vR, .slice (some ⟨gR, 0, none⟩) (O.length + 1) cR, .slice (some ⟨gP, 0, none⟩) O.length O.length, .int .i64 (O.length : Int), .map (some bo)] 121) = WF at *
      have gp := grownBy_putObj' WF D (.deferred none)
      have TW2 := TW.tag hK (⟨gp.os, gp.tape, gp.output, gp.size, fun k hk hn => gp.block k hk (fun e => hn (by simpa using e))⟩ : ChgS (fun k => k = D) WF (WF.putObj D (.deferred none))) (by omega) hDb (fun _ _ e => by cases e) (fun _ _ e => by cases e) (fun _ _ e => by cases e) (fun _ _ e => by cases e)
      gi_wp2
      refine ⟨by simp, .inl ⟨_, _, rfl, run_takeDeferred hK, ?_⟩⟩
      exact ⟨_, results_tmp rfl _ _ _, ⟨A0, c0, A1, c1, A2, c2, vR, gR, cR, some ⟨gP, 0, none⟩, O.length, bo, WE.heap.size⟩, gP, ps, rfl, r1, TW2, rfl, rfl, rfl⟩
end Go.Proofs.Yteappjgdcbploaa
