/- Collection of the model: l07Vector, l09Collect. -/
import Derived.Test.YtahmhdpgdhfjnaaL13B
import Derived.Test.YtahmhdpgdhfjnaaL10H
import Derived.Handy
namespace Go.Proofs.Ytahmhdpgdhfjnaa
open Go.RowKit
set_option linter.unusedVariables false
set_option linter.unusedSimpArgs false

theorem OwnI.capN {w : World} {b : Nat} {v : Value} {x : List Int} (h : OwnI w b v x) : ∃ A c, v = .slice A x.length c ∧ x.length ≤ c := by
  rcases h.2 with ⟨rfl, h0⟩ | ⟨g, cap, cur, rfl, hb, hg, h1, h2, -⟩
  · exact ⟨none, 0, by rw [h0], by omega⟩
  · exact ⟨_, cap, rfl, h1⟩
theorem Num.PosW.inc {n : Nat} {x : List Int} (h : Num.PosW n x) {j : Nat} (hj : j < x.length) (acc : List Int) : Num.incS acc (x.getD j 0) = acc.set (x.getD j 0 - 1).toNat (acc.getD (x.getD j 0 - 1).toNat 0 + 1) := Num.incS_pos (by have := h.at_ hj; omega)
set_option maxRecDepth 100000 in
set_option maxHeartbeats 1000000 in
/-- The exponents of a positive word. -/
theorem sVector_any (K : Nat) (A : Option Addr) (c : Nat) (x : List Int) (w : World) (hA : RdI w A x) (hK : K ≤ 6) (hp : Num.PosW K x) (hl : x.length ≤ 1000) :
    Calls Try.prog 128 #[.int .i64 (K : Int), .slice A x.length c] w fun e w' => ∃ v, e = .returned (.tuple #[v, .bool true]) ∧ OwnI w' w.heap.size v (Num.sumW (K : Int) x) ∧ Below w.heap.size w w' := by
  obtain ⟨iT, hi, hz0, hz1, hz2⟩ := info_parts infoI
  have HS : Hid (Num.sumW (K : Int) x = Num.sumF (List.replicate K 0) x) := Lib.hid (by unfold Num.sumW; simp)
  have HA := Lib.hid hA
  clear hA
  go_enter Try.func128, Try.ntmps128
  go_wp2_with (refine wpList_make_full _ rfl (.tmp 8) (.tmp 8) 24 rfl w.heap.size 2 iT (.int .i64 0) 1 Try.underlying24 hi hz0 hz1 .i64 .i64 (K : Int) (K : Int) K rfl rfl rfl rfl (by rw [hz2]; omega) (by unfold maxLen; omega) (Nat.le_refl _) ?_; intro w1 own1 gr1)
  have bW : Below w.heap.size w w1 := (Below.refl _ _).grown gr1 (Nat.le_refl _) (fun k hk => by simp at hk)
  have o1 := (madeW_zeros own1)
  clear own1 gr1
  go_wp2_with (fail)
  go_loopw [7] (fun s wr => ∃ j : Nat, s = .int .i64 j ∧ j ≤ x.length ∧ OwnI wr w.heap.size (.slice (some ⟨w.heap.size, 0, none⟩) K K) (Num.sumF (List.replicate K 0) (x.take j)) ∧ Below w.heap.size w wr) (fun s _ => x.length - (intOf s).toNat)
  case atStart => exact ⟨0, rfl, by omega, o1, bW⟩
  case round =>
    obtain ⟨j, rfl, hj, own, bel⟩ := hrel
    clear o1 bW
    by_cases hlt : j < x.length
    · obtain ⟨g, o, rfl, hg, hc⟩ := (HA.out.below' bel) j hlt
      have j0 : (0 : Int) ≤ (j : Int) := by omega
      have j1 : (j : Int) < (x.length : Int) := by omega
      have HST := Lib.hid (Num.sumF_step (List.replicate K 0) x j hlt)
      obtain ⟨y2, y3⟩ := hp.at_ hlt
      have hbd := (Num.BdS.zero K).sum x j hj
      have hal := Num.sumF_len (List.replicate K 0) (x.take j)
      rw [List.length_replicate] at hal
      generalize x.getD j 0 = y at *
      generalize Num.sumF (List.replicate K 0) (x.take j) = acc at *
      have hat := own.at_ (y - 1).toNat (by omega)
      have hb1 := hbd (y - 1).toNat (by omega)
      rw [Num.incS_pos (by omega)] at HST
      have q0 : (0 : Int) ≤ y - 1 := by omega
      have q1 : y - 1 < (K : Int) := by omega
      have q2 : ¬ y < 0 := by omega
      have w3 : IntKind.i64.wrap (y - 1) = y - 1 := IntWalk.i64_in _ (by omega)
      obtain ⟨a0, f0⟩ := hat
      generalize hq : (y - 1).toNat = q at *
      have hq2 : y.toNat - 1 = q := by omega
      generalize acc.getD q 0 = z at *
      have w4 : IntKind.i64.wrap (z + 1) = z + 1 := IntWalk.i64_in _ (by omega)
      have O3 := (own.drewN 1).set q (z + 1)
      rw [← HST.out] at O3
      have L3 := (below_drewN bel 1).setCell (p := ⟨w.heap.size, q, none⟩) (by simp) (.int .i64 (z + 1))
      have HO3 := Lib.hid O3
      clear hbd O3 hp HA
      go_wp2_with (fail)
      go_region
      all_goals
        go_wp2_with (fail)
        exact ⟨⟨j + 1, by go_num, by omega, HO3.out, L3⟩, by simp [intOf]; omega⟩
    · have hge : ¬ ((j : Int) < (x.length : Int)) := by omega
      obtain rfl : j = x.length := by omega
      rw [List.take_length, ← HS.out] at own
      go_wp2_with (fail)
      go_ret2
      exact ⟨_, rfl, own, bel⟩
/-! ### Collection -/
theorem Num.stpW_len {O : List Int} {W : List (List Int)} {J : List (List (List Int))} (V : Num.V9 O W J) {w : List Int} (hw : Num.PosW O.length w) {t : Nat} (ht : t < w.length) : (Num.stpW O W J w t).length ≤ w.length + 36 := by
  obtain ⟨b1, b2⟩ := hw.at_ ht
  unfold Num.stpW
  split
  · next hd =>
    obtain ⟨d1, d2⟩ := Num.dsc_iff.mp hd
    obtain ⟨b3, b4⟩ := hw.at_ d1
    have := V.cl (i := (w.getD (t + 1) 0 - 1).toNat) (k := (w.getD t 0 - w.getD (t + 1) 0 - 1).toNat) (by omega) (by omega)
    rw [List.length_append, List.length_append, List.length_append, List.length_take, List.length_drop, List.length_singleton]
    omega
  · have := V.wl (i := (w.getD t 0 - 1).toNat) (by omega)
    rw [List.length_append, List.length_append, List.length_take, List.length_drop]
    omega
def Num.colR (n : Nat) (r : Option (List Int × Nat)) : List Int := match r with | some p => Num.sumW (n : Int) p.1 | none => []
def Num.colS (r : Option (List Int × Nat)) : Int := match r with | some p => p.2 | none => 0
/-- What is to come of a word after some steps. -/
def Num.colT (O : List Int) (W : List (List Int)) (J : List (List (List Int))) (L s : Nat) (y : List Int) : Option (List Int × Nat) :=
  if L < s ∨ 256 < y.length then none else (Num.colW O W J (L - s) y).map fun r => (r.1, r.2 + s)
theorem Num.colT_start {O : List Int} {W : List (List Int)} {J : List (List (List Int))} {L : Nat} {x : List Int} (h : x.length ≤ 256) : Num.colT O W J L 0 x = Num.colW O W J L x := by
  unfold Num.colT
  rw [if_neg (by omega)]
  cases Num.colW O W J L x <;> rfl
theorem Num.colT_long {O : List Int} {W : List (List Int)} {J : List (List (List Int))} {L s : Nat} {y : List Int} (h : L < s ∨ 256 < y.length) : Num.colT O W J L s y = none := if_pos h
theorem Num.colT_end {O : List Int} {W : List (List Int)} {J : List (List (List Int))} {L s : Nat} {y : List Int} (h : s ≤ L) (h' : y.length ≤ 256) (hn : ¬ Num.atW O y < y.length) : Num.colT O W J L s y = some (y, s) := by
  unfold Num.colT
  rw [if_neg (by omega)]
  cases L - s <;> rw [Num.colW, if_neg hn] <;> simp
theorem Num.colT_step {O : List Int} {W : List (List Int)} {J : List (List (List Int))} {L s : Nat} {y : List Int} (h : s ≤ L) (h' : y.length ≤ 256) (hn : Num.atW O y < y.length) : Num.colT O W J L s y = Num.colT O W J L (s + 1) (Num.stpW O W J y (Num.atW O y)) := by
  unfold Num.colT
  rw [if_neg (by omega)]
  by_cases e : s = L
  · subst e
    rw [Nat.sub_self, Num.colW, if_pos hn, if_pos (.inl (by omega))]
    rfl
  · rw [show L - s = (L - (s + 1)) + 1 by omega, Num.colW, if_pos hn]
    by_cases h2 : 256 < (Num.stpW O W J y (Num.atW O y)).length
    · rw [if_pos h2, if_pos (.inr h2)]
      rfl
    · rw [if_neg h2, if_neg (by omega)]
      cases Num.colW O W J (L - (s + 1)) (Num.stpW O W J y (Num.atW O y)) with
      | none => rfl
      | some r => simp; omega
set_option maxRecDepth 100000 in
set_option maxHeartbeats 2000000 in
theorem sCollect_any (A0 A1 A2 A : Option Addr) (c0 c1 c2 c L : Nat) (O : List Int) (W : List (List Int)) (J : List (List (List Int))) (x : List Int) (w : World) (V : Num.V9 O W J) (hO : RdI w A0 O) (hW : RdW w A1 W) (hJ : RdX w A2 J) (h : RdI w A x) (hl : x.length ≤ 256) (hp : Num.PosW O.length x) (hL : L ≤ 2000) :
    Calls Try.prog 90 #[.agg #[.slice A0 O.length c0, .slice A1 W.length c1, .slice A2 J.length c2], .slice A x.length c, .int .i64 (L : Int)] w fun e w' => ∃ u, e = .returned (.tuple #[u, .int .i64 (Num.colS (Num.colW O W J L x)), .bool (Num.colW O W J L x).isSome]) ∧ OwnI w' w.heap.size u (Num.colR O.length (Num.colW O W J L x)) ∧ Below w.heap.size w w' := by
  have h6 := V.n6
  have b0 : Below w.heap.size w (w.alloc (.cells #[.slice A0 O.length c0, .slice A1 W.length c1, .slice A2 J.length c2] 28)) := by go_grown
  have BX := (Blk.new w [.slice A0 O.length c0, .slice A1 W.length c1, .slice A2 J.length c2] 28).c3
  generalize hW0 : (w.alloc (.cells #[.slice A0 O.length c0, .slice A1 W.length c1, .slice A2 J.length c2] 28)) = W0 at *
  obtain ⟨bl, bx0, bx1, bx2⟩ := BX
  have HOW := Lib.hid (sOwnI_any A _ c x W0 (h.below' b0) rfl (by omega))
  have HAt : Hid (∀ W' (y : List Int) B d, Below W0.heap.size W0 W' → RdI W' B y → y.length ≤ 1000 → Num.PosW O.length y → Calls Try.prog 88 #[.agg #[.slice A0 O.length c0, .slice A1 W.length c1, .slice A2 J.length c2], .slice B y.length d] W' fun e w' => e = .returned (.int .i64 (if Num.atW O y < y.length then (Num.atW O y : Int) else -1)) ∧ Below W'.heap.size W' w') :=
    Lib.hid fun W' y B d hb hr hy hp => sAt_any A0 A1 A2 B c0 _ c1 _ c2 d O y W' ((hO.below' b0).below' hb) hr (by omega) hp h6
  have HStep : Hid (∀ W' (y : List Int) B d t, Below W0.heap.size W0 W' → RdI W' B y → y.length ≤ 1000 → y.length ≤ d → Num.PosW O.length y → t < y.length → Num.redB O y t = true → Calls Try.prog 89 #[.agg #[.slice A0 O.length c0, .slice A1 W.length c1, .slice A2 J.length c2], .slice B y.length d, .int .i64 (t : Int)] W' fun e w' => ∃ u, e = .returned u ∧ OwnI w' W'.heap.size u (Num.stpW O W J y t) ∧ Below W'.heap.size W' w') :=
    Lib.hid fun W' y B d t hb hr hy hd hp ht hred => sStep_any A0 A1 A2 B c0 c1 c2 d O W J y t W' V ((hO.below' b0).below' hb) ((hW.below' b0).below' hb) ((hJ.below' b0).below' hb) hr hy hd hp ht hred
  have HV := Lib.hid V
  have HT0 := Lib.hid (Num.colT_start (O := O) (W := W) (J := J) (L := L) hl)
  generalize Num.colW O W J L x = T at *
  clear hO hW hJ h V
  go_enter Try.func90, Try.ntmps90
  go_wp2_with (fail)
  clear hW0
  refine HOW.out.mono ?_; rintro e w1 ⟨u1, rfl, ow1, hb1⟩
  clear HOW
  go_wp2_with (fail)
  go_loopw [9, 10] (fun s9 s10 wr => ∃ (s : Nat) (y : List Int), s10 = .int .i64 s ∧ s ≤ L + 1 ∧ Hid (OwnI wr W0.heap.size s9 y) ∧ Hid (Num.PosW O.length y) ∧ y.length ≤ 1000 ∧ Hid (Num.colT O W J L s y = T) ∧ Below W0.heap.size W0 wr) (fun _ s10 _ => L + 1 - (intOf s10).toNat)
  case atStart => exact ⟨0, x, rfl, by omega, Lib.hid ow1, Lib.hid hp, by omega, HT0, hb1⟩
  case round =>
    obtain ⟨s, y, rfl, hs, own, hpy, hyl, hT, bel⟩ := hrel
    clear ow1 hb1 HT0
    obtain ⟨B, d, rfl, hnd⟩ := own.out.capN
    have hr := own.out.reads
    have x0 : wr.cell? ⟨w.heap.size, 0, none⟩ = _ := (bel.cell bl).trans bx0
    have x1 : wr.cell? ⟨w.heap.size, 1, none⟩ = _ := (bel.cell bl).trans bx1
    have x2 : wr.cell? ⟨w.heap.size, 2, none⟩ = _ := (bel.cell bl).trans bx2
    by_cases hle : s ≤ L
    · have s1 : (s : Int) ≤ (L : Int) := by omega
      by_cases hlong : 256 < y.length
      · have l1 : (256 : Int) < (y.length : Int) := by omega
        obtain rfl : T = none := by rw [← hT.out]; exact Num.colT_long (.inr hlong)
        clear hT
        go_wp2_with (fail)
        go_ret3
        exact ⟨_, rfl, World.ownsRow_nil _ _ _ _, bstep b0 b0.size bel⟩
      · have l1 : ¬ (256 : Int) < (y.length : Int) := by omega
        have HA1 := Lib.hid (HAt.out wr y B d bel hr hyl hpy.out)
        by_cases hat : Num.atW O y < y.length
        · rw [if_pos hat] at HA1
          have hred := Num.atW_red hat
          have hT2 : Hid (Num.colT O W J L (s + 1) (Num.stpW O W J y (Num.atW O y)) = T) := Lib.hid (by rw [← hT.out]; exact (Num.colT_step hle (by omega) hat).symm)
          have hl2 := Num.stpW_len HV.out hpy.out hat
          have hp2 := Lib.hid (Num.stpW_pos HV.out hpy.out hat)
          have HS2 := Lib.hid (fun W' hb hr' => HStep.out W' y B d (Num.atW O y) hb hr' hyl hnd hpy.out hat hred)
          generalize Num.stpW O W J y (Num.atW O y) = y2 at *
          generalize Num.atW O y = t at *
          have t1 : ¬ (t : Int) < 0 := by omega
          have w1' : IntKind.i64.wrap ((s : Int) + 1) = (s : Int) + 1 := IntWalk.i64_in _ (by omega)
          clear HAt HStep hT hred
          go_wp2_with (fail)
          refine HA1.out.mono ?_; rintro e w2 ⟨rfl, hb2⟩
          have L2 := bstep bel bel.size hb2
          have f0 : w2.cell? ⟨w.heap.size, 0, none⟩ = _ := (L2.cell bl).trans bx0
          have f1 : w2.cell? ⟨w.heap.size, 1, none⟩ = _ := (L2.cell bl).trans bx1
          have f2 : w2.cell? ⟨w.heap.size, 2, none⟩ = _ := (L2.cell bl).trans bx2
          have HS3 := Lib.hid (HS2.out w2 L2 (hr.below' hb2))
          clear x0 x1 x2 HA1 HS2
          go_wp2_with (fail)
          refine HS3.out.mono ?_; rintro e w3 ⟨u3, rfl, ow3, hb3⟩
          have L3 := bstep L2 L2.size hb3
          have ow3' := ow3.base_ L2.size
          clear f0 f1 f2 HS3
          go_wp2_with (fail)
          exact ⟨⟨s + 1, y2, by go_num, by omega, Lib.hid ow3', hp2, by omega, hT2, L3⟩, by simp [intOf]; omega⟩
        · rw [if_neg hat] at HA1
          obtain rfl : T = some (y, s) := by rw [← hT.out]; exact Num.colT_end hle (by omega) hat
          have HVc := Lib.hid (fun W' hr' => sVector_any O.length B d y W' hr' h6 hpy.out hyl)
          clear hT HAt HStep
          go_wp2_with (fail)
          refine HA1.out.mono ?_; rintro e w2 ⟨rfl, hb2⟩
          have L2 := bstep bel bel.size hb2
          have f0 : w2.cell? ⟨w.heap.size, 0, none⟩ = _ := (L2.cell bl).trans bx0
          have HS3 := Lib.hid (HVc.out w2 (hr.below' hb2))
          clear x0 x1 x2 HA1 HVc
          go_wp2_with (fail)
          refine HS3.out.mono ?_; rintro e w3 ⟨u3, rfl, ow3, hb3⟩
          have L3 := bstep L2 L2.size hb3
          have ow3' := ow3.base_ (bstep b0 b0.size L2).size
          go_wp2_with (fail)
          go_ret3
          exact ⟨u3, rfl, ow3', bstep b0 b0.size L3⟩
    · have s1 : ¬ (s : Int) ≤ (L : Int) := by omega
      obtain rfl : T = none := by rw [← hT.out]; exact Num.colT_long (.inl (by omega))
      clear hT
      go_wp2_with (fail)
      go_ret3
      exact ⟨_, rfl, World.ownsRow_nil _ _ _ _, bstep b0 b0.size bel⟩
end Go.Proofs.Ytahmhdpgdhfjnaa
