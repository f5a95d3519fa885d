/- Words: the letters that a substitution puts together, of the model. -/
import Derived.Test.YtpplojbcjgiabaaL10I
namespace Go.Proofs.Ytpplojbcjgiabaa
open Go.RowKit
set_option linter.unusedVariables false
set_option linter.unusedSimpArgs false

/-! ### The model -/
theorem SmallW_rep {k m : Int} {x : List Int} {imgs : List (List Int)} (hk : (imgs.length : Int) = k) (hx : Num.isWB k x = true) (hm : 0 ≤ m ∧ m ≤ 6) (ha : imgs.all (Num.isWB m) = true) : (Num.repW imgs x).length ≤ 1000000 ∧ Num.SmallW (Num.repW imgs x) := by
  obtain ⟨b1, b2⟩ := imgs_bd hm ha
  have fa1 := all_of (Num.facsW_all (P := fun f => f.length ≤ 64) hk hx b1 (fun f hf => by show (Num.invW f).length ≤ 64; rw [Num.invW_len]; exact hf))
  have fa2 := Num.facsW_all (P := Num.SmallW) hk hx b2 (fun f hf => hf.inv)
  refine ⟨?_, Num.SmallW.flat fa2⟩
  have h1 := Num.flat_len (Num.facsW imgs x) _ (Nat.le_refl _) fa1
  rw [List.take_length, Num.facsW_len] at h1
  have := (Num.isWB_iff.mp hx).1
  unfold Num.repW
  omega
set_option maxRecDepth 100000 in
set_option maxHeartbeats 2000000 in
theorem sReplace_any (k m : Int) (A C : Option Addr) (c d : Nat) (x : List Int) (imgs : List (List Int)) (w : World) (hA : RdI w A x) (hC : RdW w C imgs) (h : (0 ≤ k ∧ k ≤ 6) ∧ 0 ≤ m ∧ m ≤ 6) (hn : Num.isWB k x = true ∧ (imgs.length : Int) = k ∧ imgs.all (Num.isWB m) = true) :
    Calls Try.prog 35 #[.slice A x.length c, .slice C imgs.length d] w fun e w' => ∃ v, e = .returned v ∧ OwnI w' w.heap.size v (Num.repW imgs x) ∧ Below w.heap.size w w' := by
  obtain ⟨h1, h2⟩ := h
  obtain ⟨n1, n2, n3⟩ := hn
  have hxl := (Num.isWB_iff.mp n1).1
  have hk6 : imgs.length ≤ 6 := by omega
  obtain ⟨b1, b2⟩ := imgs_bd h2 n3
  have HB := Lib.hid (And.intro (all_of b1) (all_of b2))
  have fa1 := all_of (Num.facsW_all (P := fun f => f.length ≤ 64) n2 n1 b1 (fun f hf => by show (Num.invW f).length ≤ 64; rw [Num.invW_len]; exact hf))
  have HFA := Lib.hid (fun j (hj : j ≤ (Num.facsW imgs x).length) => Num.flat_len (Num.facsW imgs x) j hj fa1)
  have hfl := Num.facsW_len imgs x
  have HFL := Lib.hid hfl
  have HA := Lib.hid hA
  have HC := Lib.hid hC
  have HN2 := Lib.hid n2
  have HN1 := Lib.hid n1
  clear b1 b2 fa1 hA hC n2 n3 n1 hfl
  go_enter Try.func35, Try.ntmps35
  go_wp2_with (fail)
  go_loopw [5, 6] (fun s5 s6 wr => ∃ j : Nat, s6 = .int .i64 j ∧ j ≤ x.length ∧ OwnI wr w.heap.size s5 (Num.repW imgs (x.take j)) ∧ Below w.heap.size w wr) (fun _ s6 _ => x.length - (intOf s6).toNat)
  case atStart => exact ⟨0, rfl, by omega, World.ownsRow_lit w #[] 0 (Nat.le_refl _) (by unfold maxLen; omega) rfl, by go_grown⟩
  case round =>
    obtain ⟨j, rfl, hj, own, bel⟩ := hrel
    have Z := bel.size
    by_cases hlt : j < x.length
    · obtain ⟨g, o, rfl, hg, hc⟩ := (HA.out.below' bel) j hlt
      have j0 : (0 : Int) ≤ (j : Int) := by omega
      have j1 : (j : Int) < (x.length : Int) := by omega
      have HST := Lib.hid (Num.repW_take imgs x j hlt)
      obtain ⟨y1, y2, y3⟩ := Num.isWB_at HN1.out hlt
      have hol : (Num.repW imgs (x.take j)).length ≤ 10000 := by
        have h1 := HFA.out j (by rw [HFL.out]; omega)
        have e1 : Num.repW imgs (x.take j) = ((Num.facsW imgs x).take j).flatten := by unfold Num.repW Num.facsW; rw [List.map_take]
        rw [e1]
        omega
      generalize x.getD j 0 = y at *
      generalize Num.repW imgs (x.take j) = out at *
      have HK := HN2.out
      obtain ⟨A3, n3, c3, rfl, hn3⟩ := own.formN
      replace hn3 := Lib.hid hn3
      rcases Int.lt_or_gt_of_ne y1 with hng | hp
      · have q0 : (0 : Int) ≤ -y - 1 := by omega
        have q1 : -y - 1 < (imgs.length : Int) := by omega
        have q2 : (-y - 1).toNat < imgs.length := by omega
        have q3 : ¬ 0 < y := by omega
        have w1 : IntKind.i64.wrap (-y) = -y := IntWalk.i64_in _ (by omega)
        have w2 : IntKind.i64.wrap (-y - 1) = -y - 1 := IntWalk.i64_in _ (by omega)
        rw [Num.facW_neg (by omega)] at HST
        obtain ⟨g4, o4, B4, c4, rfl, hg4, hc4, hl4, hr4⟩ := (HC.out.below' bel) _ q2
        have hb4 := HB.out.1 _ q2
        have hs4 := HB.out.2 _ q2
        generalize imgs.getD (-y - 1).toNat [] = f at *
        generalize hq : (-y - 1).toNat = q at *
        have hq2 : (-y).toNat - 1 = q := by omega
        have HI := Lib.hid (sInvert_any B4 f.length c4 f wr hr4 rfl (by omega) hs4)
        clear hr4 hl4 HK
        go_wp2_with (fail)
        refine HI.out.mono ?_; rintro e w5 ⟨u5, rfl, own5, bel5⟩
        obtain ⟨A5, n5, c5, rfl, hn5⟩ := own5.formN
        have il := Num.invW_len f
        have hil : (Num.invW f).length ≤ 64 := by omega
        replace hn5 := Lib.hid hn5
        clear il
        have own' := own.below bel5
        have bel5' : Below w.heap.size w w5 := bel.trans (bel5.mono Z)
        have Z5 := bel5'.size
        go_wp2_with (at_builtin; refine wpList_app_ints _ rfl (.tmp 29) (.tmp 39) rfl w.heap.size _ out (Num.invW f) rfl own' A5 _ c5 hn5.out rfl own5.reads (by omega) (by omega) ?_; intro v6 w6 own6 gr6 hat6)
        exact ⟨⟨j + 1, by go_num, by omega, by rw [HST.out]; exact own6, bel5'.grown gr6 Z5 (fun k hk => (World.ownsRow.lt own' k hk).1)⟩, by simp [intOf]; omega⟩
      · have q0 : (0 : Int) ≤ y - 1 := by omega
        have q1 : y - 1 < (imgs.length : Int) := by omega
        have q2 : (y - 1).toNat < imgs.length := by omega
        have w2 : IntKind.i64.wrap (y - 1) = y - 1 := IntWalk.i64_in _ (by omega)
        rw [Num.facW_pos hp] at HST
        obtain ⟨g4, o4, B4, c4, rfl, hg4, hc4, hl4, hr4⟩ := (HC.out.below' bel) _ q2
        have hb4 := HB.out.1 _ q2
        generalize imgs.getD (y - 1).toNat [] = f at *
        generalize hq : (y - 1).toNat = q at *
        have hq2 : y.toNat - 1 = q := by omega
        clear HK
        go_wp2_with (at_builtin; refine wpList_app_ints _ rfl (.tmp 19) (.tmp 27) rfl w.heap.size _ out f rfl own B4 _ c4 rfl rfl hr4 (by omega) (by omega) ?_; intro v6 w6 own6 gr6 hat6)
        exact ⟨⟨j + 1, by go_num, by omega, by rw [HST.out]; exact own6, bel.grown gr6 Z (fun k hk => (World.ownsRow.lt own k hk).1)⟩, by simp [intOf]; omega⟩
    · have hge : ¬ ((j : Int) < (x.length : Int)) := by omega
      obtain rfl : j = x.length := by omega
      rw [List.take_length] at own
      go_wp2_with (fail)
      go_ret
      exact ⟨_, rfl, own, bel⟩
end Go.Proofs.Ytpplojbcjgiabaa
