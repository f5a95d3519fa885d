/- Collection of the program: slices.Concat of three lists; isAt, stepAt. -/
import Derived.Test.YtahmhdpgdhfjnaaL13B
import Derived.Test.YtahmhdpgdhfjnaaL11F
import Derived.Test.YtahmhdpgdhfjnaaL10D
namespace Go.Proofs.Ytahmhdpgdhfjnaa
open Go.RowKit
set_option linter.unusedVariables false
set_option linter.unusedSimpArgs false

set_option maxRecDepth 100000 in
set_option maxHeartbeats 1000000 in
theorem concat3_any (v1 v2 v3 : Value) (x y z : List Int) (vb : Nat) (w : World) (hx : spI.rd w v1 x) (hy : spI.rd w v2 y) (hz : spI.rd w v3 z) (hl : x.length + y.length + z.length ≤ 1000) (h0 : w.cell? ⟨vb, 0, none⟩ = some v1) (h1 : w.cell? ⟨vb, 1, none⟩ = some v2) (h2 : w.cell? ⟨vb, 2, none⟩ = some v3) :
    Calls Try.prog 95 #[.slice (some ⟨vb, 0, none⟩) 3 3] w fun e w' => ∃ v, e = .returned v ∧ OwnI w' w.heap.size v (x ++ y ++ z) ∧ Below w.heap.size w w' := by
  obtain ⟨A1, c1, rfl, -, hA1⟩ := hx
  obtain ⟨A2, c2, rfl, -, hA2⟩ := hy
  obtain ⟨A3, c3, rfl, -, hA3⟩ := hz
  have hvb : vb < w.heap.size := block_lt_of_cell h0
  have HX := Lib.hid hA1
  have HY := Lib.hid hA2
  have HZ := Lib.hid hA3
  have HG : Hid (Calls Try.prog 130 #[.slice none 0 0, .int .i64 ((x.length : Int) + (y.length : Int) + (z.length : Int))] w fun e w' => ∃ v, e = .returned v ∧ w'.ownsRow w.heap.size 2 1 v 0 [] ∧ Below w.heap.size w w') := Lib.hid (by have h := growI_any (x.length + y.length + z.length) w (by omega); rwa [Int.natCast_add, Int.natCast_add] at h)
  have hxy : (x ++ y).length = x.length + y.length := List.length_append
  clear hA1 hA2 hA3
  go_enter Try.func95, Try.ntmps95
  go_wp2_with (fail)
  go_loop [3, 11] (fun s3 s11 => ∃ j : Nat, s11 = .int .i64 j ∧ ((j = 0 ∧ s3 = .int .i64 0) ∨ (j = 1 ∧ s3 = .int .i64 (x.length : Int)) ∨ (j = 2 ∧ s3 = .int .i64 ((x.length : Int) + (y.length : Int))) ∨ (j = 3 ∧ s3 = .int .i64 ((x.length : Int) + (y.length : Int) + (z.length : Int))))) (fun _ s11 => 3 - (intOf s11).toNat)
  case atStart => exact ⟨0, rfl, .inl ⟨rfl, rfl⟩⟩
  case round =>
    obtain ⟨j, rfl, hj⟩ := hrel
    rcases hj with ⟨rfl, rfl⟩ | ⟨rfl, rfl⟩ | ⟨rfl, rfl⟩ | ⟨rfl, rfl⟩
    · have l0 : ¬ ((x.length : Int) < 0) := by omega
      go_wp2_with (fail)
      exact ⟨⟨1, by go_num, .inr (.inl ⟨rfl, by go_num⟩)⟩, by simp [intOf]⟩
    · have l0 : ¬ ((x.length : Int) + (y.length : Int) < 0) := by omega
      have l1 : IntKind.i64.wrap ((x.length : Int) + (y.length : Int)) = (x.length : Int) + (y.length : Int) := IntWalk.i64_in _ (by omega)
      go_wp2_with (fail)
      exact ⟨⟨2, by go_num, .inr (.inr (.inl ⟨rfl, rfl⟩))⟩, by simp [intOf]⟩
    · have l0 : ¬ ((x.length : Int) + (y.length : Int) + (z.length : Int) < 0) := by omega
      have l1 : IntKind.i64.wrap ((x.length : Int) + (y.length : Int) + (z.length : Int)) = (x.length : Int) + (y.length : Int) + (z.length : Int) := IntWalk.i64_in _ (by omega)
      go_wp2_with (fail)
      exact ⟨⟨3, by go_num, .inr (.inr (.inr ⟨rfl, rfl⟩))⟩, by simp [intOf]⟩
    · go_wp2_with (fail)
      refine HG.out.mono ?_; rintro e w1 ⟨v9, rfl, ow9, hb9⟩
      have HO9 : Hid (OwnI w1 w.heap.size v9 []) := Lib.hid ow9
      clear ow9 HG
      go_wp2_with (fail)
      go_loopw [6, 27] (fun s6 s27 wr => ∃ j : Nat, s27 = .int .i64 j ∧ ((j = 0 ∧ Hid (OwnI wr w.heap.size s6 [])) ∨ (j = 1 ∧ Hid (OwnI wr w.heap.size s6 x)) ∨ (j = 2 ∧ Hid (OwnI wr w.heap.size s6 (x ++ y))) ∨ (j = 3 ∧ Hid (OwnI wr w.heap.size s6 (x ++ y ++ z)))) ∧ Below w.heap.size w wr) (fun _ s27 _ => 3 - (intOf s27).toNat)
      case atStart => exact ⟨0, rfl, .inl ⟨rfl, HO9⟩, hb9⟩
      case round =>
        obtain ⟨j, rfl, hj, bel⟩ := hrel
        clear HO9
        have c0 : wr.cell? ⟨vb, 0, none⟩ = some (.slice A1 x.length c1) := by rw [bel.cell hvb]; exact h0
        have c1' : wr.cell? ⟨vb, 1, none⟩ = some (.slice A2 y.length c2) := by rw [bel.cell hvb]; exact h1
        have c2' : wr.cell? ⟨vb, 2, none⟩ = some (.slice A3 z.length c3) := by rw [bel.cell hvb]; exact h2
        rcases hj with ⟨rfl, HOW⟩ | ⟨rfl, HOW⟩ | ⟨rfl, HOW⟩ | ⟨rfl, HOW⟩
        · have HB := Lib.hid HOW.out.base_le
          have hr := HX.out.below' bel
          go_wp2_with (first | (at_builtin; refine wpList_app_ints _ rfl _ _ rfl w.heap.size _ [] x rfl HOW.out A1 _ c1 rfl rfl hr (by simp; omega) bel.size ?_; intro v' w' own' gr' at'; replace gr' : wr.grownBy w' u6.ownBlock := gr'))
          have HO' : Hid (OwnI w' w.heap.size v' x) := Lib.hid (by simpa using own')
          have L := bel.grown gr' bel.size HB.out
          clear own' gr' at' c0 c1' c2'
          go_wp2_with (fail)
          exact ⟨⟨1, by go_num, .inr (.inl ⟨rfl, HO'⟩), L⟩, by simp [intOf]⟩
        · have HB := Lib.hid HOW.out.base_le
          have hr := HY.out.below' bel
          go_wp2_with (first | (at_builtin; refine wpList_app_ints _ rfl _ _ rfl w.heap.size _ x y rfl HOW.out A2 _ c2 rfl rfl hr (by omega) bel.size ?_; intro v' w' own' gr' at'; replace gr' : wr.grownBy w' u6.ownBlock := gr'))
          have HO' : Hid (OwnI w' w.heap.size v' (x ++ y)) := Lib.hid own'
          have L := bel.grown gr' bel.size HB.out
          clear own' gr' at' c0 c1' c2'
          go_wp2_with (fail)
          exact ⟨⟨2, by go_num, .inr (.inr (.inl ⟨rfl, HO'⟩)), L⟩, by simp [intOf]⟩
        · have HB := Lib.hid HOW.out.base_le
          have hr := HZ.out.below' bel
          go_wp2_with (first | (at_builtin; refine wpList_app_ints _ rfl _ _ rfl w.heap.size _ (x ++ y) z rfl HOW.out A3 _ c3 rfl rfl hr (by omega) bel.size ?_; intro v' w' own' gr' at'; replace gr' : wr.grownBy w' u6.ownBlock := gr'))
          have HO' : Hid (OwnI w' w.heap.size v' (x ++ y ++ z)) := Lib.hid own'
          have L := bel.grown gr' bel.size HB.out
          clear own' gr' at' c0 c1' c2'
          go_wp2_with (fail)
          exact ⟨⟨3, by go_num, .inr (.inr (.inr ⟨rfl, HO'⟩)), L⟩, by simp [intOf]⟩
        · clear c0 c1' c2'
          go_wp2_with (fail)
          go_ret
          exact ⟨_, rfl, HOW.out, bel⟩
set_option maxRecDepth 100000 in
set_option maxHeartbeats 2000000 in
theorem isAt_any (vv : Value) (g b o : Int) (AL AR A : Option Addr) (nR cL cR c t : Nat) (l x : List Int) (w : World) (f0 : vv.oneCell' = true) (hL : RdI w AL l) (h : RdI w A x) (hl : x.length ≤ 1000) (hc : x.length ≤ c) (hll : l.length ≤ 100) (ht : t ≤ 1000) :
    Calls Try.prog 122 #[.agg #[vv, .int .i64 g, .int .i64 b, .int .i64 o, .slice AL l.length cL, .slice AR nR cR], .slice A x.length c, .int .i64 (t : Int)] w fun e w' => e = .returned (.bool (Num.isAt l x t)) ∧ Below w.heap.size w w' := by
  have b0 : Below w.heap.size w (w.alloc (.cells #[vv, .int .i64 g, .int .i64 b, .int .i64 o, .slice AL l.length cL, .slice AR nR cR] 91)) := by go_grown
  have BX := (Blk.new w [vv, .int .i64 g, .int .i64 b, .int .i64 o, .slice AL l.length cL, .slice AR nR cR] 91)
  have t0 : (0 : Int) ≤ (t : Int) := by omega
  have tl : IntKind.i64.wrap ((t : Int) + (l.length : Int)) = (t : Int) + (l.length : Int) := IntWalk.i64_in _ (by omega)
  by_cases hle : t + l.length ≤ x.length
  · have HF : Hid (decide ((x.drop t).take l.length = l) = Num.isAt l x t) := Lib.hid (by unfold Num.isAt; rw [decide_eq_true hle, Bool.true_and])
    have k1 : (t : Int) + (l.length : Int) ≤ (x.length : Int) := by omega
    have k2 : decide ((t : Int) + (l.length : Int) ≤ (x.length : Int)) = true := decide_eq_true k1
    have k3 : (t : Int) ≤ (t : Int) + (l.length : Int) := by omega
    have k4 : (t : Int) + (l.length : Int) ≤ (c : Int) := by omega
    have k5 : (0 : Int) ≤ (t : Int) + (l.length : Int) := by omega
    have k6 : ((t : Int) + (l.length : Int)).toNat = t + l.length := by omega
    have k7 : ((t : Int) + (l.length : Int) - (t : Int)).toNat = l.length := by omega
    have k8 : ¬ ((t : Int) + (l.length : Int) < (t : Int)) := by omega
    have k9 : (t : Int) ≤ (c : Int) := by omega
    have ld : ((x.drop t).take l.length).length = l.length := by rw [List.length_take, List.length_drop]; omega
    have HD : Hid (∀ W', Below w.heap.size w W' → RdI W' (if c = t then A else A.map fun p => p.add t) ((x.drop t).take l.length)) := Lib.hid fun W' hb => rdI_takeN (rdI_dropN (h.below' hb) hc) _
    obtain ⟨AD, hAD⟩ : ∃ AD, (if c = t then A else A.map fun p => p.add t) = AD := ⟨_, rfl⟩
    rw [hAD] at HD
    have HE : Hid (∀ W', Below w.heap.size w W' → Calls Try.prog 101 #[.slice AD l.length (c - t), .slice AL l.length cL] W' fun e w' => e = .returned (.bool (decide ((x.drop t).take l.length = l))) ∧ Below W'.heap.size W' w') := Lib.hid fun W' hb => by
      have := equalI_any AD AL (c - t) cL ((x.drop t).take l.length) l W' (HD.out W' hb) (hL.below' hb) (by rw [ld]; unfold maxLen; omega) (by unfold maxLen; omega)
      rwa [ld] at this
    clear h hL HD hle
    generalize decide ((x.drop t).take l.length = l) = res at *
    generalize hW0 : (w.alloc (.cells #[vv, .int .i64 g, .int .i64 b, .int .i64 o, .slice AL l.length cL, .slice AR nR cR] 91)) = W0 at *
    have x4 := BX.cell 4 (by simp)
    have hlt := BX.lt
    simp only [List.getElem_cons_succ, List.getElem_cons_zero] at x4
    go_enter Try.func122, Try.ntmps122
    go_wp2_with (fail)
    clear hW0
    go_region_held3 (fun wx => wx.cell? ⟨w.heap.size, 4, none⟩ = some (.slice AL l.length cL)) (first | go_keep | assumption) (first
      | (go_at_call 101; (with_reducible refine (HE.out W0.drew b0.drew).mono ?_); rintro e w5 ⟨rfl, hb5⟩; have L5 := bstep b0.drew b0.size hb5; have SM5 : w5.cell? ⟨w.heap.size, 4, none⟩ = some (.slice AL l.length cL) := (hb5.cell hlt).trans x4))
    all_goals
      go_wp2_with (fail)
      go_ret
      exact ⟨ret_b HF.out, L5⟩
  · have HF : Hid (Num.isAt l x t = false) := Lib.hid (by unfold Num.isAt; rw [decide_eq_false hle]; rfl)
    have k1 : ¬ (t : Int) + (l.length : Int) ≤ (x.length : Int) := by omega
    have k2 : decide ((t : Int) + (l.length : Int) ≤ (x.length : Int)) = false := decide_eq_false k1
    clear h hL
    generalize hW0 : (w.alloc (.cells #[vv, .int .i64 g, .int .i64 b, .int .i64 o, .slice AL l.length cL, .slice AR nR cR] 91)) = W0 at *
    have x4 := BX.cell 4 (by simp)
    simp only [List.getElem_cons_succ, List.getElem_cons_zero] at x4
    go_enter Try.func122, Try.ntmps122
    go_wp2_with (fail)
    clear hW0
    go_quiet (fail)
    go_wp2_with (fail)
    go_ret
    exact ⟨ret_b HF.out.symm, below_drewN b0 _⟩
set_option maxRecDepth 100000 in
set_option maxHeartbeats 2000000 in
theorem stepAt_any (vv : Value) (g b o : Int) (AL AR A : Option Addr) (cL cR c t : Nat) (l r x : List Int) (w : World) (f0 : vv.oneCell' = true) (hL : RdI w AL l) (hR : RdI w AR r) (h : RdI w A x) (hl : x.length ≤ 500) (hc : x.length ≤ c) (hll : l.length ≤ 100) (hrl : r.length ≤ 400) (ht : t + l.length ≤ x.length) :
    Calls Try.prog 116 #[.agg #[vv, .int .i64 g, .int .i64 b, .int .i64 o, .slice AL l.length cL, .slice AR r.length cR], .slice A x.length c, .int .i64 (t : Int)] w fun e w' => ∃ u, e = .returned u ∧ OwnI w' w.heap.size u (x.take t ++ r ++ x.drop (t + l.length)) ∧ Below w.heap.size w w' := by
  have b0 : Below w.heap.size w (w.alloc (.cells #[vv, .int .i64 g, .int .i64 b, .int .i64 o, .slice AL l.length cL, .slice AR r.length cR] 91)) := by go_grown
  have BX := (Blk.new w [vv, .int .i64 g, .int .i64 b, .int .i64 o, .slice AL l.length cL, .slice AR r.length cR] 91)
  have t0 : (0 : Int) ≤ (t : Int) := by omega
  have t1 : (t : Int) ≤ (x.length : Int) := by omega
  have t2 : (t : Int) ≤ (c : Int) := by omega
  have tl : IntKind.i64.wrap ((t : Int) + (l.length : Int)) = (t : Int) + (l.length : Int) := IntWalk.i64_in _ (by omega)
  have k1 : (t : Int) + (l.length : Int) ≤ (x.length : Int) := by omega
  have k4 : (t : Int) + (l.length : Int) ≤ (c : Int) := by omega
  have k5 : (0 : Int) ≤ (t : Int) + (l.length : Int) := by omega
  have k5' : ¬ ((t : Int) + (l.length : Int) < 0) := by omega
  have k6 : ((t : Int) + (l.length : Int)).toNat = t + l.length := by omega
  have k7 : (x.length : Int) ≤ (c : Int) := by omega
  have ltk : (x.take t).length = t := by rw [List.length_take]; omega
  have ldr : (x.drop (t + l.length)).length = x.length - (t + l.length) := List.length_drop
  have HT : Hid (∀ W', Below w.heap.size w W' → RdI W' A (x.take t)) := Lib.hid fun W' hb => rdI_takeN (h.below' hb) _
  have HD : Hid (∀ W', Below w.heap.size w W' → RdI W' (if c = t + l.length then A else A.map fun p => p.add (t + l.length)) (x.drop (t + l.length))) := Lib.hid fun W' hb => rdI_dropN (h.below' hb) hc
  obtain ⟨AD, hAD⟩ : ∃ AD, (if c = t + l.length then A else A.map fun p => p.add (t + l.length)) = AD := ⟨_, rfl⟩
  rw [hAD] at HD
  have HRR : Hid (∀ W', Below w.heap.size w W' → RdI W' AR r) := Lib.hid fun W' hb => hR.below' hb
  generalize hW0 : (w.alloc (.cells #[vv, .int .i64 g, .int .i64 b, .int .i64 o, .slice AL l.length cL, .slice AR r.length cR] 91)) = W0 at *
  have x4 := BX.cell 4 (by simp)
  have x5 := BX.cell 5 (by simp)
  have hlt := BX.lt
  simp only [List.getElem_cons_succ, List.getElem_cons_zero] at x4 x5
  have HC : Hid (∀ (vb : Nat) (W' : World), Below W0.heap.size W0 W' → W'.cell? ⟨vb, 0, none⟩ = some (.slice A t c) → W'.cell? ⟨vb, 1, none⟩ = some (.slice AR r.length cR) → W'.cell? ⟨vb, 2, none⟩ = some (.slice AD (x.length - (t + l.length)) (c - (t + l.length))) →
      Calls Try.prog 95 #[.slice (some ⟨vb, 0, none⟩) 3 3] W' fun e w' => ∃ v, e = .returned v ∧ OwnI w' W'.heap.size v (x.take t ++ r ++ x.drop (t + l.length)) ∧ Below W'.heap.size W' w') := Lib.hid fun vb W' hb y0 y1 y2 => by
    have hb' := bstep b0 b0.size hb
    exact concat3_any _ _ _ (x.take t) r (x.drop (t + l.length)) vb W' ⟨A, c, by rw [ltk], by rw [ltk]; unfold maxLen; omega, HT.out W' hb'⟩ ⟨AR, cR, rfl, by unfold maxLen; omega, HRR.out W' hb'⟩ ⟨AD, _, by rw [ldr], by rw [ldr]; unfold maxLen; omega, HD.out W' hb'⟩ (by omega) y0 y1 y2
  clear h hL hR HD HT HRR
  go_enter Try.func116, Try.ntmps116
  go_wp2_with (fail)
  clear hW0
  go_region_held3 (fun wx => wx.cell? ⟨w.heap.size, 4, none⟩ = some (.slice AL l.length cL) ∧ wx.cell? ⟨w.heap.size, 5, none⟩ = some (.slice AR r.length cR)) (first | go_keep | assumption) (first
    | (go_at_call 95; have BW5 : Below W0.heap.size W0 ((W0.alloc (.cells #[.slice A t c, .slice AR r.length cR, .slice AD (x.length - (t + l.length)) (c - (t + l.length))] 24)).drew) := ((Below.refl _ _).alloc (Nat.le_refl _) _).drew; have BK := ((Blk.new W0 [.slice A t c, .slice AR r.length cR, .slice AD (x.length - (t + l.length)) (c - (t + l.length))] 24).drew).c3; (with_reducible refine (HC.out W0.heap.size _ BW5 BK.2.1 BK.2.2.1 BK.2.2.2).mono ?_); rintro e w5 ⟨u5, rfl, ow5, hb5⟩; have L5 := bstep BW5 BW5.size hb5; have hz5 := BW5.size; have SM5 : w5.cell? ⟨w.heap.size, 4, none⟩ = some (.slice AL l.length cL) ∧ w5.cell? ⟨w.heap.size, 5, none⟩ = some (.slice AR r.length cR) := ⟨(L5.cell hlt).trans x4, (L5.cell hlt).trans x5⟩))
  all_goals
    go_wp2_with (fail)
    go_ret
    exact ⟨_, rfl, ow5.base_ (Nat.le_trans b0.size hz5), bstep b0 b0.size L5⟩
end Go.Proofs.Ytahmhdpgdhfjnaa
