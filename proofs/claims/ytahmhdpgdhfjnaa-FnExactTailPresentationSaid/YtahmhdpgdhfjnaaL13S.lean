/- TailPresentation of the program. -/
import Derived.Test.YtahmhdpgdhfjnaaL13R
import Derived.Test.YtahmhdpgdhfjnaaL11G
import Derived.Handy
namespace Go.Proofs.Ytahmhdpgdhfjnaa
open Go.RowKit
set_option linter.unusedVariables false
set_option linter.unusedSimpArgs false

def Pres.tpC (p : Pres) (I : Int) : Int := if p.ok = true then (if 0 ≤ I ∧ I ≤ (p.O.length : Int) then 0 else 2) else 1
def rTailPresentation (p : Pres) (I : Int) : Pres := if p.tpC I = 0 then partP p.O p.W p.J I.toNat p.O.length else noPres
def cTailPresentation (p : Pres) (I : Int) : Int := p.tpC I
theorem noPres_set' {w W : World} (L : Below w.heap.size w W) {b : Nat} (hb : w.heap.size ≤ b) (c : Int) (u0 u1 u2 : Value) : MadeC spPres noPres c w (.returned (.tuple #[.agg #[.slice none 0 0, .slice none 0 0, .slice none 0 0], .int .i64 c])) (((W.setCell ⟨b, 0, none⟩ u0).setCell ⟨b, 1, none⟩ u1).setCell ⟨b, 2, none⟩ u2) :=
  MadeC.noPres (((L.setCell (p := ⟨b, 0, none⟩) hb _).setCell (p := ⟨b, 1, none⟩) hb _).setCell (p := ⟨b, 2, none⟩) hb _)
/-- A presentation of new memory, stored into the result's box. -/
theorem madeC_set {w W : World} {u0 u1 u2 : Value} {S : Nat → Prop} {x : Pres} {b : Nat} (own : spPres.own W S (.agg #[u0, u1, u2]) x) (hS : ∀ k, S k → w.heap.size ≤ k ∧ k ≠ b) (hc : spPres.cnt x ≤ 1000000000) (L : Below w.heap.size w W) (hb : w.heap.size ≤ b) (c : Int) (y0 y1 y2 : Value) :
    MadeC spPres x c w (.returned (.tuple #[.agg #[u0, u1, u2], .int .i64 c])) (((W.setCell ⟨b, 0, none⟩ y0).setCell ⟨b, 1, none⟩ y1).setCell ⟨b, 2, none⟩ y2) := by
  have nb : ¬ S b := fun hh => (hS b hh).2 rfl
  refine ⟨_, S, rfl, ?_, fun k hk => (hS k hk).1, hc, ?_⟩
  · exact spPres.own_set (spPres.own_set (spPres.own_set own (p := ⟨b, 0, none⟩) nb _) (p := ⟨b, 1, none⟩) nb _) (p := ⟨b, 2, none⟩) nb _
  · exact ((L.setCell (p := ⟨b, 0, none⟩) hb _).setCell (p := ⟨b, 1, none⟩) hb _).setCell (p := ⟨b, 2, none⟩) hb _
theorem isTailIx_any (A0 : Option Addr) (c0 n : Nat) (v1 v2 : Value) (i : Int) (w : World) (f1 : v1.oneCell' = true) (f2 : v2.oneCell' = true) (A1 A2 : Option Addr) (n1 c1 n2 c2 : Nat) (e1 : v1 = .slice A1 n1 c1) (e2 : v2 = .slice A2 n2 c2) :
    Calls Try.prog 58 #[.agg #[.slice A0 n c0, v1, v2], .int .i64 i] w fun e w' => e = .returned (.bool (decide (0 ≤ i ∧ i ≤ (n : Int)))) ∧ Below w.heap.size w w' := by
  subst e1 e2
  have b0 : Below w.heap.size w (w.alloc (.cells #[.slice A0 n c0, .slice A1 n1 c1, .slice A2 n2 c2] 28)) := by go_grown
  obtain ⟨bl, x0, x1, x2⟩ := (Blk.new w [.slice A0 n c0, .slice A1 n1 c1, .slice A2 n2 c2] 28).c3
  by_cases h1 : 0 ≤ i
  · by_cases h2 : i ≤ (n : Int)
    · have HF : Hid (decide (0 ≤ i ∧ i ≤ (n : Int)) = true) := Lib.hid (decide_eq_true ⟨h1, h2⟩)
      go_enter Try.func58, Try.ntmps58
      go_wp2_with (fail)
      go_ret
      exact ⟨by first | rfl | exact ret_b HF.out.symm, b0⟩
    · have HF : Hid (decide (0 ≤ i ∧ i ≤ (n : Int)) = false) := Lib.hid (decide_eq_false fun h => h2 h.2)
      have h2' : decide (i ≤ (n : Int)) = false := decide_eq_false h2
      go_enter Try.func58, Try.ntmps58
      go_wp2_with (fail)
      go_ret
      exact ⟨by first | rfl | exact ret_b HF.out.symm, b0⟩
  · have HF : Hid (decide (0 ≤ i ∧ i ≤ (n : Int)) = false) := Lib.hid (decide_eq_false fun h => h1 h.1)
    have h2' : decide (0 ≤ i) = false := decide_eq_false h1
    go_enter Try.func58, Try.ntmps58
    go_wp2_with (fail)
    go_ret
    exact ⟨by first | rfl | exact ret_b HF.out.symm, b0⟩
set_option maxRecDepth 100000 in
set_option maxHeartbeats 4000000 in
theorem iTailPresentation_ok (v0 : Value) (p : Pres) (I : Int) (w : World) (h0 : PresK w v0 p) (s0 : spPres.sz p ≤ 1048576) : Calls Try.prog 20 #[v0, .int .i64 I] w (MadeC spPres (rTailPresentation p I) (cTailPresentation p I) w) := by
  obtain ⟨O, W, J⟩ := p
  have h0' := h0
  obtain ⟨A0, c0, A1, c1, A2, c2, rfl, ⟨hO, hW, hJ⟩, m0, m1, m2, hc0⟩ := h0
  replace hO : RdI w A0 O := hO
  replace hW : RdWK w A1 W := hW
  replace hJ : RdXM w A2 J := hJ
  replace hc0 : O.length ≤ c0 := hc0
  simp only at h0' m0 ⊢
  have b0 : Below w.heap.size w ((w.alloc (.cells #[.slice A0 O.length c0, .slice A1 W.length c1, .slice A2 J.length c2] 28)).alloc (.cells #[.slice none 0 0, .slice none 0 0, .slice none 0 0] 28)) := by go_grown
  have BX := (Blk.new w [.slice A0 O.length c0, .slice A1 W.length c1, .slice A2 J.length c2] 28).alloc (.cells #[.slice none 0 0, .slice none 0 0, .slice none 0 0] 28)
  have BR : Blk ((w.alloc (.cells #[.slice A0 O.length c0, .slice A1 W.length c1, .slice A2 J.length c2] 28)).alloc (.cells #[.slice none 0 0, .slice none 0 0, .slice none 0 0] 28)) (w.heap.size + 1) [.slice none 0 0, .slice none 0 0, .slice none 0 0] 28 := by
    have := Blk.new (w.alloc (.cells #[.slice A0 O.length c0, .slice A1 W.length c1, .slice A2 J.length c2] 28)) [.slice none 0 0, .slice none 0 0, .slice none 0 0] 28
    simpa using this
  have HI := Lib.hid (iIsPres_any _ ⟨O, W, J⟩ _ (h0'.c.below b0))
  have HT : Hid (∀ W', Calls Try.prog 58 #[.agg #[.slice A0 O.length c0, .slice A1 W.length c1, .slice A2 J.length c2], .int .i64 I] W' fun e w' => e = .returned (.bool (decide (0 ≤ I ∧ I ≤ (O.length : Int)))) ∧ Below W'.heap.size W' w') := Lib.hid fun W' => isTailIx_any A0 c0 O.length _ _ I W' rfl rfl A1 A2 _ c1 _ c2 rfl rfl
  have hz2 : ((w.alloc (.cells #[.slice A0 O.length c0, .slice A1 W.length c1, .slice A2 J.length c2] 28)).alloc (.cells #[.slice none 0 0, .slice none 0 0, .slice none 0 0] 28)).heap.size = w.heap.size + 2 := by simp
  generalize hW0 : ((w.alloc (.cells #[.slice A0 O.length c0, .slice A1 W.length c1, .slice A2 J.length c2] 28)).alloc (.cells #[.slice none 0 0, .slice none 0 0, .slice none 0 0] 28)) = W0 at *
  obtain ⟨bl, x0, x1, x2⟩ := BX.c3
  obtain ⟨br, r0, r1, r2⟩ := BR.c3
  obtain ⟨f0, f1, f2⟩ := BR.f3
  unfold RetB at HI
  cases hk : Pres.ok ⟨O, W, J⟩ with
  | true =>
    rw [hk] at HI
    have hpre : Num.preB O W J = true := hk
    have V := Num.Shp9.of hpre
    have h6 := V.n6
    by_cases hI : 0 ≤ I ∧ I ≤ (O.length : Int)
    · obtain ⟨i, rfl⟩ := Int.eq_ofNat_of_zero_le hI.1
      have hin : i ≤ O.length := by omega
      have hc : Pres.tpC ⟨O, W, J⟩ (i : Int) = 0 := by unfold Pres.tpC; rw [if_pos hk, if_pos hI]
      have HR : Hid (rTailPresentation ⟨O, W, J⟩ (i : Int) = partP O W J i O.length ∧ cTailPresentation ⟨O, W, J⟩ (i : Int) = 0) := Lib.hid ⟨if_pos hc, hc⟩
      have HPO : Hid (∀ W', Below w.heap.size w W' → _) := Lib.hid fun W' hb => partOf_any A0 A1 A2 c0 c1 c2 i O.length O W J W' (hO.below' hb) (hW.below' hb) (hJ.below' hb) V hin (Nat.le_refl _) hc0
      have HCNT := Lib.hid (partP_cnt V (a := i) (Nat.le_refl O.length))
      rw [decide_eq_true hI] at HT
      clear hO hW hJ hpre hk hI hc h0' V
      generalize partP O W J i O.length = y at *
      go_enter Try.func20, Try.ntmps20
      go_wp2_with (fail)
      clear hW0
      refine HI.out.mono ?_; rintro e w1 ⟨rfl, hb1⟩
      have L1 := bstep b0 b0.size hb1
      have BX1 := BX.below hb1
      have BR1 := BR.below hb1
      obtain ⟨bl1, y0, y1, y2⟩ := BX1.c3
      clear HI x0 x1 x2 bl br r0 r1 r2 f0 f1 f2
      go_wp2_with (fail)
      refine (HT.out w1).mono ?_; rintro e w2 ⟨rfl, hb2⟩
      have L2 := bstep L1 L1.size hb2
      have hsz := hb1.size
      have hsz2 := hb2.size
      obtain ⟨bl2, z0, z1, z2⟩ := (BX1.below hb2).c3
      have BR2 := BR1.below hb2
      have HC2 := Lib.hid (HPO.out w2 L2)
      clear HT HPO y0 y1 y2
      go_wp2_with (fail)
      refine HC2.out.mono ?_; rintro e w3 ⟨v, S, rfl, own, hS, hb3⟩
      have L3 := bstep L2 L2.size hb3
      obtain ⟨B0, n0, d0, B1, n1, d1, B2, n2, d2, rfl, -, -, -⟩ := spPres_form (spPres.own_rd own)
      have BR3 := BR2.below hb3
      obtain ⟨br, r0, r1, r2⟩ := BR3.c3
      obtain ⟨f0, f1, f2⟩ := BR3.f3
      have HOWN := Lib.hid own
      clear own HC2 BR1 BR2
      go_wp2_with (fail)
      refine bodyPost_ret (v := .tuple #[.agg #[.slice B0 n0 d0, .slice B1 n1 d1, .slice B2 n2 d2], .int .i64 0]) (by simp [results, Try.results20, go_sem, br, r0, r1, r2]) rfl ?_
      rw [HR.out.1, HR.out.2]
      exact madeC_set HOWN.out (fun k hk => by have := hS k hk; omega) HCNT.out L3 (by omega) _ _ _ _
    · have hc : Pres.tpC ⟨O, W, J⟩ I = 2 := by unfold Pres.tpC; rw [if_pos hk, if_neg hI]
      have HR : Hid (rTailPresentation ⟨O, W, J⟩ I = noPres ∧ cTailPresentation ⟨O, W, J⟩ I = 2) := Lib.hid ⟨by unfold rTailPresentation; rw [if_neg (by rw [hc]; omega)], hc⟩
      rw [decide_eq_false hI] at HT
      clear hO hW hJ hpre hk hI hc h0' V
      go_enter Try.func20, Try.ntmps20
      go_wp2_with (fail)
      clear hW0
      refine HI.out.mono ?_; rintro e w1 ⟨rfl, hb1⟩
      have L1 := bstep b0 b0.size hb1
      obtain ⟨bl1, y0, y1, y2⟩ := (BX.below hb1).c3
      have BR1 := BR.below hb1
      clear HI x0 x1 x2 bl br r0 r1 r2 f0 f1 f2
      go_wp2_with (fail)
      refine (HT.out w1).mono ?_; rintro e w2 ⟨rfl, hb2⟩
      have L2 := bstep L1 L1.size hb2
      have BR2 := BR1.below hb2
      obtain ⟨br, r0, r1, r2⟩ := BR2.c3
      obtain ⟨f0, f1, f2⟩ := BR2.f3
      go_wp2_with (fail)
      refine bodyPost_ret (v := .tuple #[.agg #[.slice none 0 0, .slice none 0 0, .slice none 0 0], .int .i64 2]) (by simp [results, Try.results20, go_sem, br, r0, r1, r2]) rfl ?_
      rw [HR.out.1, HR.out.2]
      exact noPres_set' L2 (by omega) _ _ _ _
  | false =>
    rw [hk] at HI
    have hc : Pres.tpC ⟨O, W, J⟩ I = 1 := by unfold Pres.tpC; rw [if_neg (by rw [hk]; simp)]
    have HR : Hid (rTailPresentation ⟨O, W, J⟩ I = noPres ∧ cTailPresentation ⟨O, W, J⟩ I = 1) := Lib.hid ⟨by unfold rTailPresentation; rw [if_neg (by rw [hc]; omega)], hc⟩
    clear hO hW hJ hk hc h0'
    go_enter Try.func20, Try.ntmps20
    go_wp2_with (fail)
    clear hW0
    refine HI.out.mono ?_; rintro e w1 ⟨rfl, hb1⟩
    have L1 := bstep b0 b0.size hb1
    have BR1 := BR.below hb1
    clear HI x0 x1 x2 bl br r0 r1 r2 f0 f1 f2
    obtain ⟨br, r0, r1, r2⟩ := BR1.c3
    obtain ⟨f0, f1, f2⟩ := BR1.f3
    go_wp2_with (fail)
    refine bodyPost_ret (v := .tuple #[.agg #[.slice none 0 0, .slice none 0 0, .slice none 0 0], .int .i64 1]) (by simp [results, Try.results20, go_sem, br, r0, r1, r2]) rfl ?_
    rw [HR.out.1, HR.out.2]
    exact noPres_set' L1 (by omega) _ _ _ _
end Go.Proofs.Ytahmhdpgdhfjnaa
