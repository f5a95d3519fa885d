/- Presentations: IsExponentVector, PresentationOrder, NormalWord. -/
import Derived.Test.YtahmhdpgdhfjnaaL11G
import Derived.Test.YtahmhdpgdhfjnaaL10F
namespace Go.Proofs.Ytahmhdpgdhfjnaa
open Go.RowKit
set_option linter.unusedVariables false
set_option linter.unusedSimpArgs false

/-- The result of IsExponentVector, of PresentationOrder, of NormalWord. -/
def rIsExponentVector (p : Pres) (e : List Int) : Bool := p.ok && Num.fitB p.O e 0
def rPresentationOrder (p : Pres) : Int := if p.ok = true then Num.prodZ p.O else 0
def cPresentationOrder (p : Pres) : Int := if p.ok = true then 0 else 1
def Num.wrdTo (v : List Int) : Nat → List Int
  | 0 => []
  | i + 1 => Num.wrdTo v i ++ List.replicate (v.getD i 0).toNat ((i : Int) + 1)
def Num.wrd (v : List Int) : List Int := Num.wrdTo v v.length
def rNormalWord (p : Pres) (e : List Int) : List Int := if rIsExponentVector p e = true then Num.wrd e else []
def cNormalWord (p : Pres) (e : List Int) : Int := if rIsExponentVector p e = true then 0 else 1
theorem Num.wrdTo_len (v : List Int) (h : ∀ j, j < v.length → 0 ≤ v.getD j 0 ∧ v.getD j 0 ≤ 64) : ∀ i, i ≤ v.length → (Num.wrdTo v i).length ≤ 64 * i
  | 0, _ => by simp [Num.wrdTo]
  | i + 1, hi => by
    have h1 := Num.wrdTo_len v h i (by omega)
    have h2 := h i (by omega)
    rw [Num.wrdTo, List.length_append, List.length_replicate]
    omega
theorem Pres.ok_out {p : Pres} (h : p.ok = true) : p.O.length ≤ 6 ∧ Num.gpsB p.O = true ∧ Num.prodZ p.O ≤ 729 := Num.ordC_zero (Num.preB_out h).1
theorem Pres.fit_bd {p : Pres} {e : List Int} (h : rIsExponentVector p e = true) : p.ok = true ∧ Num.fitB p.O e 0 = true ∧ e.length ≤ 6 ∧ ∀ j, j < e.length → 0 ≤ e.getD j 0 ∧ e.getD j 0 ≤ 64 := by
  unfold rIsExponentVector at h
  simp only [Bool.and_eq_true] at h
  obtain ⟨h1, h2⟩ := h
  obtain ⟨h3, h4, -⟩ := Pres.ok_out h1
  obtain ⟨h5, h6⟩ := Num.fitB_out h2
  refine ⟨h1, h2, by omega, fun j hj => ?_⟩
  have a := h6 j hj
  unfold Num.Fit at a
  have b := Num.gpsB_at h4 (j := j) (by omega)
  exact ⟨a.1, by omega⟩

set_option maxHeartbeats 1000000 in
theorem sIsExp_any (v0 v1 : Value) (p : Pres) (e : List Int) (w : World) (h0 : spPres.rd w v0 p) (h1 : spI.rd w v1 e) : Calls Try.prog 92 #[v0, v1] w (RetB (rIsExponentVector p e) w) := by
  have h0' := h0
  obtain ⟨A0, c0, A1, c1, A2, c2, rfl, ⟨hO, -, -⟩, m0, -, -⟩ := pres_open h0
  obtain ⟨B, d, rfl, hl, hB⟩ := h1
  have b0 : Below w.heap.size w (w.alloc (.cells #[.slice A0 p.O.length c0, .slice A1 p.W.length c1, .slice A2 p.J.length c2] 28)) := by go_grown
  have HI := Lib.hid (sIsPres_any _ p _ (spPres.rd_below h0' b0))
  cases hk : p.ok with
  | true =>
    rw [hk] at HI
    obtain ⟨h6, hg, -⟩ := Pres.ok_out hk
    have HR : Hid (rIsExponentVector p e = Num.fitB p.O e 0) := Lib.hid (by unfold rIsExponentVector; rw [hk]; rfl)
    have HX : Hid (∀ W, Below (w.alloc (.cells #[.slice A0 p.O.length c0, .slice A1 p.W.length c1, .slice A2 p.J.length c2] 28)).heap.size (w.alloc (.cells #[.slice A0 p.O.length c0, .slice A1 p.W.length c1, .slice A2 p.J.length c2] 28)) W →
        Calls Try.prog 109 #[.slice A0 p.O.length c0, .slice B e.length d, .int .i64 (-1)] W fun e' w' => e' = .returned (.bool (Num.fitB p.O e 0)) ∧ ∃ m, w' = W.drewN m) := Lib.hid fun W hb =>
      sExp_any A0 B c0 d p.O e 0 (-1) W ((hO.below' b0).below' hb) ((hB.below' b0).below' hb) m0 hl (fun j hj => by have := Num.gpsB_at hg hj; omega) (by omega)
    have BX := (Blk.new w [.slice A0 p.O.length c0, .slice A1 p.W.length c1, .slice A2 p.J.length c2] 28)
    clear hO hB hg h0 h0' hk
    go_enter Try.func92, Try.ntmps92
    go_wp2_with (fail)
    refine HI.out.mono ?_; rintro e' w1 ⟨rfl, hb1⟩
    obtain ⟨bl, x0, -, -⟩ := (BX.below hb1).c3
    have HX1 := Lib.hid (HX.out w1 hb1)
    clear HI HX BX
    have L := bstep b0 b0.size hb1
    clear hb1
    go_wp2_with (fail)
    refine HX1.out.mono ?_; rintro e' w2 ⟨rfl, m, rfl⟩
    go_wp2_with (fail)
    go_ret
    exact ⟨ret_b HR.out.symm, below_drewN L m⟩
  | false =>
    rw [hk] at HI
    have HR : Hid (rIsExponentVector p e = false) := Lib.hid (by unfold rIsExponentVector; rw [hk]; rfl)
    clear hO hB h0 h0' hk
    go_enter Try.func92, Try.ntmps92
    go_wp2_with (fail)
    refine HI.out.mono ?_; rintro e' w1 ⟨rfl, hb1⟩
    go_wp2_with (fail)
    go_ret
    exact ⟨ret_b HR.out.symm, bstep b0 b0.size hb1⟩
set_option maxHeartbeats 1000000 in
theorem iIsExp_any (v0 v1 : Value) (p : Pres) (e : List Int) (w : World) (h0 : PresC w v0 p) (h1 : spI.rd w v1 e) : Calls Try.prog 94 #[v0, v1] w (RetB (rIsExponentVector p e) w) := by
  have h0' := h0
  obtain ⟨A0, c0, A1, c1, A2, c2, rfl, ⟨hO, -, -⟩, m0, -, -, -⟩ := h0
  obtain ⟨B, d, rfl, hl, hB⟩ := h1
  have b0 : Below w.heap.size w (w.alloc (.cells #[.slice A0 p.O.length c0, .slice A1 p.W.length c1, .slice A2 p.J.length c2] 28)) := by go_grown
  have HI := Lib.hid (iIsPres_any _ p _ (h0'.below b0))
  cases hk : p.ok with
  | true =>
    rw [hk] at HI
    have HR : Hid (rIsExponentVector p e = Num.blwB e p.O) := Lib.hid (by unfold rIsExponentVector; rw [hk, Num.blw_fit0]; rfl)
    have HX : Hid (∀ W, Below (w.alloc (.cells #[.slice A0 p.O.length c0, .slice A1 p.W.length c1, .slice A2 p.J.length c2] 28)).heap.size (w.alloc (.cells #[.slice A0 p.O.length c0, .slice A1 p.W.length c1, .slice A2 p.J.length c2] 28)) W →
        Calls Try.prog 113 #[.slice B e.length d, .slice A0 p.O.length c0] W fun e' w' => e' = .returned (.bool (Num.blwB e p.O)) ∧ W = w') := Lib.hid fun W hb =>
      isBelow_any B A0 d c0 e p.O W ((hB.below' b0).below' hb) ((hO.below' b0).below' hb) hl m0
    have BX := (Blk.new w [.slice A0 p.O.length c0, .slice A1 p.W.length c1, .slice A2 p.J.length c2] 28)
    clear hO hB h0' hk
    go_enter Try.func94, Try.ntmps94
    go_wp2_with (fail)
    refine HI.out.mono ?_; rintro e' w1 ⟨rfl, hb1⟩
    obtain ⟨bl, x0, -, -⟩ := (BX.below hb1).c3
    have HX1 := Lib.hid (HX.out w1 hb1)
    clear HI HX BX
    have L := bstep b0 b0.size hb1
    clear hb1
    go_wp2_with (fail)
    refine HX1.out.mono ?_; rintro e' w2 ⟨rfl, rfl⟩
    go_wp2_with (fail)
    go_ret
    exact ⟨ret_b HR.out.symm, L⟩
  | false =>
    rw [hk] at HI
    have HR : Hid (rIsExponentVector p e = false) := Lib.hid (by unfold rIsExponentVector; rw [hk]; rfl)
    clear hO hB h0' hk
    go_enter Try.func94, Try.ntmps94
    go_wp2_with (fail)
    refine HI.out.mono ?_; rintro e' w1 ⟨rfl, hb1⟩
    go_wp2_with (fail)
    go_ret
    exact ⟨ret_b HR.out.symm, bstep b0 b0.size hb1⟩
theorem sIsExponentVector_ok (v0 : Value) (x0 : Pres) (v1 : Value) (x1 : List Int) (w : World) (h0 : spPres.rd w v0 x0) (h1 : spI.rd w v1 x1) (s0 : spPres.sz x0 ≤ 1048576) (s1 : spI.sz x1 ≤ 1048576) : Calls Try.prog 92 #[v0, v1] w (RetB (rIsExponentVector x0 x1) w) := sIsExp_any v0 v1 x0 x1 w h0 h1
theorem iIsExponentVector_ok (v0 : Value) (x0 : Pres) (v1 : Value) (x1 : List Int) (w : World) (h0 : PresC w v0 x0) (h1 : spI.rd w v1 x1) (s0 : spPres.sz x0 ≤ 1048576) (s1 : spI.sz x1 ≤ 1048576) : Calls Try.prog 94 #[v0, v1] w (RetB (rIsExponentVector x0 x1) w) := iIsExp_any v0 v1 x0 x1 w h0 h1

end Go.Proofs.Ytahmhdpgdhfjnaa
