/- Consistency: the model's l08Repeat. -/
import Derived.Test.YteappjgdcbploaaNumTy
import Derived.Test.YteappjgdcbploaaSame
namespace Go.Proofs.Yteappjgdcbploaa
open Go.RowKit
set_option linter.unusedVariables false
set_option linter.unusedSimpArgs false

section
variable (A0 A1 A2 : Option Addr) (c0 c1 c2 : Nat) (O : List Int) (W : List (List Int)) (J : List (List (List Int)))
def repV (i : Nat) (x : List Int) (k : Nat) : List Int := Num.zer i ++ Num.pw (Num.mulL (Num.tlL O W J i)) (Num.zer (O.length - i)) (x.drop i) k
end
set_option maxRecDepth 100000 in
set_option maxHeartbeats 4000000 in
theorem sRepO_any {A0 A1 A2 : Option Addr} {c0 c1 c2 : Nat} {O : List Int} {W : List (List Int)} {J : List (List (List Int))} (V : Num.Val O W J) (i : Nat) (hi : i ≤ O.length) (C : Num.Con (Num.tlL O W J i))
    (w : World) (x : List Int) (X : Option Addr) (cx : Nat) (k : Int) (hP : RdP A0 A1 A2 O W J w) (hX : RdI w X x) (hxl : x.length = O.length) (hxe : Num.El (Num.tlL O W J i) (x.drop i)) (hk0 : 0 ≤ k) (hk : k ≤ 1000000) :
    Calls Try.prog 112 #[prV A0 A1 A2 c0 c1 c2 O, .int .i64 (i : Int), .slice X O.length cx, .int .i64 k] w (VecO O (repV O W J i x k.toNat) w) := by
  obtain ⟨iT, hiT, hz0, hz1, hz2⟩ := info_parts infoI
  have n6 := V.n6
  have HV := Lib.hid V
  have HA : Hid (AtOkO A0 A1 A2 c0 c1 c2 O W J i) := Lib.hid (sAtO_any V i hi)
  have HM := Lib.hid (Num.Con.mon' V C)
  have b0 : Below w.heap.size w (w.alloc (.cells #[.slice A0 O.length c0, .slice A1 O.length c1, .slice A2 O.length c2] 29)) := by go_grown
  have BX := (Blk.new w [.slice A0 O.length c0, .slice A1 O.length c1, .slice A2 O.length c2] 29).c3
  have HPW : Hid (∀ w', Below w.heap.size w w' → RdP A0 A1 A2 O W J w' ∧ RdI w' X x) := Lib.hid fun w' hb => ⟨⟨hP.1.below' hb, hP.2.1.below' hb, hP.2.2.below' hb⟩, hX.below' hb⟩
  have HXE := Lib.hid hxe
  have HXL := Lib.hid hxl
  clear hP hX hxe hxl V C
  generalize hW0 : (w.alloc (.cells #[.slice A0 O.length c0, .slice A1 O.length c1, .slice A2 O.length c2] 29)) = W0 at *
  obtain ⟨bl, bx0, bx1, bx2⟩ := BX
  have z0 := b0.size
  unfold VecO repV
  go_enter Try.func112, Try.ntmps112
  go_wp2_with (first | (at_make; refine wpList_make_full _ rfl (.tmp 13) (.tmp 13) 22 rfl w.heap.size 2 iT (.int .i64 0) 1 Try.underlying22 hiT hz0 hz1 .i64 .i64 (O.length : Int) (O.length : Int) O.length rfl rfl rfl rfl (by rw [hz2]; omega) (by unfold maxLen; omega) z0 ?_; intro w1 own1 gr1; have o1 := madeZ own1))
  have B1 : Below w.heap.size w w1 := b0.grown gr1 z0 (fun k hk => by simp at hk)
  have BL1 : Below W0.heap.size W0 w1 := (Below.refl _ _).grown gr1 (Nat.le_refl _) (fun k hk => by simp at hk)
  have R1 := Lib.hid o1
  have RX1 := Lib.hid (HPW.out _ B1).2
  clear own1 gr1 o1
  go_loopw [3, 9, 10] (fun s3 s9 s10 wr => ∃ (t : Int) (u v : List Int) (A B : Option Addr) (c d : Nat), s3 = .int .i64 t ∧ s9 = .slice A O.length c ∧ s10 = .slice B O.length d ∧ 0 ≤ t ∧ t ≤ k ∧ Hid (OwnI wr w.heap.size (.slice A O.length c) (Num.zer i ++ u)) ∧ Hid (RdI wr B v) ∧ Hid (v.length = O.length) ∧ Hid (Num.El (Num.tlL O W J i) u) ∧ Hid (Num.El (Num.tlL O W J i) (v.drop i)) ∧
    Hid (Num.mulL (Num.tlL O W J i) u (Num.pw (Num.mulL (Num.tlL O W J i)) (Num.zer (O.length - i)) (v.drop i) t.toNat) = Num.pw (Num.mulL (Num.tlL O W J i)) (Num.zer (O.length - i)) (x.drop i) k.toNat) ∧ Below W0.heap.size W0 wr ∧ Below w.heap.size w wr) (fun s3 _ _ _ => (intOf s3).toNat)
  case atStart =>
    refine ⟨k, Num.zer (O.length - i), x, _, X, _, cx, rfl, rfl, rfl, hk0, by omega, Lib.hid ?_, RX1, HXL, Lib.hid HM.out.one, HXE, Lib.hid ?_, BL1, B1⟩
    · rw [← Num.rep_pad hi]; exact R1.out
    · exact HM.out.onel _ (HM.out.pw_P HXE.out _)
  case round =>
    clear BL1 B1 R1 RX1
    obtain ⟨t, u, v, A, B, c, d, rfl, rfl, rfl, ht0, ht, hR, hS, hSL, hU, hVe, hT, bl0, blw⟩ := hrel
    have y0 : wr.cell? ⟨w.heap.size, 0, none⟩ = some (.slice A0 O.length c0) := by rw [bl0.cell bl]; exact bx0
    have y1 : wr.cell? ⟨w.heap.size, 1, none⟩ = some (.slice A1 O.length c1) := by rw [bl0.cell bl]; exact bx1
    have y2 : wr.cell? ⟨w.heap.size, 2, none⟩ = some (.slice A2 O.length c2) := by rw [bl0.cell bl]; exact bx2
    by_cases htl : 0 < t
    · have HUL : Hid ((Num.zer i ++ u).length = O.length) := Lib.hid (Num.pad_len (HV.out.ok _) hU.out hi)
      have hm : t.tmod 2 = t % 2 := Int.tmod_eq_emod_of_nonneg (by omega)
      have hd : t.tdiv 2 = t / 2 := Int.tdiv_eq_ediv_of_nonneg (by omega)
      have hw : IntKind.i64.wrap (t / 2) = t / 2 := IntWalk.i64_in _ (by omega)
      have hw' : IntKind.i64.wrap (t % 2) = t % 2 := IntWalk.i64_in _ (by omega)
      have HVV : Hid (Num.El (Num.tlL O W J i) ((Num.atV O W J i v v).drop i) ∧ (Num.atV O W J i v v).length = O.length ∧ (Num.atV O W J i v v).drop i = Num.mulL (Num.tlL O W J i) (v.drop i) (v.drop i)) := Lib.hid (by
        have := Num.El.mul (HV.out.ok i) hVe.out hVe.out
        refine ⟨?_, ?_, ?_⟩
        · unfold Num.atV; rw [Num.pad_drop]; exact this
        · exact Num.pad_len (HV.out.ok _) this hi
        · unfold Num.atV; rw [Num.pad_drop])
      have HC2 : Hid (∀ W', Below wr.heap.size wr W' → Calls Try.prog 107 #[prV A0 A1 A2 c0 c1 c2 O, .int .i64 (i : Int), .slice B O.length d, .slice B O.length d] W' (VecO O (Num.atV O W J i v v) W')) := Lib.hid fun W' hb => HA.out W' v v B B d d (HPW.out _ (bstep blw blw.size hb)).1 (hS.out.below' hb) (hS.out.below' hb) hSL.out hSL.out hVe.out hVe.out
      unfold VecO at HC2
      by_cases ho : t % 2 = 1
      · have HC1 : Hid (Calls Try.prog 107 #[prV A0 A1 A2 c0 c1 c2 O, .int .i64 (i : Int), .slice A O.length c, .slice B O.length d] wr (VecO O (Num.zer i ++ Num.mulL (Num.tlL O W J i) u (v.drop i)) wr)) := Lib.hid (by
          have := HA.out wr (Num.zer i ++ u) v A B c d (HPW.out _ blw).1 hR.out.reads hS.out HUL.out hSL.out (by rw [Num.pad_drop]; exact hU.out) hVe.out
          unfold Num.atV at this
          rwa [Num.pad_drop] at this)
        have HE2 : Hid (Num.El (Num.tlL O W J i) (Num.mulL (Num.tlL O W J i) u (v.drop i))) := Lib.hid (Num.El.mul (HV.out.ok i) hU.out hVe.out)
        have HT2 : Hid (Num.mulL (Num.tlL O W J i) (Num.mulL (Num.tlL O W J i) u (v.drop i)) (Num.pw (Num.mulL (Num.tlL O W J i)) (Num.zer (O.length - i)) ((Num.atV O W J i v v).drop i) (t / 2).toNat) = Num.pw (Num.mulL (Num.tlL O W J i)) (Num.zer (O.length - i)) (x.drop i) k.toNat) := Lib.hid (by
          rw [HVV.out.2.2, ← hT.out, show t.toNat = 2 * (t / 2).toNat + 1 by omega, HM.out.pw_odd hVe.out, HM.out.assoc _ _ _ hU.out hVe.out (HM.out.pw_P (HM.out.op _ _ hVe.out hVe.out) _)])
        have HVE2 := Lib.hid HVV.out.1
        have HVL2 := Lib.hid HVV.out.2.1
        unfold VecO at HC1
        generalize Num.mulL (Num.tlL O W J i) u (v.drop i) = u2 at *
        generalize Num.atV O W J i v v = v2 at *
        clear hR hU hVe hT HVV HUL hSL
        go_wp2_with (fail)
        refine HC1.out.mono ?_; rintro e w2 ⟨A2', c2', rfl, hR2, hb2⟩
        have L2 := bstep bl0 bl0.size hb2
        have M2 := bstep blw blw.size hb2
        have HC3 := Lib.hid (HC2.out _ hb2)
        have HR2 := Lib.hid (hR2.base_ blw.size)
        have y0 : w2.cell? ⟨w.heap.size, 0, none⟩ = some (.slice A0 O.length c0) := by rw [L2.cell bl]; exact bx0
        have y1 : w2.cell? ⟨w.heap.size, 1, none⟩ = some (.slice A1 O.length c1) := by rw [L2.cell bl]; exact bx1
        have y2 : w2.cell? ⟨w.heap.size, 2, none⟩ = some (.slice A2 O.length c2) := by rw [L2.cell bl]; exact bx2
        clear HC1 HC2 hR2 hb2
        go_wp2_with (fail)
        refine HC3.out.mono ?_; rintro e w3 ⟨A3, c3, rfl, hR3, hb3⟩
        have L3 := bstep L2 L2.size hb3
        have M3 := bstep M2 M2.size hb3
        have HR3 := Lib.hid hR3.reads
        have HR2' := Lib.hid (HR2.out.below hb3)
        clear HC3 hR3 hb3 HR2
        go_wp2_with (fail)
        exact ⟨⟨t / 2, u2, v2, A2', A3, c2', c3, rfl, rfl, rfl, by omega, by omega, HR2', HR3, HVL2, HE2, HVE2, HT2, L3, M3⟩, by simp [intOf]; omega⟩
      · have HT2 : Hid (Num.mulL (Num.tlL O W J i) u (Num.pw (Num.mulL (Num.tlL O W J i)) (Num.zer (O.length - i)) ((Num.atV O W J i v v).drop i) (t / 2).toNat) = Num.pw (Num.mulL (Num.tlL O W J i)) (Num.zer (O.length - i)) (x.drop i) k.toNat) := Lib.hid (by
          rw [HVV.out.2.2, ← hT.out, show t.toNat = 2 * (t / 2).toNat by omega, HM.out.pw_two hVe.out])
        have HVE2 := Lib.hid HVV.out.1
        have HVL2 := Lib.hid HVV.out.2.1
        have HC3 := Lib.hid (HC2.out _ (Below.refl _ _))
        generalize Num.atV O W J i v v = v2 at *
        clear hVe hT HVV HUL hSL HC2
        go_wp2_with (fail)
        refine HC3.out.mono ?_; rintro e w3 ⟨A3, c3, rfl, hR3, hb3⟩
        have L3 := bstep bl0 bl0.size hb3
        have M3 := bstep blw blw.size hb3
        have HR3 := Lib.hid hR3.reads
        have HR2' := Lib.hid (hR.out.below hb3)
        clear HC3 hR3 hb3 hR
        go_wp2_with (fail)
        exact ⟨⟨t / 2, u, v2, A, A3, c, c3, rfl, rfl, rfl, by omega, by omega, HR2', HR3, HVL2, hU, HVE2, HT2, L3, M3⟩, by simp [intOf]; omega⟩
    · have HF : Hid (Num.zer i ++ u = Num.zer i ++ Num.pw (Num.mulL (Num.tlL O W J i)) (Num.zer (O.length - i)) (x.drop i) k.toNat) := Lib.hid (by
        rw [← hT.out, show t.toNat = 0 by omega]
        congr 1
        exact (HM.out.oner _ hU.out).symm)
      clear hT hU hVe
      go_wp2_with (fail)
      go_ret
      exact ⟨A, c, rfl, by rw [← HF.out]; exact hR.out, blw⟩
theorem sRep_any {A0 A1 A2 : Option Addr} {c0 c1 c2 : Nat} {O : List Int} {W : List (List Int)} {J : List (List (List Int))} (V : Num.Val O W J) (i : Nat) (hi : i ≤ O.length) (C : Num.Con (Num.tlL O W J i))
    (w : World) (x : List Int) (X : Option Addr) (cx : Nat) (k : Int) (hP : RdP A0 A1 A2 O W J w) (hX : RdI w X x) (hxl : x.length = O.length) (hxe : Num.El (Num.tlL O W J i) (x.drop i)) (hk0 : 0 ≤ k) (hk : k ≤ 1000000) :
    Calls Try.prog 112 #[prV A0 A1 A2 c0 c1 c2 O, .int .i64 (i : Int), .slice X O.length cx, .int .i64 k] w (VecOut O (repV O W J i x k.toNat) w) :=
  (sRepO_any V i hi C w x X cx k hP hX hxl hxe hk0 hk).mono fun e w' ⟨A', c, h8, h9, h10⟩ => ⟨A', c, h8, h9.reads, h10⟩
end Go.Proofs.Yteappjgdcbploaa
