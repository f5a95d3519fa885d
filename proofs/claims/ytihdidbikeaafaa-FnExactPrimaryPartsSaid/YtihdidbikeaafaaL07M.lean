/- PrimaryParts of the program and of the model. -/
import Derived.Test.YtihdidbikeaafaaL07L
import Derived.Test.YtihdidbikeaafaaL01D
namespace Go.Proofs.Ytihdidbikeaafaa
open Go.RowKit
set_option linter.unusedVariables false
set_option linter.unusedSimpArgs false

theorem MadeC.list {w w' : World} {u : Value} {xs : List Int} {c : Int} {e : Ending} (h1 : e = .returned (.tuple #[u, .int .i64 c])) (h2 : OwnI w' w.heap.size u xs) (h3 : xs.length ≤ 1000000000) (h4 : Below w.heap.size w w') : MadeC spI xs c w e w' :=
  ⟨u, _, h1, spI_of h2, fun k hk => (World.ownsRow.lt h2 k hk).1, h3, h4⟩
def rPrimaryParts (x : Ab) : List Int := if x.ok = true then Num.partsL (Num.lastF x.F) x.F else []
def cPrimaryParts (x : Ab) : Int := if x.ok = true then 0 else 1
theorem Ab.pp_bad {x : Ab} (h : x.ok = false) : rPrimaryParts x = [] ∧ cPrimaryParts x = 1 := by unfold rPrimaryParts cPrimaryParts; simp [h]
theorem Ab.pp_ok {x : Ab} (h : x.ok = true) : rPrimaryParts x = Num.partsL (Num.lastF x.F) x.F ∧ cPrimaryParts x = 0 := by unfold rPrimaryParts cPrimaryParts; simp [h]
theorem Num.lastF_bd {F : List Int} (h : ∀ j, j < F.length → 2 ≤ F.getD j 0 ∧ F.getD j 0 ≤ 1000000) : 1 ≤ Num.lastF F ∧ Num.lastF F ≤ 1000000 := by
  unfold Num.lastF
  by_cases h0 : F.length = 0
  · rw [if_pos h0]; omega
  · rw [if_neg h0]
    have := h (F.length - 1) (by omega)
    omega
theorem Num.lastF_dvd {F : List Int} (h : Num.chainB F = true) : ∀ j, j < F.length → F.getD j 0 ∣ Num.lastF F := fun j hj => by
  unfold Num.lastF
  rw [if_neg (by omega)]
  exact Num.chain_dvd h j (F.length - 1) (by omega) (by omega)
theorem Ab.parts_is {x : Ab} (h : x.ok = true) {S : List Int} (hp : S.Perm (x.F.flatMap Num.ppart)) (hS : S.Pairwise Num.leP) : S = Num.partsL (Num.lastF x.F) x.F := by
  obtain ⟨-, -, -, h4, h5⟩ := Ab.ok_out h
  refine Num.partsL_is (Num.lastF_bd h4).1 (Num.mem_at (P := fun f => 1 ≤ f ∧ f ∣ Num.lastF x.F) fun j hj => ⟨by have := (h4 j hj).1; omega, Num.lastF_dvd h5 j hj⟩) (Num.chain_pairwise h5) hp hS
theorem Num.partsL_len {N : Int} {F : List Int} (hN : 1 ≤ N) (hN2 : N ≤ 1000000) (hF : F.length ≤ 10) : (Num.partsL N F).length ≤ 20000000 := by
  have h1 := Num.facP_len (d := 2) hN
  have := Num.partsAt_len (P := Num.facP 2 N) (F := F) (j := (Num.facP 2 N).length) (i := 0) hF (by omega)
  rwa [Num.partsAt_end] at this
set_option maxRecDepth 100000 in
set_option maxHeartbeats 1000000 in
theorem sPrimaryParts_any (v0 : Value) (x0 : Ab) (w : World) (h0 : spAb.rd w v0 x0) : Calls Try.prog 38 #[v0] w (MadeC spI (rPrimaryParts x0) (cPrimaryParts x0) w) := by
  obtain ⟨F, K⟩ := x0
  obtain ⟨_, rfl, A, c, rfl, hm, hA0⟩ := h0
  replace hA0 : RdI w A F := hA0
  replace hm : F.length ≤ maxLen := hm
  have L : Below w.heap.size w (w.alloc (.cells [.slice A F.length c, .int .i64 K].toArray 38)) := by go_grown
  have Ba : Blk (w.alloc (.cells [.slice A F.length c, .int .i64 K].toArray 38)) w.heap.size [.slice A F.length c, .int .i64 K] 38 := Blk.new w _ _
  have K0 := Lib.hid (spAb.rd_below (x := ⟨F, K⟩) (v := .agg #[.slice A F.length c, .int .i64 K]) ⟨_, rfl, A, c, rfl, hm, hA0⟩ L)
  cases hk : Ab.ok ⟨F, K⟩ with
  | false =>
    have HE := Lib.hid (Ab.pp_bad hk)
    have HC := Lib.hid (sIsAb_no _ _ _ K0.out hk)
    clear hk hA0 hm
    obtain ⟨bl, a0, a1⟩ := Ba.c2
    go_enter Try.func38, Try.ntmps38
    go_wp2_with (fail)
    refine HC.out.mono ?_; rintro e w1 ⟨rfl, hb⟩
    replace L := bstep L L.size hb
    replace Ba := Ba.below hb
    replace K0 := Lib.hid (spAb.rd_below K0.out hb)
    clear a0 a1 bl HC hb
    obtain ⟨bl, a0, a1⟩ := Ba.c2
    go_wp2_with (fail)
    refine bodyPost_ret (v := .tuple #[.slice none 0 0, .int .i64 1]) (by simp [results, Try.results38, go_sem]) rfl ?_
    rw [HE.out.1, HE.out.2]
    exact MadeC.list rfl (World.ownsRow_nil _ _ _ _) (by simp) L
  | true =>
    have HE := Lib.hid (Ab.pp_ok hk)
    have HC := Lib.hid (sIsAb_yes _ _ _ K0.out hk)
    have HI : Hid (∀ S : List Int, S.Perm (F.flatMap Num.ppart) → S.Pairwise Num.leP → S = Num.partsL (Num.lastF F) F) := Lib.hid fun S hp hS => Ab.parts_is hk hp hS
    obtain ⟨g1, -, -, g4, -⟩ := Ab.ok_out hk
    have HLN := Lib.hid (Num.partsL_len (Num.lastF_bd g4).1 (Num.lastF_bd g4).2 g1)
    have HM : Hid (∀ W, Below w.heap.size w W → Calls Try.prog 75 #[.slice A F.length c] W (SortedOf (F.flatMap Num.ppart) W)) := Lib.hid fun W hW => sParts_any A c F W (hA0.below' hW) g1 (fun j hj => by have : 2 ≤ F.getD j 0 ∧ F.getD j 0 ≤ 1000000 := g4 j hj; omega)
    clear hk hA0 hm g1 g4
    rw [HE.out.1, HE.out.2]
    clear HE
    dsimp only at HLN ⊢
    generalize Num.partsL (Num.lastF F) F = R at *
    obtain ⟨bl, a0, a1⟩ := Ba.c2
    go_enter Try.func38, Try.ntmps38
    go_wp2_with (fail)
    refine HC.out.mono ?_; rintro e w1 ⟨rfl, hb⟩
    replace L := bstep L L.size hb
    replace Ba := Ba.below hb
    replace K0 := Lib.hid (spAb.rd_below K0.out hb)
    clear a0 a1 bl HC hb
    obtain ⟨bl, a0, a1⟩ := Ba.c2
    go_wp2_with (fail)
    refine (HM.out _ L).mono ?_; rintro e w2 ⟨ys, u, rfl, hp, hs, ho, hb⟩
    obtain rfl := HI.out ys hp hs
    have LZ := bstep L L.size hb
    have HO := Lib.hid (ownsRow_base ho L.size)
    clear HM hb ho
    go_wp2_with (fail)
    refine bodyPost_ret (v := .tuple #[u, .int .i64 0]) (by simp [results, Try.results38, go_sem]) rfl ?_
    exact MadeC.list rfl HO.out (by have := HLN.out; omega) LZ
set_option maxRecDepth 100000 in
set_option maxHeartbeats 2000000 in
theorem iPrimaryParts_any (v0 : Value) (x0 : Ab) (w : World) (h0 : spAb.rd w v0 x0) : Calls Try.prog 39 #[v0] w (MadeC spI (rPrimaryParts x0) (cPrimaryParts x0) w) := by
  obtain ⟨i0, hi, hz0, hz1, hz2⟩ := info_parts infoI
  obtain ⟨F, K⟩ := x0
  obtain ⟨_, rfl, A, c, rfl, hm, hA0⟩ := h0
  replace hA0 : RdI w A F := hA0
  replace hm : F.length ≤ maxLen := hm
  have L : Below w.heap.size w (w.alloc (.cells [.slice A F.length c, .int .i64 K].toArray 38)) := by go_grown
  have Ba : Blk (w.alloc (.cells [.slice A F.length c, .int .i64 K].toArray 38)) w.heap.size [.slice A F.length c, .int .i64 K] 38 := Blk.new w _ _
  have K0 := Lib.hid (spAb.rd_below (x := ⟨F, K⟩) (v := .agg #[.slice A F.length c, .int .i64 K]) ⟨_, rfl, A, c, rfl, hm, hA0⟩ L)
  cases hk : Ab.ok ⟨F, K⟩ with
  | false =>
    have HE := Lib.hid (Ab.pp_bad hk)
    have HC := Lib.hid (isAb_no _ _ _ K0.out hk)
    clear hk hA0 hm
    obtain ⟨bl, a0, a1⟩ := Ba.c2
    go_enter Try.func39, Try.ntmps39
    go_wp2_with (fail)
    refine HC.out.mono ?_; rintro e w1 ⟨rfl, hb⟩
    replace L := bstep L L.size hb
    replace Ba := Ba.below hb
    replace K0 := Lib.hid (spAb.rd_below K0.out hb)
    clear a0 a1 bl HC hb
    obtain ⟨bl, a0, a1⟩ := Ba.c2
    go_wp2_with (fail)
    refine bodyPost_ret (v := .tuple #[.slice none 0 0, .int .i64 1]) (by simp [results, Try.results39, go_sem]) rfl ?_
    rw [HE.out.1, HE.out.2]
    exact MadeC.list rfl (World.ownsRow_nil _ _ _ _) (by simp) L
  | true =>
    have HE := Lib.hid (Ab.pp_ok hk)
    have HC := Lib.hid (isAb_yes _ _ _ K0.out hk)
    obtain ⟨g1, -, -, g4, -⟩ := Ab.ok_out hk
    replace g1 : F.length ≤ 10 := g1
    have HR : Hid (∀ j, j < F.length → 2 ≤ F.getD j 0 ∧ F.getD j 0 ≤ 1000000) := Lib.hid fun j hj => g4 j hj
    have hN := Num.lastF_bd g4
    have HLN := Lib.hid (Num.partsL_len hN.1 hN.2 g1)
    have HTO : Hid (∀ W v, spAb.rd W v ⟨F, K⟩ → Calls Try.prog 66 #[v] W fun e w' => e = .returned (.int .i64 (Num.lastF F)) ∧ Below W.heap.size W w') := Lib.hid fun W v hW => torsion_any v ⟨F, K⟩ W hW
    have HFA : Hid (∀ W, Calls Try.prog 76 #[.int .i64 (Num.lastF F)] W (FacPost W (Num.facP 2 (Num.lastF F)) (Num.facE 2 (Num.lastF F)))) := Lib.hid fun W => (factorize_ok _ W hN.1 hN.2).mono fun e w' h => FacPost.of h
    have HPR : Hid (∀ j, j < (Num.facP 2 (Num.lastF F)).length → 2 ≤ (Num.facP 2 (Num.lastF F)).getD j 0 ∧ (Num.facP 2 (Num.lastF F)).getD j 0 ≤ 1000000) := Lib.hid fun j hj => ⟨(Num.facP_pr hN.1 hj).1, by have := Num.facP_le hN.1 hj; have h2 := hN.2; dsimp only at *; omega⟩
    have hpl : (Num.facP 2 (Num.lastF F)).length ≤ 1000000 := by have := Num.facP_len (d := 2) hN.1; have h2 := hN.2; dsimp only at *; omega
    have HF : Hid (∀ W, Below w.heap.size w W → RdI W A F) := Lib.hid fun W hW => hA0.below' hW
    rw [HE.out.1, HE.out.2]
    clear hk hA0 hm g4 HE hN
    unfold Num.partsL at HLN ⊢
    dsimp only at HLN HTO HFA HPR hpl ⊢
    generalize Num.facE 2 (Num.lastF F) = E at *
    generalize Num.facP 2 (Num.lastF F) = P at *
    generalize Num.lastF F = N at *
    have HGI : Hid (∀ j i, i < F.length → Num.partsAt P F j (i + 1) = if F.getD i 0 % P.getD j 0 = 0 then Num.partsAt P F j i ++ [Num.pp (P.getD j 0) (F.getD i 0)] else Num.partsAt P F j i) := Lib.hid fun j i hi => Num.partsAt_in hi
    have HGO : Hid (∀ j, j < P.length → Num.partsAt P F (j + 1) 0 = Num.partsAt P F j F.length) := Lib.hid fun j hj => Num.partsAt_out hj
    have HGE : Hid (Num.partsAt P F P.length 0 = P.flatMap (Num.partOf F)) := Lib.hid Num.partsAt_end
    have HGS := Lib.hid (Num.partsAt_start P F)
    have HGL : Hid (∀ j i, (Num.partsAt P F j i).length ≤ 20000000) := Lib.hid fun j i => Num.partsAt_len g1 hpl
    generalize P.flatMap (Num.partOf F) = R at *
    generalize hNN : Num.partsAt P F = NN at *
    clear hNN
    obtain ⟨bl, a0, a1⟩ := Ba.c2
    go_enter Try.func39, Try.ntmps39
    go_wp2_with (fail)
    refine HC.out.mono ?_; rintro e w1 ⟨rfl, hb⟩
    replace L := bstep L L.size hb
    replace Ba := Ba.below hb
    replace K0 := Lib.hid (spAb.rd_below K0.out hb)
    clear a0 a1 bl HC hb
    obtain ⟨bl, a0, a1⟩ := Ba.c2
    go_wp2_with (fail)
    refine (HTO.out _ _ K0.out).mono ?_; rintro e w2 ⟨rfl, hb⟩
    replace L := bstep L L.size hb
    replace Ba := Ba.below hb
    clear a0 a1 bl HTO hb
    go_wp2_with (fail)
    refine (HFA.out _).mono ?_; rintro e w3 ⟨B1, d1, B2, d2, rfl, o1, o2, -, hb⟩
    replace L := bstep L L.size hb
    replace Ba := Ba.below hb
    have HQ := Lib.hid o1.reads
    clear HFA hb o1 o2
    go_wp2_with (fail)
    go_loopw [4, 26] (fun s4 s26 wr => ∃ j : Nat, j ≤ P.length ∧ s26 = .int .i64 j ∧ Hid (OwnI wr w3.heap.size s4 (NN j 0)) ∧ Below w3.heap.size w3 wr) (fun _ s26 _ => P.length - (intOf s26).toNat)
    case atStart => exact ⟨0, by omega, rfl, Lib.hid (by rw [HGS.out]; exact World.ownsRow_nil _ _ _ _), Below.refl _ _⟩
    case round =>
      obtain ⟨j, hj, rfl, HO, bw⟩ := hrel
      obtain ⟨bl, a0, a1⟩ := (Ba.below bw).c2
      by_cases hlt : j < P.length
      · obtain ⟨g, o, rfl, hg, hc⟩ := (HQ.out.below' bw) j hlt
        have j0 : (0 : Int) ≤ (j : Int) := by omega
        have j1 : (j : Int) < (P.length : Int) := by omega
        obtain ⟨p1, p2⟩ := HPR.out j hlt
        have HGJ : Hid (∀ i, i < F.length → NN j (i + 1) = if F.getD i 0 % P.getD j 0 = 0 then NN j i ++ [Num.pp (P.getD j 0) (F.getD i 0)] else NN j i) := Lib.hid fun i hi => HGI.out j i hi
        have HGN := Lib.hid (HGO.out j hlt)
        have HGM : Hid (∀ i, (NN j i).length ≤ 20000000) := Lib.hid fun i => HGL.out j i
        generalize P.getD j 0 = p at *
        go_wp2_with (fail)
        clear a0 a1 bl
        generalize wr = W0 at *
        go_loopw [4, 33] (fun s4 s33 wq => ∃ i : Nat, i ≤ F.length ∧ s33 = .int .i64 i ∧ Hid (OwnI wq w3.heap.size s4 (NN j i)) ∧ Below w3.heap.size w3 wq) (fun _ s33 _ => F.length - (intOf s33).toNat)
        case atStart => exact ⟨0, by omega, rfl, HO, bw⟩
        case round =>
          obtain ⟨i, hi', rfl, HO5, bw5⟩ := hrel
          by_cases hlt5 : i < F.length
          · obtain ⟨g5, o5, rfl, hg5, hc5⟩ := (HF.out _ (bstep L L.size bw5)) i hlt5
            have i0' : (0 : Int) ≤ (i : Int) := by omega
            have i1 : (i : Int) < (F.length : Int) := by omega
            obtain ⟨x1, x2⟩ := HR.out i hlt5
            have EC := Lib.hid (HGJ.out i hlt5)
            have xl := HGM.out i
            have HB := Lib.hid HO5.out.base_le
            have bws := bw5.size
            generalize F.getD i 0 = x at *
            have f1 : 1 ≤ x := by omega
            have HRM := Lib.hid (removePrime_any x p wr p1 p2 f1 x2)
            have vb := Num.vr_bd (p := p) p1 f1
            have dv := Num.div_vr (p := p) p1 f1
            obtain ⟨vb1, vb2⟩ := vb
            by_cases hm : x % p = 0
            · have gt := Num.ve_pos p1 f1 hm
              rw [if_pos hm] at EC
              have pb := Num.pp_bd (p := p) p1 f1
              obtain ⟨pb1, pb2⟩ := pb
              have DV := Lib.hid dv
              clear hm dv
              generalize NN j i = X at *
              generalize Num.ve p x = V at *
              generalize Num.vr p x = U at *
              generalize Num.pp p x = Y at *
              have un : ¬ U = 0 := by omega
              have x0 : 0 ≤ x := by omega
              go_wp2_with (fail)
              refine HRM.out.mono ?_; rintro e w6 ⟨rfl, rfl⟩
              clear HRM
              go_wp2_with (first | (at_builtin; refine wpList_append_own_at _ rfl (.tmp 45) (.tmp 49) 25 rfl w3.heap.size 2 i0 (.int .i64 0) 1 8 Try.underlying25 hi hz0 hz1 hz2 rfl (by decide) _ _ _ rfl (HO5.out.alloc _) ⟨_, 0, none⟩ 1 1 [.int .i64 (x / U)] rfl rfl (cell_one_new _ _ _) (by simp [Value.oneCell']) (by unfold maxLen; omega) (by omega) (by simp; omega) ?_; intro v3 w3' own3 gr3 _ at3))
              exact ⟨⟨i + 1, by omega, by go_num, Lib.hid (by rw [EC.out, ← DV.out]; exact OwnI.snoc own3), (bw5.alloc (by omega) _).grown gr3 (by simp; omega) HB.out⟩, by simp [intOf]; omega⟩
            · have e0 := Num.v_stop f1 p1 hm
              rw [if_neg hm] at EC
              obtain ⟨e1, e2⟩ := e0
              rw [e1] at HRM
              clear hm dv e1 e2
              generalize NN j i = X at *
              generalize Num.vr p x = U at *
              go_wp2_with (fail)
              refine HRM.out.mono ?_; rintro e w6 ⟨rfl, rfl⟩
              clear HRM
              go_wp2_with (fail)
              exact ⟨⟨i + 1, by omega, by go_num, Lib.hid (by rw [EC.out]; exact HO5.out), bw5⟩, by simp [intOf]; omega⟩
          · obtain rfl : i = F.length := by omega
            have hge : ¬ ((F.length : Int) < (F.length : Int)) := by omega
            go_wp2_with (fail)
            exact ⟨⟨j + 1, by omega, by go_num, Lib.hid (by rw [HGN.out]; exact HO5.out), bw5⟩, by simp [intOf]; omega⟩
      · obtain rfl : j = P.length := by omega
        have hge : ¬ ((P.length : Int) < (P.length : Int)) := by omega
        have LZ := bstep L L.size bw
        rw [HGE.out] at HO
        have HO9 := Lib.hid (ownsRow_base HO.out L.size)
        go_wp2_with (fail)
        refine bodyPost_ret (v := .tuple #[u4, .int .i64 0]) (by simp [results, Try.results39, go_sem]) rfl ?_
        exact MadeC.list rfl HO9.out (by have := HLN.out; omega) LZ
theorem iPrimaryParts_ok (v0 : Value) (x0 : Ab) (w : World) (h0 : spAb.rd w v0 x0) (s0 : spAb.sz x0 ≤ 1048576) : Calls Try.prog 39 #[v0] w (MadeC spI (rPrimaryParts x0) (cPrimaryParts x0) w) := iPrimaryParts_any v0 x0 w h0
theorem sPrimaryParts_ok (v0 : Value) (x0 : Ab) (w : World) (h0 : spAb.rd w v0 x0) (s0 : spAb.sz x0 ≤ 1048576) : Calls Try.prog 38 #[v0] w (MadeC spI (rPrimaryParts x0) (cPrimaryParts x0) w) := sPrimaryParts_any v0 x0 w h0
end Go.Proofs.Ytihdidbikeaafaa
