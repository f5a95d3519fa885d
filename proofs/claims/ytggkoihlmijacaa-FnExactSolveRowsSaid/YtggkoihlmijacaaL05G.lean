/- The model's l02Solve. -/
import Derived.Test.YtggkoihlmijacaaL03D
import Derived.Test.YtggkoihlmijacaaL03N
import Derived.Test.YtggkoihlmijacaaL03H
import Derived.Test.YtggkoihlmijacaaApZ
import Derived.Test.YtggkoihlmijacaaKB
import Derived.Test.YtggkoihlmijacaaKC
namespace Go.Proofs.Ytggkoihlmijacaa
open Go.RowKit
set_option linter.unusedVariables false
set_option linter.unusedSimpArgs false

theorem Num.neg_one {p : Int} (hp : 2 ≤ p) : Num.neg p 1 = p - 1 := by
  unfold Num.neg
  rw [show (-1 : Int) = (p - 1) + p * (-1) by omega, Int.add_mul_emod_self_left, Int.emod_eq_of_lt (by omega) (by omega)]
def Num.aheadTo (E : List (List Int)) (C j : Nat) : List (List Int) := (E.take j).filter fun r => decide (Num.lead r < C)
theorem Num.aheadTo_yes {E : List (List Int)} {C j : Nat} (h : j < E.length) (hl : Num.lead (E.getD j []) < C) : Num.aheadTo E C (j + 1) = Num.aheadTo E C j ++ [E.getD j []] := by
  unfold Num.aheadTo
  rw [Num.take_snoc _ [] h, List.filter_append]
  generalize E.getD j [] = r at *
  rw [List.filter_cons_of_pos (by simpa using hl)]
  rfl
theorem Num.aheadTo_no {E : List (List Int)} {C j : Nat} (h : j < E.length) (hl : ¬ Num.lead (E.getD j []) < C) : Num.aheadTo E C (j + 1) = Num.aheadTo E C j := by
  unfold Num.aheadTo
  rw [Num.take_snoc _ [] h, List.filter_append]
  generalize E.getD j [] = r at *
  rw [List.filter_cons_of_neg (by simpa using hl)]
  simp
theorem Num.aheadTo_len {E : List (List Int)} {C j : Nat} : (Num.aheadTo E C j).length ≤ j := by
  unfold Num.aheadTo
  exact Nat.le_trans (List.length_filter_le _ _) (by rw [List.length_take]; omega)
theorem spI_rd_take {w : World} {A : Option Addr} {n c C : Nat} {x : List Int} (h : spI.rd w (.slice A n c) x) (hC : C ≤ x.length) : spI.rd w (.slice A C c) (x.take C) := by
  obtain ⟨A', c', e, hm, hr⟩ := h
  simp only [Value.slice.injEq] at e
  obtain ⟨rfl, -, rfl⟩ := e
  have hl : (x.take C).length = C := by rw [List.length_take]; omega
  refine ⟨A, c, by rw [hl], by rw [hl]; omega, fun j hj => ?_⟩
  rw [hl] at hj
  obtain ⟨g, o, e1, e2, e3⟩ := hr j (by omega)
  refine ⟨g, o, e1, e2, ?_⟩
  rw [e3, List.getD_eq_getElem?_getD, List.getD_eq_getElem?_getD, List.getElem?_take_of_lt hj]
theorem spI_none (w : World) (A : Option Addr) (d : Nat) : spI.rd w (.slice A 0 d) [] := ⟨A, d, rfl, by simp, fun j hj => by simp at hj⟩
theorem spI_cap {w : World} {S : Nat → Prop} {A : Option Addr} {n c : Nat} {x : List Int} (h : spI.own w S (.slice A n c) x) : (A = none ∧ n = 0 ∧ c = 0) ∨ ∃ g, A = some ⟨g, 0, none⟩ ∧ n ≤ c ∧ c ≤ maxLen ∧ g < w.heap.size ∧ ∀ j, j < x.length → w.cell? ⟨g, j, none⟩ = some (.int .i64 (x.getD j 0)) := by
  obtain ⟨h1, h2, h3⟩ := h
  have h1' := h1
  rcases h1.2 with ⟨hv, h0⟩ | ⟨g, cap, cur, hv, hb, hg, q1, q2, q3⟩
  · simp only [Value.slice.injEq] at hv
    exact .inl ⟨hv.1, hv.2.1, hv.2.2⟩
  · have hgl := h3 g (h2 g (by rw [hv]; rfl))
    have hcell : ∀ j, j < x.length → w.cell? ⟨g, j, none⟩ = some (.int .i64 (x.getD j 0)) := fun j hj => by
      rw [hv] at h1'
      rw [h1'.cellAt j (by simpa using hj)]; simp [hj]
    simp only [Value.slice.injEq] at hv
    obtain ⟨e1, e2, e3⟩ := hv
    exact .inr ⟨g, e1, by omega, by omega, hgl, hcell⟩
def SolvePost (p : Int) (rows : List (List Int)) (b : List Int) (w : World) (e : Ending) (w' : World) : Prop :=
  (Num.lead (Num.restV p rows b) < b.length ∧ e = .returned (.tuple #[.slice none 0 0, .bool false]) ∧ Below w.heap.size w w') ∨
  (¬ Num.lead (Num.restV p rows b) < b.length ∧ ∃ u S, e = .returned (.tuple #[u, .bool true]) ∧ spI.own w' S u (Num.solveV p rows b) ∧ (∀ k, S k → w.heap.size ≤ k) ∧ Below w.heap.size w w')
set_option maxRecDepth 100000 in
set_option maxHeartbeats 3000000 in
theorem sSolve_any (p : Int) (rv bv : Value) (rows : List (List Int)) (b : List Int) (C : Nat) (w : World) (hr : spII.rd w rv rows) (hb : spI.rd w bv b) (hgp : Num.gp p = true) (hrv : ∀ i, i < rows.length → Num.Vec p C (rows.getD i [])) (vb : Num.Vec p C b) (hC : C ≤ 100) (hrl : rows.length ≤ 100) :
    Calls Try.prog 81 #[.int .i64 p, rv, .int .i64 C, bv] w (SolvePost p rows b w) := by
  obtain ⟨j0, ji, jz0, jz1, jz2⟩ := info_parts infoI
  obtain ⟨i0, hi, hz0, hz1, hz2⟩ := info_parts infoII
  obtain ⟨hp1, hp2⟩ := Num.gp_le hgp
  have E := Num.wide_ech hgp hrv
  have hel := Num.wide_len hgp hrv
  have bl := vb.len
  obtain ⟨HV, RV, -, hsv⟩ := Num.solve_parts hgp hrv vb
  have hsh := Num.solve_head hgp hrv vb
  have NE := Num.null_ech hgp (Num.vecs_of hrv)
  have nl := Num.null_length p rows C
  have hhl := HV.len
  have hng := Num.neg_one hp1
  have vz : Num.Vec p (C + rows.length) (b ++ Num.zeroV rows.length) := vb.app (Num.Vec.zeros (by omega) _)
  have vd : Num.Vec p rows.length ((Num.headV p rows C b).drop C) := ⟨by rw [List.length_drop]; omega, fun i => by rw [Num.drop_get]; exact HV.lo _, fun i => by rw [Num.drop_get]; exact HV.hi _⟩
  have HWD := Lib.hid (sWide_any p rv rows C w hr hgp hrv hC hrl)
  have HOW : Hid (∀ W, spI.rd W bv b → Calls Try.prog 104 #[bv] W (Made spI b W)) := Lib.hid fun W hW => sOwn_any bv b W hW (by omega)
  have HNU : Hid (∀ W, spII.rd W rv rows → Calls Try.prog 69 #[.int .i64 p, rv, .int .i64 C] W (Made spII (Num.nullR p rows C) W)) := Lib.hid fun W hW => sNull_any p rv rows C W hW hgp hrv hC hrl
  have HC2 : Hid (∀ W u v, spII.rd W u (Num.nullR p rows C) → spI.rd W v (Num.scaleV p (p - 1) ((Num.headV p rows C b).drop C)) → Calls Try.prog 55 #[.int .i64 p, u, v] W (Made spI (Num.solveV p rows b) W)) := Lib.hid fun W u v hu hv => by
    rw [hsv, hng]
    exact sClear_any p u v _ _ rows.length W hu hv hp1 hp2 NE.vec (Num.Vec.scale (by omega) vd.len) (by omega) (by omega)
  have htk : ∀ i, i < ((Num.wideE p rows).take (Num.place (Num.wideE p rows) C)).length → Num.Vec p (C + rows.length) (((Num.wideE p rows).take (Num.place (Num.wideE p rows) C)).getD i []) := fun i hi => by
    rw [List.length_take] at hi
    rw [List.getD_eq_getElem?_getD, List.getElem?_take_of_lt (by omega), ← List.getD_eq_getElem?_getD]
    exact E.vec i (by omega)
  have HC1 : Hid (∀ W u v, spII.rd W u ((Num.wideE p rows).take (Num.place (Num.wideE p rows) C)) → spI.rd W v (b ++ Num.zeroV rows.length) → Calls Try.prog 55 #[.int .i64 p, u, v] W (Made spI (Num.headV p rows C b) W)) := Lib.hid fun W u v hu hv =>
    sClear_any p u v _ _ (C + rows.length) W hu hv hp1 hp2 htk vz (by omega) (by rw [List.length_take]; omega)
  have HZ : Hid (∀ A d W, spI.rd W (.slice A C d) ((Num.headV p rows C b).take C) → Calls Try.prog 54 #[.slice A C d] W fun e w' => e = .returned (.bool (decide (¬ Num.lead (Num.restV p rows b) < b.length))) ∧ W = w') := Lib.hid fun A d W hW => by
    have hz := sZero_any (.slice A C d) _ W hW (by rw [List.length_take]; omega)
    have e : decide (((Num.headV p rows C b).take C).length ≤ Num.lead ((Num.headV p rows C b).take C)) = decide (¬ Num.lead (Num.restV p rows b) < b.length) := by
      rw [decide_eq_decide, Num.lead_take (by omega), bl, hsh]
      constructor
      · rintro h ⟨c, h1, h2⟩; exact h2 (h c h1)
      · intro h c hc
        refine Classical.byContradiction fun hne => h ⟨c, hc, hne⟩
    rw [e] at hz
    exact hz
  have HSC : Hid (∀ A d W, spI.rd W (.slice A ((Num.headV p rows C b).length - C) d) ((Num.headV p rows C b).drop C) → Calls Try.prog 99 #[.int .i64 p, .int .i64 (p - 1), .slice A ((Num.headV p rows C b).length - C) d] W (Made spI (Num.scaleV p (p - 1) ((Num.headV p rows C b).drop C)) W)) := Lib.hid fun A d W hW =>
    sScale_any p (p - 1) _ _ rows.length W hW hp1 hp2 (by omega) (by omega) vd (by omega)
  have HAH : Hid (Num.aheadTo (Num.wideE p rows) C (Num.wideE p rows).length = (Num.wideE p rows).take (Num.place (Num.wideE p rows) C)) := Lib.hid (by
    unfold Num.aheadTo
    rw [List.take_length, E.ahead])
  have HVEC := Lib.hid E.vec
  have hel1 : (Num.wideE p rows).length ≤ rows.length := Nat.le_of_eq hel
  have hel2 : rows.length ≤ (Num.wideE p rows).length := Nat.le_of_eq hel.symm
  have hh1 : (Num.headV p rows C b).length ≤ C + rows.length := Nat.le_of_eq hhl
  have hh2 : C + rows.length ≤ (Num.headV p rows C b).length := Nat.le_of_eq hhl.symm
  have hbl1 : b.length ≤ C := Nat.le_of_eq bl
  have hbl2 : C ≤ b.length := Nat.le_of_eq bl.symm
  have HR := Lib.hid hr
  have HB := Lib.hid hb
  obtain ⟨Ar, cr, rfl, -, -⟩ := hr
  obtain ⟨Ab, cb, rfl, -, -⟩ := spI_form hb
  have hrest : b.length ≤ 100 := by omega
  unfold SolvePost
  clear hgp hrv vb E hel bl HV RV hsv hsh NE nl hhl hng vz vd htk hb
  generalize Num.lead (Num.restV p rows b) = ld at *
  generalize Num.headV p rows C b = hd at *
  generalize Num.scaleV p (p - 1) (hd.drop C) = sx at *
  generalize Num.solveV p rows b = sv at *
  generalize Num.nullR p rows C = nr at *
  generalize Num.wideE p rows = e at *
  generalize e.take (Num.place e C) = tk at *
  go_enter Try.func81, Try.ntmps81
  go_wp2_with (fail)
  refine HWD.out.mono ?_; rintro e' w1 ⟨u1, S1, rfl, ow1, hS1, hb1⟩
  obtain ⟨Ae, ce, rfl, -, -⟩ := spII.own_rd ow1
  have HE := Lib.hid (spII.own_rd ow1)
  replace HB := Lib.hid (spI.rd_below HB.out hb1)
  clear ow1 hS1 HWD
  go_wp2_with (fail)
  refine (HOW.out _ HB.out).mono ?_; rintro e' w2 ⟨u2, S2, rfl, ow2, hS2, hb2⟩
  obtain ⟨Ao, co, rfl, -, -⟩ := spI_form (spI.own_rd ow2)
  have L2 := bstep hb1 hb1.size hb2
  obtain ⟨v3, w3, hrun, own3, gr3, at3⟩ := run_append_zeros_own (P := Try.prog) w2 0 31 3 31 2 j0 (.int .i64 0) 1 8 .i64 .i64 Try.underlying31 Try.underlying3 ji jz0 jz1 jz2 rfl (by decide) (.slice Ao b.length co) b.length (b.map (Value.int .i64)) ow2.1 rows.length (fun u hu => by rw [zeros_ints] at hu; exact oneCell_ints _ u hu) (by unfold maxLen; omega) (by omega) (Nat.zero_le _)
  have hob : ∀ k, (Value.slice Ao b.length co).ownBlock = some k → w1.heap.size ≤ k := fun k hk => hS2 k (ow2.2.1 k hk)
  have b3 : Below w1.heap.size w1 w3 := hb2.grown gr3 hb2.size hob
  have HV3 : Hid (spI.rd w3 v3 (b ++ Num.zeroV rows.length)) := Lib.hid (by
    rw [zeros_ints, ← List.map_append] at own3
    obtain ⟨A3, c3, rfl, hm3⟩ := ownsRow_cap own3
    have hl : (b ++ Num.zeroV rows.length).length = b.length + rows.length := by simp [Num.zeroV]
    have own4 : w3.ownsRow 0 2 1 (.slice A3 (b.length + rows.length) c3) (b.length + rows.length) ((b ++ Num.zeroV rows.length).map (Value.int .i64)) := own3
    exact ⟨A3, c3, by rw [hl], by rw [hl]; omega, RdI.own own4⟩)
  have L3 := bstep hb1 hb1.size b3
  have HRUN := Lib.hid hrun
  have HE3 := Lib.hid (spII.rd_below HE.out b3)
  have hb1s := hb1.size
  clear hrun own3 at3 ow2 hS2 HB HE hob b3 L2 hb1 hb2
  go_wp2_with (at_builtin; refine Lib.wpList_append_run _ rfl _ _ _ _ rfl _ _ rfl rfl _ _ HRUN.out ?_)
  clear HRUN gr3
  go_loopw [12, 13] (fun s12 s13 wr => ∃ j : Nat, s13 = .int .i64 j ∧ j ≤ e.length ∧ Hid (Bag 31 spI [] w3.heap.size wr s12 (Num.aheadTo e C j)) ∧ Below w3.heap.size w3 wr) (fun _ s13 _ => e.length - (intOf s13).toNat)
  case atStart => exact ⟨0, rfl, by omega, Lib.hid (by rw [show Num.aheadTo e C 0 = [] by simp [Num.aheadTo]]; exact Bag.nil (World.ownsRow_lit w3 #[] 0 (Nat.le_refl _) (by unfold maxLen; omega) rfl)), by go_grown⟩
  case round =>
    obtain ⟨j, rfl, hj, HG, bel⟩ := hrel
    by_cases hlt : j < e.length
    · obtain ⟨g, o, u, rfl, hg, hc0, hru0⟩ := spL_row HE3.out hlt
      have hc : wr.cell? ⟨g, o + j, none⟩ = some u := by rw [bel.cell hg]; exact hc0
      have j0 : (0 : Int) ≤ (j : Int) := by omega
      have j1 : (j : Int) < (e.length : Int) := by omega
      have V := HVEC.out j hlt
      have vl := V.len
      have HL := Lib.hid (sLead_any u (e.getD j []) wr (spI.rd_below hru0 bel) (by omega))
      have hlb := Num.lead_le (e.getD j [])
      have hlb2 : (Num.lead (e.getD j []) : Int) ≤ 1000 := by omega
      by_cases hlc : Num.lead (e.getD j []) < C
      · have ET := Lib.hid (Num.aheadTo_yes hlt hlc)
        have hlc' : (Num.lead (e.getD j []) : Int) < (C : Int) := by omega
        have hnl := Num.aheadTo_len (E := e) (C := C) (j := j)
        obtain ⟨Bu, cu, rfl, -, -⟩ := spI_form hru0
        obtain ⟨vs, h1, h2⟩ := Bag.push (w0 := w3) HG.out bel hru0
        have hbl := Lib.hid HG.out.block
        obtain ⟨A', c', e9⟩ := HG.out.form
        subst e9
        have HVS := Lib.hid (World.ownsRow.alloc h1 (.cells #[.slice Bu (e.getD j []).length cu] 31))
        have HP := Lib.hid h2
        clear V vl hru0 hc0 h1 h2 hlb hlc
        generalize Num.lead (e.getD j []) = q at *
        generalize e.getD j [] = x at *
        generalize x.length = ln at *
        go_wp2_with (fail)
        refine HL.out.mono ?_; rintro e' w4 ⟨rfl, rfl⟩
        go_wp2_with (first | (at_builtin; refine wpList_append_lies _ rfl _ _ 22 rfl w3.heap.size 31 i0 (.slice none 0 0) 1 24 Try.underlying22 hi hz0 hz1 hz2 rfl (by decide) _ _ vs rfl HVS.out ⟨_, 0, none⟩ 1 1 [.slice Bu ln cu] rfl rfl (cell_one_new _ _ _) (by simp [Value.oneCell']) (by decide) (by unfold maxLen; omega) (by omega) (by have := bel.size; simp; omega) _ rfl ?_; intro g5 cap5 w5 own5 gr5 at5 lt5))
        have hws := bel.size
        obtain ⟨bag, bel5⟩ := HP.out _ _ _ ((Below.refl _ _).alloc (Nat.le_refl _) _) own5 gr5 (by rcases at5 with h' | h'; exact .inl h'.symm; exact .inr (fun g' e' => by simp [Value.ownBlock] at e'; simp at h'; omega))
        have HG5 : Hid (Bag 31 spI [] w3.heap.size w5 (.slice (some ⟨g5, 0, none⟩) ((Num.aheadTo e C j).length + 1) cap5) (Num.aheadTo e C (j + 1))) := Lib.hid (by rw [ET.out]; exact bag)
        clear own5 gr5 at5 lt5 HVS HP bag HG hbl
        go_wp2_with (fail)
        exact ⟨⟨j + 1, by go_num, by omega, HG5, bel5⟩, by simp [intOf]; omega⟩
      · have ET := Lib.hid (Num.aheadTo_no hlt hlc)
        have hlc' : ¬ (Num.lead (e.getD j []) : Int) < (C : Int) := by omega
        clear V vl hru0 hc0 hlb hlc
        generalize Num.lead (e.getD j []) = q at *
        go_wp2_with (fail)
        refine HL.out.mono ?_; rintro e' w4 ⟨rfl, rfl⟩
        go_wp2_with (fail)
        exact ⟨⟨j + 1, by go_num, by omega, Lib.hid (by rw [ET.out]; exact HG.out), bel⟩, by simp [intOf]; omega⟩
    · obtain rfl : j = e.length := by omega
      have hge : ¬ ((e.length : Int) < (e.length : Int)) := by omega
      rw [HAH.out] at HG
      have HGR := Lib.hid HG.out.rdII
      have HV4 := Lib.hid (spI.rd_below HV3.out bel)
      have L4 := bstep L3 L3.size bel
      obtain ⟨A', c', e9⟩ := HG.out.form
      subst e9
      clear HG HE3 HV3 L3 bel
      go_wp2_with (fail)
      refine (HC1.out _ _ _ HGR.out HV4.out).mono ?_; rintro e' w5 ⟨u5, S5, rfl, ow5, hS5, hb5⟩
      obtain ⟨A5, c5, rfl, -, -⟩ := spI_form (spI.own_rd ow5)
      have HRD5 := Lib.hid (spI.own_rd ow5)
      have L5 := bstep L4 L4.size hb5
      have hcap := spI_cap ow5
      have cc0 : (0 : Int) ≤ (C : Int) := by omega
      have cc1 : (C : Int) ≤ (hd.length : Int) := by omega
      have HTK := Lib.hid (spI_rd_take HRD5.out (by omega : C ≤ hd.length))
      clear HC1 HGR HV4 L4 hb5 hS5 ow5
      have HDL : Hid ((hd.drop C).length = hd.length - C) := Lib.hid List.length_drop
      have HS0 : Hid (hd.length - C = 0 → ∀ n A d W, n = 0 → Calls Try.prog 99 #[.int .i64 p, .int .i64 (p - 1), .slice A n d] W (Made spI sx W)) := Lib.hid fun e0 n A d W hn0 => by
        subst hn0
        have h := HSC.out A d W (by
          rw [e0, show hd.drop C = [] from List.eq_nil_of_length_eq_zero (by rw [HDL.out]; exact e0)]
          exact spI_none _ _ _)
        rwa [e0] at h
      by_cases hl : ld < b.length
      · rw [decide_eq_false (fun h => h hl)] at HZ
        clear HS0 HSC
        rcases hcap with ⟨rfl, hn, rfl⟩ | ⟨gz, rfl, hcz, hcm, hgl, hcell⟩
        · obtain rfl : C = 0 := by omega
          go_wp2_with (fail)
          refine (HZ.out _ _ _ HTK.out).mono ?_; rintro e' w6 ⟨rfl, rfl⟩
          go_wp2_with (fail)
          refine bodyPost_ret (v := .tuple #[.slice none 0 0, .bool false]) (by simp [results, Try.results81, go_sem]) rfl ?_
          exact .inl ⟨hl, rfl, L5⟩
        · unfold maxLen at hcm
          have cc2 : C ≤ c5 := by omega
          have cc4 : (C : Int) ≤ (c5 : Int) := by omega
          clear hcell
          go_wp2_with (fail)
          refine (HZ.out _ _ _ HTK.out).mono ?_; rintro e' w6 ⟨rfl, rfl⟩
          go_wp2_with (fail)
          refine bodyPost_ret (v := .tuple #[.slice none 0 0, .bool false]) (by simp [results, Try.results81, go_sem]) rfl ?_
          exact .inl ⟨hl, rfl, L5⟩
      · rw [decide_eq_true hl] at HZ
        rcases hcap with ⟨rfl, hn, rfl⟩ | ⟨gz, rfl, hcz, hcm, hgl, hcell⟩
        · obtain rfl : C = 0 := by omega
          go_wp2_with (fail)
          refine (HZ.out _ _ _ HTK.out).mono ?_; rintro e' w6 ⟨rfl, rfl⟩
          go_wp2_with (fail)
          refine (HS0.out (by omega) _ _ _ _ (by omega)).mono ?_; rintro e' w7 ⟨u7, S7, rfl, ow7, hS7, hb7⟩
          have L7 := bstep L5 L5.size hb7
          have HX7 := Lib.hid (spI.own_rd ow7)
          obtain ⟨A7, c7, rfl, -, -⟩ := spI_form (spI.own_rd ow7)
          clear ow7 hS7 HSC HZ HTK hb7
          go_wp2_with (fail)
          refine (HNU.out _ (spII.rd_below HR.out L7)).mono ?_; rintro e' w8 ⟨u8, S8, rfl, ow8, hS8, hb8⟩
          have L8 := bstep L7 L7.size hb8
          obtain ⟨A8, c8, rfl, -, -⟩ := spII.own_rd ow8
          have HX8 := Lib.hid (spII.own_rd ow8)
          replace HX7 := Lib.hid (spI.rd_below HX7.out hb8)
          clear ow8 hS8 hb8 HNU
          go_wp2_with (fail)
          refine (HC2.out _ _ _ HX8.out HX7.out).mono ?_; rintro e' w9 ⟨u9, S9, rfl, ow9, hS9, hb9⟩
          have h8s := L8.size
          have L9 := bstep L8 L8.size hb9
          go_wp2_with (fail)
          refine bodyPost_ret (v := .tuple #[u9, .bool true]) (by simp [results, Try.results81, go_sem]) rfl ?_
          exact .inr ⟨hl, u9, S9, rfl, ow9, fun k hk => by have := hS9 k hk; omega, L9⟩
        · have HSD : Hid (∀ d, spI.rd w5 (.slice (some ⟨gz, C, none⟩) (hd.length - C) d) (hd.drop C)) := Lib.hid fun d => spI_rd_drop rfl hcell hgl (by omega) (by unfold maxLen; omega)
          unfold maxLen at hcm
          have cc2 : C ≤ c5 := by omega
          have cc4 : (C : Int) ≤ (c5 : Int) := by omega
          have cc5 : C ≤ hd.length := by omega
          clear hcell
          by_cases hcc : c5 = C
          · have cc6 : hd.length - C = 0 := by omega
            have HSZ := Lib.hid (HS0.out cc6)
            clear HS0
            subst hcc
            go_wp2_with (fail)
            refine (HZ.out _ _ _ HTK.out).mono ?_; rintro e' w6 ⟨rfl, rfl⟩
            go_wp2_with (fail)
            refine (HSZ.out _ _ _ _ (by omega)).mono ?_; rintro e' w7 ⟨u7, S7, rfl, ow7, hS7, hb7⟩
            have L7 := bstep L5 L5.size hb7
            have HX7 := Lib.hid (spI.own_rd ow7)
            obtain ⟨A7, c7, rfl, -, -⟩ := spI_form (spI.own_rd ow7)
            clear ow7 hS7 HSC HZ HTK hb7
            go_wp2_with (fail)
            refine (HNU.out _ (spII.rd_below HR.out L7)).mono ?_; rintro e' w8 ⟨u8, S8, rfl, ow8, hS8, hb8⟩
            have L8 := bstep L7 L7.size hb8
            obtain ⟨A8, c8, rfl, -, -⟩ := spII.own_rd ow8
            have HX8 := Lib.hid (spII.own_rd ow8)
            replace HX7 := Lib.hid (spI.rd_below HX7.out hb8)
            clear ow8 hS8 hb8 HNU
            go_wp2_with (fail)
            refine (HC2.out _ _ _ HX8.out HX7.out).mono ?_; rintro e' w9 ⟨u9, S9, rfl, ow9, hS9, hb9⟩
            have h8s := L8.size
            have L9 := bstep L8 L8.size hb9
            go_wp2_with (fail)
            refine bodyPost_ret (v := .tuple #[u9, .bool true]) (by simp [results, Try.results81, go_sem]) rfl ?_
            exact .inr ⟨hl, u9, S9, rfl, ow9, fun k hk => by have := hS9 k hk; omega, L9⟩
          · clear HS0
            go_wp2_with (fail)
            refine (HZ.out _ _ _ HTK.out).mono ?_; rintro e' w6 ⟨rfl, rfl⟩
            go_wp2_with (fail)
            refine (HSC.out _ _ _ (HSD.out _)).mono ?_; rintro e' w7 ⟨u7, S7, rfl, ow7, hS7, hb7⟩
            have L7 := bstep L5 L5.size hb7
            have HX7 := Lib.hid (spI.own_rd ow7)
            obtain ⟨A7, c7, rfl, -, -⟩ := spI_form (spI.own_rd ow7)
            clear ow7 hS7 HSC HZ HTK hb7
            go_wp2_with (fail)
            refine (HNU.out _ (spII.rd_below HR.out L7)).mono ?_; rintro e' w8 ⟨u8, S8, rfl, ow8, hS8, hb8⟩
            have L8 := bstep L7 L7.size hb8
            obtain ⟨A8, c8, rfl, -, -⟩ := spII.own_rd ow8
            have HX8 := Lib.hid (spII.own_rd ow8)
            replace HX7 := Lib.hid (spI.rd_below HX7.out hb8)
            clear ow8 hS8 hb8 HNU
            go_wp2_with (fail)
            refine (HC2.out _ _ _ HX8.out HX7.out).mono ?_; rintro e' w9 ⟨u9, S9, rfl, ow9, hS9, hb9⟩
            have h8s := L8.size
            have L9 := bstep L8 L8.size hb9
            go_wp2_with (fail)
            refine bodyPost_ret (v := .tuple #[u9, .bool true]) (by simp [results, Try.results81, go_sem]) rfl ?_
            exact .inr ⟨hl, u9, S9, rfl, ow9, fun k hk => by have := hS9 k hk; omega, L9⟩
end Go.Proofs.Ytggkoihlmijacaa
