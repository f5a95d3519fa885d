/- Presentations: placeRelations. -/
import Derived.Test.YtncpngmplddbkaaL11V
import Derived.Test.YtncpngmplddbkaaL11C
namespace Go.Proofs.Ytncpngmplddbkaa
open Go.RowKit
set_option linter.unusedVariables false
set_option linter.unusedSimpArgs false

/-- A vector copied into a row from a place on. -/
def Num.cpR (f : Nat) (row v : List Int) : List Int := row.take f ++ v ++ row.drop (f + v.length)
theorem spI_copyAt {w : World} {S : Nat → Prop} {g n c f : Nat} {x v : List Int} (h : spI.own w S (.slice (some ⟨g, 0, none⟩) n c) x) (hf : f + v.length ≤ x.length) :
    spI.own (w.setCells g f (v.map (Value.int .i64))) S (.slice (some ⟨g, 0, none⟩) n c) (Num.cpR f x v) ∧ ChgS S w (w.setCells g f (v.map (Value.int .i64))) := by
  obtain ⟨h1, h2, h3⟩ := h
  have hg : S g := h2 g rfl
  obtain rfl : n = x.length := by
    obtain ⟨A', c', hv, _⟩ := ownsRow_cap h1
    simp only [Value.slice.injEq] at hv
    exact hv.2.1
  obtain ⟨o2, g2⟩ := setCellsW_ownsI (v.map (Value.int .i64)) f _ _ h1 (by simpa using hf)
  refine ⟨⟨?_, h2, fun k hk => Nat.lt_of_lt_of_le (h3 k hk) g2.size⟩, ChgS.of_grown g2 (fun k hk => by simp only [Option.some.injEq] at hk; subst hk; exact hg)⟩
  have e : (Num.cpR f x v).length = x.length := by simp only [Num.cpR, List.length_append, List.length_take, List.length_drop]; omega
  rw [e]
  have e2 : (Num.cpR f x v).map (Value.int .i64) = (x.map (Value.int .i64)).take f ++ v.map (Value.int .i64) ++ (x.map (Value.int .i64)).drop (f + (v.map (Value.int .i64)).length) := by
    simp [Num.cpR, List.map_take, List.map_drop]
  rw [e2]
  exact o2
/-- The copy, run. -/
theorem spI_copyRun {w : World} {S : Nat → Prop} {g n c f m d cc : Nat} {A : Option Addr} {x v : List Int} (h : spI.own w S (.slice (some ⟨g, 0, none⟩) n c) x) (hf : f + m ≤ n) (hm : v.length = m) (h0 : 1 ≤ m) (hA : RdI w A v) :
    ∀ ty, (Builtin.copy_ #[22, 22] ty #[.slice (some ⟨g, f, none⟩) (n - f) d, .slice A m cc]).run Try.prog w = .ok (.int .i64 (m : Int)) (w.setCells g f (v.map (Value.int .i64))) := by
  obtain ⟨h1, h2, h3⟩ := h
  obtain rfl : n = x.length := by
    obtain ⟨A', c', hv, _⟩ := ownsRow_cap h1
    simp only [Value.slice.injEq] at hv
    exact hv.2.1
  obtain ⟨g', o, rfl, hg', -⟩ := hA 0 (by omega)
  intro ty
  have hr := run_copy_cells (P := Try.prog) w 22 22 ty 2 g f (x.length - f) d ⟨g', o, none⟩ m cc (v.map (Value.int .i64)) Try.underlying22 rep_szI (by rw [List.length_map, hm]; simp only [Nat.min_def]; split <;> omega)
    (fun j u hj => by
      obtain ⟨hj1, hj2⟩ := List.getElem?_eq_some_iff.1 hj
      rw [List.length_map] at hj1
      obtain ⟨g2, o2, e2, hg2, hc2⟩ := hA j hj1
      simp only [Option.some.injEq, Addr.mk.injEq, and_true] at e2
      obtain ⟨rfl, rfl⟩ := e2
      rw [Addr.add_lit, hc2, ← hj2]
      simp [hj1])
    (fun j hj => by
      rw [List.length_map] at hj
      rw [h1.cellAt (f + j) (by simp; omega), List.getElem?_eq_getElem (by simp; omega)]
      rfl) (fun j hj => h1.frozenAt _) (oneCell_ints v)
  rw [List.length_map, hm] at hr
  exact hr
theorem spI_room {w : World} {S : Nat → Prop} {g n c : Nat} {x : List Int} (h : spI.own w S (.slice (some ⟨g, 0, none⟩) n c) x) : n ≤ c := by
  obtain ⟨h1, h2, h3⟩ := h
  rcases h1.2 with ⟨hv, h0⟩ | ⟨g', cap, cur, hv, hb, hg, q1, q2, q3⟩
  · simp only [Value.slice.injEq] at hv; exact absurd hv.1 (by simp)
  · simp only [Value.slice.injEq] at hv
    omega
def Num.shOk (f : Nat) (sh : List Int → List Int) (cnt N : Nat) (Wp W : List (List Int)) (Jp J : List (List (List Int))) : Prop :=
  (∀ i, i < cnt → (W.getD (f + i) []).length = N ∧ Num.cpR f (W.getD (f + i) []) (Wp.getD i []) = sh (Wp.getD i [])) ∧
  ∀ i, i < cnt → ∀ k, k < cnt - 1 - i → k < (J.getD (f + i) []).length ∧ ((J.getD (f + i) []).getD k []).length = N ∧ Num.cpR f ((J.getD (f + i) []).getD k []) ((Jp.getD i []).getD k []) = sh ((Jp.getD i []).getD k [])
set_option maxRecDepth 100000 in
set_option maxHeartbeats 4000000 in
theorem place_any (f cnt N : Nat) (sh : List Int → List Int) (v0 : Value) (A5 A6 B0 B1 B2 : Option Addr) (c5 c6 b0 b1 b2 : Nat) (W Wp : List (List Int)) (J Jp : List (List (List Int))) (Op : List Int) (S1 S2 : Nat → Prop) (wB w : World)
    (o1 : spII.own w S1 (.slice A5 N c5) W) (o2 : spIII.own w S2 (.slice A6 N c6) J) (d12 : ∀ k, S1 k → ¬ S2 k) (hS : ∀ k, S1 k ∨ S2 k → wB.heap.size ≤ k) (hw : Below wB.heap.size wB w) (hp : RdW wB B1 Wp ∧ RdX wB B2 Jp)
    (SP : Num.Shp cnt Op Wp Jp) (hN : f + cnt ≤ N) (N64 : N ≤ 64) (lW : W.length = N) (lJ : J.length = N) (HS : Num.shOk f sh cnt N Wp W Jp J) :
    Calls Try.prog 71 #[.agg #[v0, .slice A5 N c5, .slice A6 N c6], .int .i64 (f : Int), .agg #[.slice B0 cnt b0, .slice B1 cnt b1, .slice B2 cnt b2]] w fun e w' => e = .returned (.tuple #[]) ∧
      spII.own w' S1 (.slice A5 N c5) (Num.pW sh f Wp W cnt) ∧ spIII.own w' S2 (.slice A6 N c6) (Num.pJ sh f Jp J cnt) ∧ ChgS (fun k => S1 k ∨ S2 k) w w' := by
  obtain ⟨W0, hW0⟩ : ∃ X, (w.alloc (.cells #[v0, .slice A5 N c5, .slice A6 N c6] 29)).alloc (.cells #[.slice B0 cnt b0, .slice B1 cnt b1, .slice B2 cnt b2] 29) = X := ⟨_, rfl⟩
  have bW : Below w.heap.size w W0 := by rw [← hW0]; go_grown
  have BA : Blk W0 w.heap.size [v0, .slice A5 N c5, .slice A6 N c6] 29 := by rw [← hW0]; exact (Blk.new w [v0, .slice A5 N c5, .slice A6 N c6] 29).alloc _
  have BB : Blk W0 (w.heap.size + 1) [.slice B0 cnt b0, .slice B1 cnt b1, .slice B2 cnt b2] 29 := by
    rw [← hW0]
    have := Blk.new (w.alloc (.cells #[v0, .slice A5 N c5, .slice A6 N c6] 29)) [.slice B0 cnt b0, .slice B1 cnt b1, .slice B2 cnt b2] 29
    simpa using this
  have HO1 := Lib.hid (spII.own_below o1 bW)
  have HO2 := Lib.hid (spIII.own_below o2 bW)
  have HLT : Hid (∀ k, S1 k ∨ S2 k → k < w.heap.size) := Lib.hid fun k hk => by
    rcases hk with hk | hk
    · exact spII.own_lt o1 hk
    · exact spIII.own_lt o2 hk
  have HP := Lib.hid hp
  have HHW := Lib.hid hw
  have HHS := Lib.hid hS
  have HSP := Lib.hid SP
  have HSO := Lib.hid HS
  have HLW := Lib.hid lW
  have HLJ := Lib.hid lJ
  have CH0 : ChgS (fun k => S1 k ∨ S2 k) w W0 := ChgS.of_below bW
  have HD := Lib.hid d12
  have c6' := SP.h6
  have HBA := Lib.hid BA
  have HBB := Lib.hid BB
  obtain ⟨l0, x0, x1, x2⟩ := BA.c3
  obtain ⟨l1, y0, y1, y2⟩ := BB.c3
  clear o1 o2 hp hw hS SP HS lW lJ d12 BA BB
  have CHK : Hid (∀ wr, ChgS (fun k => S1 k ∨ S2 k) W0 wr → Blk wr w.heap.size [v0, .slice A5 N c5, .slice A6 N c6] 29 ∧ Blk wr (w.heap.size + 1) [.slice B0 cnt b0, .slice B1 cnt b1, .slice B2 cnt b2] 29 ∧ Below wB.heap.size wB wr) := Lib.hid fun wr ch =>
    ⟨HBA.out.chg ch fun hh => by have := HLT.out _ hh; omega, HBB.out.chg ch fun hh => by have := HLT.out _ hh; omega, bstepS (bstep HHW.out HHW.out.size bW) (Nat.le_trans HHW.out.size bW.size) HHS.out ch⟩
  go_enter Try.func71, Try.ntmps71
  go_wp2_with (fail)
  clear hW0
  go_loopw [15] (fun s15 wr => ∃ i : Nat, s15 = .int .i64 i ∧ i ≤ cnt ∧ Hid (spII.own wr S1 (.slice A5 N c5) (Num.pW sh f Wp W i)) ∧ Hid (spIII.own wr S2 (.slice A6 N c6) J) ∧ Hid (ChgS (fun k => S1 k ∨ S2 k) W0 wr)) (fun s15 _ => cnt - (intOf s15).toNat)
  case atStart => exact ⟨0, rfl, by omega, HO1, HO2, Lib.hid (ChgS.refl _ _)⟩
  case round =>
    clear HO1 HO2
    obtain ⟨i, rfl, hi, O1, O2, ch⟩ := hrel
    obtain ⟨KA, KB, bel⟩ := CHK.out wr ch.out
    obtain ⟨la, xa0, xa1, xa2⟩ := KA.c3
    obtain ⟨lb, xb0, xb1, xb2⟩ := KB.c3
    clear l0 x0 x1 x2 l1 y0 y1 y2 KA KB
    by_cases hlt : i < cnt
    · have i0 : (0 : Int) ≤ (i : Int) := by omega
      have i1 : (i : Int) < (cnt : Int) := by omega
      have wf : IntKind.i64.wrap ((f : Int) + (i : Int)) = (f : Int) + (i : Int) := IntWalk.i64_in _ (by omega)
      have tf : ((f : Int) + (i : Int)).toNat = f + i := by omega
      have f0 : (0 : Int) ≤ (f : Int) + (i : Int) := by omega
      have f1 : (f : Int) + (i : Int) < (N : Int) := by omega
      have wi : IntKind.i64.wrap ((i : Int) + 1) = (i : Int) + 1 := IntWalk.i64_in _ (by omega)
      have g0 : (0 : Int) ≤ (f : Int) := by omega
      have g1 : (f : Int) ≤ (N : Int) := by omega
      obtain ⟨gA, oA, BV, cV, eA, hgA, hcA, hlA, hrA⟩ := (HP.out.1.below' bel) i (by rw [HSP.out.l1]; exact hlt)
      rw [HSP.out.lw i hlt] at hcA
      subst eA
      have hlV := HSP.out.lw i hlt
      obtain ⟨hrow, hcp⟩ := HSO.out.1 i hlt
      have e0 : (Num.pW sh f Wp W i).getD (f + i) [] = W.getD (f + i) [] := by rw [Num.pW_at _ _ _ _ _ (by rw [HLW.out]; omega), if_neg (by omega)]
      obtain ⟨gW, cW, u, T, eW, hSg, hgl, hgc, hgf, oT, hTS, hTg, hput⟩ := spL_in O1.out (j := f + i) (by rw [Num.pW_len, HLW.out]; omega)
      rw [e0] at oT
      simp only [Value.slice.injEq] at eW
      obtain ⟨rfl, -, -⟩ := eW
      obtain ⟨gr, cr, er, hTr, hgr, -, -⟩ := spI_cellAt oT (j := f) (by omega)
      rw [hrow] at er
      subst er
      have hcap := spI_room oT
      have ncr : ¬ (cr = f) := by omega
      obtain ⟨oN, chN⟩ := spI_copyAt (f := f) (v := Wp.getD i []) oT (by omega)
      rw [hcp] at oN
      have hrun := spI_copyRun (f := f) (m := cnt) (d := cr - f) (cc := cV) (v := Wp.getD i []) oT hN hlV (by omega) hrA
      have HO1n := Lib.hid (hput _ _ chN oN)
      have HO2n := Lib.hid (spIII.own_chg O2.out (chN.mono hTS) (fun k h1 h2 => HD.out k h2 h1))
      have HCn : Hid (ChgS (fun k => S1 k ∨ S2 k) W0 _) := Lib.hid (ch.out.trans (chN.mono (fun k h => .inl (hTS k h))))
      have HRUN := Lib.hid hrun
      have HSTEP : Hid (Num.pW sh f Wp W (i + 1) = (Num.pW sh f Wp W i).set (f + i) (sh (Wp.getD i []))) := Lib.hid rfl
      rw [← HSTEP.out] at HO1n
      generalize (Wp.getD i []).map (Value.int .i64) = cs at *
      clear hrun chN oN oT hput O1 O2 ch hrow hcp e0 hlV hrA bel
      go_wp2_with (first | (refine wpList_copy_runI _ rfl _ _ 22 22 rfl _ _ rfl rfl (HRUN.out _) ?_))
      exact ⟨⟨i + 1, by go_num, by omega, HO1n, HO2n, HCn⟩, by simp [intOf]; omega⟩
    · have hge : ¬ ((i : Int) < (cnt : Int)) := by omega
      obtain rfl : cnt = i := by omega
      have HLP : Hid ((Num.pW sh f Wp W cnt).length = N) := Lib.hid (by rw [Num.pW_len]; exact HLW.out)
      obtain ⟨WN, hWN⟩ : ∃ WN, Num.pW sh f Wp W cnt = WN := ⟨_, rfl⟩
      rw [hWN] at O1 HLP
      have HWN := Lib.hid hWN
      clear hWN
      clear bel
      go_wp2_with (fail)
      go_loopw [35] (fun s35 wr => ∃ i : Nat, s35 = .int .i64 i ∧ i ≤ cnt ∧ Hid (spII.own wr S1 (.slice A5 N c5) WN) ∧ Hid (spIII.own wr S2 (.slice A6 N c6) (Num.pJ sh f Jp J i)) ∧ Hid (ChgS (fun k => S1 k ∨ S2 k) W0 wr)) (fun s35 _ => cnt - (intOf s35).toNat)
      case atStart => exact ⟨0, rfl, by omega, O1, O2, ch⟩
      case round =>
        clear O1 O2 ch xa0 xa1 xa2 la xb0 xb1 xb2 lb
        obtain ⟨i, rfl, hi, O1, O2, ch⟩ := hrel
        obtain ⟨KA, KB, bel⟩ := CHK.out wr ch.out
        obtain ⟨la, xa0, xa1, xa2⟩ := KA.c3
        obtain ⟨lb, xb0, xb1, xb2⟩ := KB.c3
        clear KA KB
        by_cases hlt : i < cnt
        · have i0 : (0 : Int) ≤ (i : Int) := by omega
          have i1 : (i : Int) < (cnt : Int) := by omega
          have wi : IntKind.i64.wrap ((i : Int) + 1) = (i : Int) + 1 := IntWalk.i64_in _ (by omega)
          obtain ⟨gC, oC, BC, cC, eC, hgC0, hcC0, hlC, hrC⟩ := HP.out.2 i (by rw [HSP.out.l2]; exact hlt)
          rw [HSP.out.lj i hlt] at hcC0
          have hgC : gC < wr.heap.size := Nat.lt_of_lt_of_le hgC0 bel.size
          have hcC := (bel.cell hgC0).trans hcC0
          have HRC := Lib.hid hrC
          subst eC
          obtain ⟨lp, hlp⟩ : ∃ lp, lp = cnt - 1 - i := ⟨_, rfl⟩
          rw [← hlp] at hcC
          have hlp6 : lp ≤ 6 := by omega
          have HLJP : Hid ((Jp.getD i []).length = lp) := Lib.hid (by rw [hlp]; exact HSP.out.lj i hlt)
          have HROW : Hid (∀ k, k < lp → ((Jp.getD i []).getD k []).length = cnt ∧ k < (J.getD (f + i) []).length ∧ ((J.getD (f + i) []).getD k []).length = N ∧ Num.cpR f ((J.getD (f + i) []).getD k []) ((Jp.getD i []).getD k []) = sh ((Jp.getD i []).getD k [])) := Lib.hid fun k hk => ⟨HSP.out.lr i hlt k (by omega), HSO.out.2 i hlt k (by omega)⟩
          have hfl : f + i < (Num.pJ sh f Jp J i).length := by rw [Num.pJ_len, HLJ.out]; omega
          have HFL := Lib.hid hfl
          have HPS : Hid (Num.pJ sh f Jp J (i + 1) = Num.jrow (Num.pJ sh f Jp J i) (f + i) sh (Jp.getD i []) lp) := Lib.hid (by rw [Num.pJ_step, HLJP.out])
          have HAT : Hid ((Num.pJ sh f Jp J i).getD (f + i) [] = J.getD (f + i) []) := Lib.hid (by rw [Num.pJ_at _ _ _ _ _ (by rw [HLJ.out]; omega), if_neg (by omega)])
          have HO2 : Hid (spIII.own wr S2 (.slice A6 N c6) (Num.jrow (Num.pJ sh f Jp J i) (f + i) sh (Jp.getD i []) 0)) := Lib.hid (by rw [Num.jrow_zero hfl]; exact O2.out)
          have HLL : Hid ((Num.pJ sh f Jp J i).length = N) := Lib.hid (by rw [Num.pJ_len]; exact HLJ.out)
          generalize Num.pJ sh f Jp J i = js at *
          clear hlp hfl bel hrC
          go_wp2_with (fail)
          go_loopw [42] (fun s42 wr => ∃ j : Nat, s42 = .int .i64 j ∧ j ≤ lp ∧ Hid (spII.own wr S1 (.slice A5 N c5) WN) ∧ Hid (spIII.own wr S2 (.slice A6 N c6) (Num.jrow js (f + i) sh (Jp.getD i []) j)) ∧ Hid (ChgS (fun k => S1 k ∨ S2 k) W0 wr)) (fun s42 _ => lp - (intOf s42).toNat)
          case atStart => exact ⟨0, rfl, by omega, O1, HO2, ch⟩
          case round =>
            clear O1 HO2 O2 ch xa0 xa1 xa2 la xb0 xb1 xb2 lb hcC hgC hlC
            obtain ⟨j, rfl, hj, O1, O2, ch⟩ := hrel
            obtain ⟨KA, KB, bel⟩ := CHK.out wr ch.out
            obtain ⟨la, xa0, xa1, xa2⟩ := KA.c3
            obtain ⟨lb, xb0, xb1, xb2⟩ := KB.c3
            have hrC := HRC.out.below' bel
            clear hgC0 hcC0
            clear KA KB
            by_cases hlj : j < lp
            · have j0 : (0 : Int) ≤ (j : Int) := by omega
              have j1 : (j : Int) < (lp : Int) := by omega
              have wj : IntKind.i64.wrap ((j : Int) + 1) = (j : Int) + 1 := IntWalk.i64_in _ (by omega)
              have wf : IntKind.i64.wrap ((f : Int) + (i : Int)) = (f : Int) + (i : Int) := IntWalk.i64_in _ (by omega)
              have tf : ((f : Int) + (i : Int)).toNat = f + i := by omega
              have f0 : (0 : Int) ≤ (f : Int) + (i : Int) := by omega
              have f1 : (f : Int) + (i : Int) < (N : Int) := by omega
              have g0 : (0 : Int) ≤ (f : Int) := by omega
              have g1 : (f : Int) ≤ (N : Int) := by omega
              obtain ⟨gD, oD, BD, cD, eD, hgD, hcD, hlD, hrD⟩ := hrC j (by rw [HLJP.out]; exact hlj)
              obtain ⟨hlV, hjl, hrow, hcp⟩ := HROW.out j hlj
              rw [hlV] at hcD
              subst eD
              have eR : (Num.jrow js (f + i) sh (Jp.getD i []) j).getD (f + i) [] = Num.pW sh 0 (Jp.getD i []) (J.getD (f + i) []) j := by rw [Num.jrow_at HFL.out, HAT.out]
              have e0 : (Num.pW sh 0 (Jp.getD i []) (J.getD (f + i) []) j).getD j [] = (J.getD (f + i) []).getD j [] := by rw [Num.pW_at _ _ _ _ _ (by omega), if_neg (by omega)]
              obtain ⟨gJ, cJ, u, T, eJ, hSg, hgl, hgc, hgf, oT, hTS, hTg, hput⟩ := spL_in O2.out (j := f + i) (by rw [Num.jrow_len]; exact HFL.out)
              rw [eR] at oT
              simp only [Value.slice.injEq] at eJ
              obtain ⟨rfl, -, -⟩ := eJ
              obtain ⟨gK, cK, u2, T2, eK, hSg2, hgl2, hgc2, hgf2, oT2, hTS2, hTg2, hput2⟩ := spL_in oT (j := j) (by rw [Num.pW_len]; exact hjl)
              rw [e0] at oT2
              obtain ⟨q, hq⟩ : ∃ q, (Num.pW sh 0 (Jp.getD i []) (J.getD (f + i) []) j).length = q := ⟨_, rfl⟩
              have hjq : (j : Int) < (q : Int) := by rw [← hq, Num.pW_len]; omega
              rw [hq] at eK
              subst eK
              obtain ⟨gr, cr, er, hTr, hgr, -, -⟩ := spI_cellAt oT2 (j := f) (by omega)
              rw [hrow] at er
              subst er
              have hcap := spI_room oT2
              have ncr : ¬ (cr = f) := by omega
              obtain ⟨oN, chN⟩ := spI_copyAt (f := f) (v := (Jp.getD i []).getD j []) oT2 (by omega)
              rw [hcp] at oN
              have hrun := spI_copyRun (f := f) (m := cnt) (d := cr - f) (cc := cD) (v := (Jp.getD i []).getD j []) oT2 hN hlV (by omega) hrD
              have o3 := hput2 _ _ chN oN
              have HO2n := Lib.hid (hput _ _ (chN.mono hTS2) o3)
              have HO1n := Lib.hid (spII.own_chg O1.out (chN.mono (fun k h => hTS k (hTS2 k h))) (fun k h1 h2 => HD.out k h1 h2))
              have HCn : Hid (ChgS (fun k => S1 k ∨ S2 k) W0 _) := Lib.hid (ch.out.trans (chN.mono (fun k h => .inr (hTS k (hTS2 k h)))))
              have HRUN := Lib.hid hrun
              have HST : Hid ((Num.jrow js (f + i) sh (Jp.getD i []) j).set (f + i) ((Num.pW sh 0 (Jp.getD i []) (J.getD (f + i) []) j).set j (sh ((Jp.getD i []).getD j []))) = Num.jrow js (f + i) sh (Jp.getD i []) (j + 1)) := Lib.hid (by rw [← Num.jrow_step HFL.out, eR])
              rw [HST.out] at HO2n
              generalize ((Jp.getD i []).getD j []).map (Value.int .i64) = cs at *
              generalize Num.jrow js (f + i) sh (Jp.getD i []) j = jj at *
              clear hrun chN oN oT oT2 o3 hput hput2 O1 O2 ch hrow hcp e0 eR hlV hrD hq hjl hrC bel HST
              go_wp2_with (first | (refine wpList_copy_runI _ rfl _ _ 22 22 rfl _ _ rfl rfl (HRUN.out _) ?_))
              exact ⟨⟨j + 1, by go_num, by omega, HO1n, HO2n, HCn⟩, by simp [intOf]; omega⟩
            · have hge : ¬ ((j : Int) < (lp : Int)) := by omega
              obtain rfl : lp = j := by omega
              have h9 := O2.out
              rw [← HPS.out] at h9
              have HO9 := Lib.hid h9
              clear h9 O2 hrC bel
              go_wp2_with (fail)
              exact ⟨⟨i + 1, by go_num, by omega, O1, HO9, ch⟩, by simp [intOf]; omega⟩
        · have hge : ¬ ((i : Int) < (cnt : Int)) := by omega
          obtain rfl : cnt = i := by omega
          have HC9 := Lib.hid (CH0.trans ch.out)
          clear bel
          go_wp2_with (fail)
          go_end0
          rw [← HWN.out] at O1
          exact ⟨rfl, O1.out, O2.out, HC9.out⟩
end Go.Proofs.Ytncpngmplddbkaa
